/-
  Plain: the tokens of a text, written with one blank between, are the same tokens.
-/
import Derived.Test.YtpkccmceobonnaaDoorJoinA
import Derived.Test.YtpkccmceobonnaaDoorFixA
namespace Go.Proofs.YtpkccmceobonnaaDoor
open Go.RowKit

theorem runL_take (l : List UInt8) : runL (l.take (runL l)) = runL l := by
  induction l with
  | nil => rfl
  | cons c r ih =>
    rw [runL]
    by_cases h : winB (c.toNat : Int) = true
    · rw [if_pos h, List.take_succ_cons, runL, if_pos h, ih]
    · rw [if_neg h]; rfl
/-- a token by itself is that token -/
theorem one_cut (l : List UInt8) (K : Int) (n : Nat) (h : oneL l = ⟨0, K, n⟩) (hl : l ≠ []) : oneL (l.take n) = ⟨0, K, n⟩ := by
  cases l with
  | nil => exact absurd rfl hl
  | cons c r =>
    cases hb : Blk c with
    | true => rw [oneL_blank c r hb] at h; cases h
    | false =>
      cases hs : Sgn c with
      | true =>
        rw [oneL_sign c r hb hs] at h
        cases h
        exact oneL_sign c [] hb hs
      | false =>
        cases h3 : (c.toNat == 58) with
        | true =>
          cases h4 : ((r.headD 0).toNat == 45) with
          | true =>
            rw [oneL_colon c r hb hs h3 h4] at h
            cases h
            cases r with
            | nil => cases h4
            | cons d r => exact oneL_colon c [d] hb hs h3 h4
          | false => rw [oneL_colon_no c r hb hs h3 h4] at h; cases h
        | false =>
          cases h4 : (c.toNat == 33) with
          | true =>
            cases h5 : ((r.headD 0).toNat == 61) with
            | true =>
              rw [oneL_bang c r hb hs h3 h4 h5] at h
              cases h
              cases r with
              | nil => cases h5
              | cons d r => exact oneL_bang c [d] hb hs h3 h4 h5
            | false => rw [oneL_bang_no c r hb hs h3 h4 h5] at h; cases h
          | false =>
            by_cases h5 : Begins c r
            · rw [oneL_piece c r hb hs h3 h4 h5] at h
              unfold pieceL at h
              by_cases hk : kindL ((c :: r).take (1 + runL r)) = 0
              · rw [if_pos hk] at h; cases h
              · rw [if_neg hk] at h
                cases h
                have e : (c :: r).take (1 + runL r) = c :: r.take (runL r) := by rw [Nat.add_comm, List.take_succ_cons]
                have h5' : Begins c (r.take (runL r)) := by
                  rcases h5 with ⟨a, b⟩ | h5
                  · refine .inl ⟨a, ?_⟩
                    cases r with
                    | nil => exact b
                    | cons d r =>
                      have hw : winB (d.toNat : Int) = true := by
                        have : digB (d.toNat : Int) = true := b
                        simp [winB, lowB, this]
                      rw [runL, if_pos hw, List.take_succ_cons]
                      exact b
                  · exact .inr h5
                have ht : (c :: r.take (runL r)).take (1 + runL r) = c :: r.take (runL r) := by
                  rw [Nat.add_comm, List.take_succ_cons, List.take_take, Nat.min_self]
                rw [e]
                rw [e] at hk
                rw [oneL_piece c _ hb hs h3 h4 h5', runL_take, pieceL, ht, if_neg hk]
            · rw [oneL_none c r hb hs h3 h4 h5] at h; cases h

/-- the bytes of a token -/
def txt (l : List UInt8) (t : Tok) : List UInt8 := (l.drop t.fr.toNat).take (t.to.toNat - t.fr.toNat)
/-- the first k tokens' bytes, a blank between -/
def JT (l : List UInt8) (ts : List Tok) : Nat → List UInt8
  | 0 => []
  | k + 1 => (if 0 < k then JT l ts k ++ [32] else JT l ts k) ++ txt l (ts.getD k ⟨0, 0, 0⟩)
/-- tokens that stand in a text as they do in another one -/
def Like (l : List UInt8) (ts : List Tok) (k : Nat) (T : List UInt8) (zs : List Tok) : Prop := zs.length = k ∧ ∀ i (h : i < zs.length) (h2 : i < ts.length), zs[i].kind = ts[i].kind ∧ ∃ p q : Nat, zs[i].fr = p ∧ zs[i].to = q ∧ p < q ∧ q ≤ T.length ∧ (T.drop p).take (q - p) = txt l ts[i]
/-- a token that stands by itself -/
def Lone (l : List UInt8) (t : Tok) : Prop := ∃ n : Nat, 0 < n ∧ (txt l t).length = n ∧ oneL (txt l t) = ⟨0, t.kind, n⟩ ∧ (t.to.toNat - t.fr.toNat = n)
theorem chain_lone (l : List UInt8) : ∀ (ts : List Tok) (k : Nat), ChainT l k ts → ∀ t ∈ ts, Lone l t
  | [], _, _, t, ht => by cases ht
  | u :: ts, k, ⟨p, n, _, h2, h3, _, h5, h6, h7, h8, h9⟩, t, ht => by
    rcases List.mem_cons.1 ht with rfl | ht
    · have e : txt l t = (l.drop p).take n := by unfold txt; rw [h3, h6]; congr 1; omega
      refine ⟨n, h7, by rw [e]; simp; omega, by rw [e]; exact one_cut _ _ _ h5 (by intro h; have := congrArg List.length h; simp at this; omega), by rw [h3, h6]; omega⟩
    · exact chain_lone l ts (p + n) h9 t ht
theorem all_one (x : List UInt8) (K : Int) (n k : Nat) (h : oneL x = ⟨0, K, n⟩) (hn : 0 < n) (hx : x.length = n) : allF x.length k x = ⟨[⟨K, k, (k + n : Nat)⟩], 0, 0⟩ := by
  cases x with
  | nil => simp at hx; omega
  | cons c r =>
    show allF (r.length + 1) k (c :: r) = _
    rw [allF_tok _ _ _ _ K n h, List.drop_eq_nil_of_le (by omega)]
    cases r.length <;> rfl
theorem jt_like (l : List UInt8) (ts : List Tok) (hL : ∀ t ∈ ts, Lone l t) : ∀ k, k ≤ ts.length → ∃ zs, allF (JT l ts k).length 0 (JT l ts k) = ⟨zs, 0, 0⟩ ∧ Like l ts k (JT l ts k) zs
  | 0, _ => ⟨[], rfl, rfl, fun i h => by simp at h⟩
  | k + 1, hk => by
    obtain ⟨zs, hz, hlen, hlike⟩ := jt_like l ts hL k (by omega)
    have hg : ts.getD k ⟨0, 0, 0⟩ = ts[k] := by rw [List.getD_eq_getElem?_getD, List.getElem?_eq_getElem (by omega)]; rfl
    obtain ⟨n, hn, hxl, ho, _⟩ := hL ts[k] (List.getElem_mem (by omega))
    rcases Nat.eq_zero_or_pos k with h0 | h0
    · subst h0
      have e : JT l ts (0 + 1) = txt l ts[0] := by
        show (if 0 < 0 then JT l ts 0 ++ [32] else JT l ts 0) ++ txt l (ts.getD 0 ⟨0, 0, 0⟩) = _
        rw [hg, if_neg (Nat.lt_irrefl 0)]; rfl
      rw [e]
      refine ⟨[⟨ts[0].kind, 0, (0 + n : Nat)⟩], all_one _ _ n 0 ho hn hxl, rfl, fun i h h2 => ?_⟩
      obtain rfl : i = 0 := by simpa using h
      exact ⟨rfl, 0, n, rfl, by simp, hn, by omega, by rw [List.drop_zero, Nat.sub_zero, List.take_of_length_le (by omega)]⟩
    · have e : JT l ts (k + 1) = JT l ts k ++ 32 :: txt l ts[k] := by
        show (if 0 < k then JT l ts k ++ [32] else JT l ts k) ++ txt l (ts.getD k ⟨0, 0, 0⟩) = _
        rw [hg, if_pos h0]; simp
      rw [e]
      have ha := allF_app (txt l ts[k]) (JT l ts k).length (JT l ts k) 0 (JT l ts k ++ 32 :: txt l ts[k]).length (Nat.le_refl _) (by simp; omega)
      rw [hz] at ha
      simp only [if_true] at ha
      rw [all_one _ _ n _ ho hn hxl] at ha
      refine ⟨_, ha.trans (put_ok _ _ rfl), by simp [hlen], fun i h h2 => ?_⟩
      by_cases hi : i < zs.length
      · obtain ⟨h3, p, q, h4, h5, h6, h7, h8⟩ := hlike i hi h2
        rw [List.getElem_append_left hi]
        refine ⟨h3, p, q, h4, h5, h6, by simp; omega, ?_⟩
        rw [List.drop_append_of_le_length (by omega), List.take_append_of_le_length (by simp; omega)]
        exact h8
      · have h' : i < zs.length + 1 := by simpa using h
        obtain rfl : i = zs.length := by omega
        rw [List.getElem_append_right (Nat.le_refl _)]
        simp only [Nat.sub_self, List.getElem_cons_zero]
        subst hlen
        refine ⟨rfl, (JT l ts zs.length).length + 1, (JT l ts zs.length).length + 1 + n, by simp, by simp, by omega, by simp; omega, ?_⟩
        rw [List.drop_append, List.drop_eq_nil_of_le (by omega), show (JT l ts zs.length).length + 1 - (JT l ts zs.length).length = 1 by omega, show (JT l ts zs.length).length + 1 + n - ((JT l ts zs.length).length + 1) = n by omega]
        exact List.take_of_length_le (Nat.le_of_eq hxl)
theorem jt_step (l : List UInt8) (ts : List Tok) (k : Nat) (hk : k < ts.length) : JT l ts (k + 1) = (if 0 < k then JT l ts k ++ [32] else JT l ts k) ++ txt l ts[k] := by
  show (if 0 < k then JT l ts k ++ [32] else JT l ts k) ++ txt l (ts.getD k ⟨0, 0, 0⟩) = _
  rw [List.getD_eq_getElem?_getD, List.getElem?_eq_getElem hk]; rfl
def sumT (l : List UInt8) : List Tok → Nat
  | [] => 0
  | t :: ts => (txt l t).length + sumT l ts
theorem sumT_app (l : List UInt8) (a b : List Tok) : sumT l (a ++ b) = sumT l a + sumT l b := by
  induction a with
  | nil => simp [sumT]
  | cons t r ih => rw [List.cons_append, sumT, sumT, ih]; omega
theorem jt_sum (l : List UInt8) (ts : List Tok) (hL : ∀ t ∈ ts, Lone l t) : ∀ k, k ≤ ts.length → (JT l ts k).length ≤ 2 * sumT l (ts.take k)
  | 0, _ => Nat.zero_le _
  | k + 1, hk => by
    have ih := jt_sum l ts hL k (by omega)
    obtain ⟨n, hn, hxl, _⟩ := hL ts[k] (List.getElem_mem (by omega))
    rw [jt_step l ts k (by omega), List.take_succ_eq_append_getElem (by omega), sumT_app]
    have : sumT l [ts[k]] = n := by rw [sumT, sumT, hxl]; rfl
    rw [this]
    split <;> simp <;> omega
theorem chain_sum (l : List UInt8) : ∀ (ts : List Tok) (a : Nat), ChainT l a ts → a + sumT l ts ≤ l.length
  | [], a, h => by have := h.1; simpa [sumT] using this
  | u :: ts, a, ⟨p, n, h1, h2, h3, _, h5, h6, h7, h8, h9⟩ => by
    have ih := chain_sum l ts (p + n) h9
    have e : (txt l u).length = n := by unfold txt; rw [h3, h6]; simp; omega
    rw [sumT, e]; omega
/-- the written text is not twice as long -/
theorem jt_len (l : List UInt8) (ts : List Tok) (h : ChainT l 0 ts) (k : Nat) (hk : k ≤ ts.length) : (JT l ts k).length ≤ 2 * l.length := by
  have h1 := jt_sum l ts (chain_lone l ts 0 h) k hk
  have h2 := chain_sum l ts 0 h
  have h3 : sumT l ts = sumT l (ts.take k) + sumT l (ts.drop k) := by rw [← sumT_app, List.take_append_drop]
  omega
end Go.Proofs.YtpkccmceobonnaaDoor

/-
  Plain: the tokens of two texts with a blank between.
-/
import Derived.Test.YtpkccmceobonnaaDoorWholeA
namespace Go.Proofs.YtpkccmceobonnaaDoor
open Go.RowKit

theorem runL_app (y : List UInt8) : ∀ r : List UInt8, runL (r ++ 32 :: y) = runL r
  | [] => by rw [List.nil_append, runL]; rfl
  | c :: r => by rw [List.cons_append, runL, runL, runL_app y r]
theorem head_app (r y : List UInt8) : (r = [] ∧ (r ++ 32 :: y).headD 0 = 32 ∧ r.headD 0 = 0) ∨ ((r ++ 32 :: y).headD 0 = r.headD 0) := by
  cases r with
  | nil => exact .inl ⟨rfl, rfl, rfl⟩
  | cons c r => exact .inr rfl
theorem one_app (x y : List UInt8) (hx : x ≠ []) : oneL (x ++ 32 :: y) = oneL x := by
  cases x with
  | nil => exact absurd rfl hx
  | cons c r =>
    have hp : pieceL (c :: (r ++ 32 :: y)) (1 + runL r) = pieceL (c :: r) (1 + runL r) := by
      unfold pieceL
      have : (c :: (r ++ 32 :: y)).take (1 + runL r) = (c :: r).take (1 + runL r) := by
        rw [← List.cons_append, List.take_append_of_le_length (by have := runL_le r; simp; omega)]
      rw [this]
    rw [List.cons_append, oneL, oneL, runL_app, hp]
    rcases head_app r y with ⟨_, h1, h2⟩ | h
    · rw [h1, h2]; rfl
    · rw [h]
theorem allF_fuel : ∀ (f g k : Nat) (l : List UInt8), l.length ≤ f → l.length ≤ g → allF f k l = allF g k l
  | 0, g, k, l, hf, hg => by
    obtain rfl : l = [] := List.length_eq_zero_iff.1 (by omega)
    cases g <;> simp [allF]
  | f + 1, g, k, [], hf, hg => by cases g <;> simp [allF]
  | f + 1, g, k, c :: r, hf, hg => by
    obtain ⟨g, rfl⟩ : ∃ g', g = g' + 1 := ⟨g - 1, by simp at hg; omega⟩
    simp at hf hg
    rw [allF, allF]
    split
    · exact allF_fuel f g (k + 1) r (by omega) (by omega)
    · split
      · rename_i h0
        have hb := ((oneL_bd (c :: r) (by simp)).1 h0).1
        rw [allF_fuel f g _ _ (by simp; omega) (by simp; omega)]
      · rfl
theorem put_err (t : List Tok) (x : Toks) (h : x.err ≠ 0) (hf : x.toks = []) : Toks.put t x = x := by
  unfold Toks.put; rw [if_neg h]; obtain ⟨a, b, c⟩ := x; simp at hf; subst hf; rfl
theorem put_ok (t : List Tok) (x : Toks) (h : x.err = 0) : Toks.put t x = ⟨t ++ x.toks, 0, 0⟩ := by unfold Toks.put; rw [if_pos h]
theorem put_app (t u : List Tok) (x : Toks) : Toks.put t (Toks.put u x) = Toks.put (t ++ u) x := by
  unfold Toks.put
  by_cases h : x.err = 0
  · simp [h]
  · simp [h]
theorem allF_app (y : List UInt8) : ∀ (m : Nat) (x : List UInt8) (k F : Nat), x.length ≤ m → x.length + 1 + y.length ≤ F →
    allF F k (x ++ 32 :: y) = if (allF x.length k x).err = 0 then Toks.put (allF x.length k x).toks (allF y.length (k + x.length + 1) y) else allF x.length k x := by
  intro m
  induction m with
  | zero =>
    intro x k F hx hF
    obtain rfl : x = [] := List.length_eq_zero_iff.1 (by omega)
    obtain ⟨F, rfl⟩ : ∃ F', F = F' + 1 := ⟨F - 1, by simp at hF; omega⟩
    rw [List.nil_append, allF, if_pos (show (oneL (32 :: y)).err = 4 from by rw [oneL_blank _ _ rfl])]
    show _ = if (0 : Int) = 0 then Toks.put [] (allF y.length (k + 0 + 1) y) else _
    rw [if_pos rfl, put_nil _ (allF_form _ _ _).1 (allF_form _ _ _).2]
    exact allF_fuel _ _ _ _ (by simp at hF; omega) (Nat.le_refl _)
  | succ m ih =>
    intro x k F hx hF
    cases x with
    | nil => exact ih [] k F (Nat.zero_le _) hF
    | cons c r =>
      obtain ⟨F, rfl⟩ : ∃ F', F = F' + 1 := ⟨F - 1, by simp at hF; omega⟩
      have ho := one_app (c :: r) y (by simp)
      simp only [List.length_cons] at hx hF
      by_cases h4 : (oneL (c :: r)).err = 4
      · have e1 : allF (F + 1) k (c :: r ++ 32 :: y) = allF F (k + 1) (r ++ 32 :: y) := by
          rw [List.cons_append] at ho ⊢; rw [allF, ho, if_pos h4]
        have e2 : allF (c :: r).length k (c :: r) = allF r.length (k + 1) r := by
          show allF (r.length + 1) k (c :: r) = _
          rw [allF, if_pos h4]
        rw [e1, e2, ih r (k + 1) F (by omega) (by omega)]
        simp only [List.length_cons, show k + 1 + r.length + 1 = k + (r.length + 1) + 1 by omega]
      · by_cases h0 : (oneL (c :: r)).err = 0
        · obtain ⟨hn, hnl⟩ := (oneL_bd (c :: r) (by simp)).1 h0
          have e1 : allF (F + 1) k (c :: r ++ 32 :: y) = Toks.put [⟨(oneL (c :: r)).kind, k, (k + (oneL (c :: r)).len : Nat)⟩] (allF F (k + (oneL (c :: r)).len) ((c :: r).drop (oneL (c :: r)).len ++ 32 :: y)) := by
            rw [List.cons_append] at ho ⊢
            rw [allF, ho, if_neg h4, if_pos h0, ← List.cons_append, List.drop_append_of_le_length hnl]
          have e2 : allF (c :: r).length k (c :: r) = Toks.put [⟨(oneL (c :: r)).kind, k, (k + (oneL (c :: r)).len : Nat)⟩] (allF ((c :: r).drop (oneL (c :: r)).len).length (k + (oneL (c :: r)).len) ((c :: r).drop (oneL (c :: r)).len)) := by
            show allF (r.length + 1) k (c :: r) = _
            rw [allF, if_neg h4, if_pos h0, allF_fuel r.length ((c :: r).drop (oneL (c :: r)).len).length _ _ (by simp; omega) (Nat.le_refl _)]
          have hk : k + (oneL (c :: r)).len + ((c :: r).drop (oneL (c :: r)).len).length + 1 = k + (c :: r).length + 1 := by simp at hnl ⊢; omega
          rw [e1, e2, ih ((c :: r).drop (oneL (c :: r)).len) (k + (oneL (c :: r)).len) F (by simp; omega) (by simp at hnl ⊢; omega), hk]
          generalize hA : allF ((c :: r).drop (oneL (c :: r)).len).length (k + (oneL (c :: r)).len) ((c :: r).drop (oneL (c :: r)).len) = A
          have hf := allF_form ((c :: r).drop (oneL (c :: r)).len).length (k + (oneL (c :: r)).len) ((c :: r).drop (oneL (c :: r)).len)
          rw [hA] at hf
          by_cases hz : A.err = 0
          · rw [if_pos hz, put_ok _ A hz, if_pos rfl, put_app]
          · rw [if_neg hz, put_err _ A hz (hf.2 hz), if_neg hz]
        · have e1 : allF (F + 1) k (c :: r ++ 32 :: y) = ⟨[], k, (oneL (c :: r)).err⟩ := by
            rw [List.cons_append] at ho ⊢; rw [allF, ho, if_neg h4, if_neg h0]
          have e2 : allF (c :: r).length k (c :: r) = ⟨[], k, (oneL (c :: r)).err⟩ := by
            show allF (r.length + 1) k (c :: r) = _
            rw [allF, if_neg h4, if_neg h0]
          rw [e1, e2, if_neg h0]

def shT (d : Nat) (t : Tok) : Tok := ⟨t.kind, t.fr + d, t.to + d⟩
def shX (d : Nat) (x : Toks) : Toks := ⟨x.toks.map (shT d), if x.err = 0 then 0 else x.pl + d, x.err⟩
theorem sh_put (d : Nat) (t : List Tok) (x : Toks) : shX d (Toks.put t x) = Toks.put (t.map (shT d)) (shX d x) := by
  by_cases h : x.err = 0
  · rw [put_ok _ _ h, put_ok _ (shX d x) h]; simp [shX]
  · unfold Toks.put; rw [if_neg h, if_neg (show ¬ (shX d x).err = 0 from h)]; simp [shX, h]
theorem allF_shift (d : Nat) : ∀ (f k : Nat) (l : List UInt8), allF f (k + d) l = shX d (allF f k l)
  | 0, k, l => by simp [allF, shX]
  | f + 1, k, [] => by simp [allF, shX]
  | f + 1, k, c :: r => by
    rw [allF, allF]
    split
    · rw [show k + d + 1 = k + 1 + d by omega]; exact allF_shift d f (k + 1) r
    · split
      · rw [sh_put, show k + d + (oneL (c :: r)).len = k + (oneL (c :: r)).len + d by omega, allF_shift d f]
        simp [shT]
      · rename_i h; simp [shX, h]
theorem join_all (a b : List UInt8) (h : a.length + 1 + b.length ≤ 4096) :
    ((allL a).err ≠ 0 → (allL (a ++ 32 :: b)).err = (allL a).err) ∧
    ((allL a).err = 0 → (allL b).err ≠ 0 → (allL (a ++ 32 :: b)).err = (allL b).err) ∧
    ((allL a).err = 0 → (allL b).err = 0 → (allL (a ++ 32 :: b)).err = 0 ∧ (allL (a ++ 32 :: b)).toks = (allL a).toks ++ (allL b).toks.map (shT (a.length + 1))) := by
  have hl : (a ++ 32 :: b).length = a.length + 1 + b.length := by simp; omega
  rw [allL_short a (by omega), allL_short b (by omega), allL_short (a ++ 32 :: b) (by omega), hl, allF_app b a.length a 0 _ (Nat.le_refl _) (Nat.le_refl _)]
  have hs : allF b.length (0 + a.length + 1) b = shX (a.length + 1) (allF b.length 0 b) := by
    rw [← allF_shift (a.length + 1) b.length 0 b]; congr 1
  rw [hs]
  generalize allF a.length 0 a = A
  generalize allF b.length 0 b = B
  refine ⟨fun h1 => by rw [if_neg h1], fun h1 h2 => ?_, fun h1 h2 => ?_⟩
  · rw [if_pos h1]
    unfold Toks.put; rw [if_neg (show ¬ (shX (a.length + 1) B).err = 0 from h2)]; rfl
  · rw [if_pos h1, put_ok _ _ (show (shX (a.length + 1) B).err = 0 from h2)]
    exact ⟨rfl, rfl⟩
/-- a token's place, in bytes -/
theorem chain_bd (l : List UInt8) : ∀ (ts : List Tok) (k : Nat), ChainT l k ts → ∀ t ∈ ts, ∃ p q : Nat, t.fr = p ∧ t.to = q ∧ p < q ∧ q ≤ l.length
  | [], _, _, t, ht => by cases ht
  | u :: ts, k, ⟨p, n, _, _, h3, _, _, h6, h7, h8, h9⟩, t, ht => by
    rcases List.mem_cons.1 ht with rfl | ht
    · exact ⟨p, p + n, h3, h6, by omega, h8⟩
    · exact chain_bd l ts (p + n) h9 t ht
end Go.Proofs.YtpkccmceobonnaaDoor

/-
  Joined of: CtkE.
-/
import Derived.Test.YtfmkfabbiifolaaGreatDoorJe06
import Derived.Test.YtfmkfabbiifolaaGreatDoorJe04
import Derived.Test.YtfmkfabbiifolaaGreatDoorJa29
set_option linter.unusedVariables false
set_option linter.unusedSimpArgs false
/-
  Plain: what is read may be; so it is written, and that is read as it was.
-/
namespace Go.Proofs.YtfmkfabbiifolaaGreatDoor
open Go.RowKit

theorem run_take : ∀ r : List UInt8, ((r.take (runL r)).all fun c => winB (c.toNat : Int)) = true
  | [] => rfl
  | c :: r => by
    rw [runL]
    split
    · rename_i h
      rw [List.take_succ_cons, List.all_cons, h, run_take r]
      rfl
    · rfl
theorem piece_inv {l : List UInt8} {n m : Nat} {k : Int} (h : pieceL l n = ⟨0, k, m⟩) : m = n ∧ kindL (l.take n) = k ∧ k ≠ 0 := by
  unfold pieceL at h
  split at h
  · injection h with h; cases h
  · rename_i hz
    injection h with _ h2 h3
    exact ⟨h3.symm, h2, h2 ▸ hz⟩
/-- a token that is no sign is a piece -/
theorem one_inv {c : UInt8} {r : List UInt8} {k : Int} {n : Nat} (h : oneL (c :: r) = ⟨0, k, n⟩) (h4 : k ≠ 4) : n = 1 + runL r ∧ kindL ((c :: r).take n) = k ∧ k ≠ 0 := by
  have hp : ∀ h : pieceL (c :: r) (1 + runL r) = ⟨0, k, n⟩, n = 1 + runL r ∧ kindL ((c :: r).take n) = k ∧ k ≠ 0 := fun h => by
    obtain ⟨h1, h2, h3⟩ := piece_inv h
    rw [h1]
    exact ⟨rfl, h2, h3⟩
  rw [oneL] at h
  split at h
  · injection h with h; cases h
  split at h
  · injection h with _ h; exact absurd h.symm h4
  split at h
  · split at h
    · injection h with _ h; exact absurd h.symm h4
    · injection h with h; cases h
  split at h
  · split at h
    · injection h with _ h; exact absurd h.symm h4
    · injection h with h; cases h
  split at h
  · split at h
    · exact hp h
    · injection h with h; cases h
  split at h
  · exact hp h
  · injection h with h; cases h
theorem kind_inv {l : List UInt8} {k : Int} (h : kindL l = k) : (k = 1 → nameL l = true) ∧ (k = 3 → nameL l = false ∧ (readN ⟨l.toArray⟩).isSome = true) := by
  unfold kindL at h
  split at h
  · exact ⟨fun e => by rw [e] at h; exact absurd h (by decide), fun e => by rw [e] at h; exact absurd h (by decide)⟩
  split at h
  · exact ⟨fun e => by rw [e] at h; exact absurd h (by decide), fun e => by rw [e] at h; exact absurd h (by decide)⟩
  split at h
  · rename_i hn
    exact ⟨fun _ => hn, fun e => by rw [e] at h; exact absurd h (by decide)⟩
  rename_i hn
  split at h
  · rename_i hr
    exact ⟨fun e => by rw [e] at h; exact absurd h (by decide), fun _ => ⟨by simpa using hn, hr⟩⟩
  · exact ⟨fun e => by rw [e] at h; exact absurd h (by decide), fun e => by rw [e] at h; exact absurd h (by decide)⟩
/-- what a token of a text is -/
structure TokOk (k : Int) (T : List UInt8) : Prop where
  ne : T ≠ []
  name : k = 1 → nameL T = true
  var : k = 2 → rvarL T = true
  num : k = 3 → nameL T = false ∧ (readN ⟨T.toArray⟩).isSome = true
theorem tok_ok {l : List UInt8} {k : Int} {n : Nat} (h : oneL l = ⟨0, k, n⟩) (h0 : 0 < n) (hn : n ≤ l.length) : TokOk k (l.take n) := by
  cases l with
  | nil => simp at hn; omega
  | cons c r =>
    have hne : (c :: r).take n ≠ [] := fun e => by
      have := congrArg List.length e
      rw [List.length_take, List.length_nil] at this
      omega
    by_cases h4 : k = 4
    · subst h4
      exact ⟨hne, fun e => absurd e (by decide), fun e => absurd e (by decide), fun e => absurd e (by decide)⟩
    · obtain ⟨h1, h2, h3⟩ := one_inv h h4
      obtain ⟨k1, k3⟩ := kind_inv h2
      refine ⟨hne, k1, fun e => ?_, k3⟩
      subst e
      obtain ⟨v1, v2⟩ := kindL_var h2
      rw [h1, Nat.add_comm, List.take_succ_cons] at v1 v2 ⊢
      have hu : upB (c.toNat : Int) = true := v1
      have hw : winB (c.toNat : Int) = true := by unfold winB; rw [hu]; simp
      unfold rvarL
      rw [List.all_cons, hw, run_take r, v1]
      simp only [Bool.and_true, Bool.and_eq_true, decide_eq_true_eq]
      exact ⟨by simp, v2⟩
theorem chain_ok (l : List UInt8) : ∀ (ts : List Tok) (k : Nat), ChainT l k ts → ∀ t ∈ ts, TokOk t.kind ((l.drop t.fr.toNat).take (t.to.toNat - t.fr.toNat))
  | [], _, _, t, ht => by cases ht
  | x :: ts, k, h, t, ht => by
    obtain ⟨p, n, h1, h2, h3, h4, h5, h6, h7, h8, h9⟩ := h
    rcases List.mem_cons.1 ht with rfl | ht
    · rw [h3, h6]
      simp only [Int.toNat_natCast, Nat.add_sub_cancel_left]
      exact tok_ok h5 h7 (by rw [List.length_drop]; omega)
    · exact chain_ok l ts (p + n) h9 t ht
def PT (X : ClauseS.Tm) : Prop := ∃ t : Tm, tmL t = X ∧ t.ok = true
def PW (X : ClauseS.Tm) : Prop := X.var ≠ [] ∨ X.sym ≠ []
def PN (p : List UInt8) : Prop := nameL p = true
theorem mk_dl (T : List UInt8) : (⟨T.toArray⟩ : ByteArray).data.toList = T := rfl
theorem tok_sh {k : Int} {T : List UInt8} (h : TokOk k T) (len f : Int) : ClauseS.TokS rdL len PT PW PN ⟨k, T, f⟩ := by
  have hne : (⟨T.toArray⟩ : ByteArray).toList.isEmpty = false := by
    cases he : (⟨T.toArray⟩ : ByteArray).toList.isEmpty with
    | false => rfl
    | true => exact absurd (dl_nil.2 he) h.ne
  have he0 : (⟨#[]⟩ : ByteArray).toList.isEmpty = true := dl_nil.1 rfl
  have key : ∀ x r, ClauseS.termS rdL len (⟨k, T, f⟩ :: r) = .ok (x, r) → PT x ∧ (k = 1 ∨ k = 2 → PW x) := by
    intro x r hx
    unfold ClauseS.termS at hx
    dsimp only at hx
    split at hx
    · rename_i h2
      injection hx with hx
      injection hx with hx _
      subst hx
      refine ⟨⟨⟨⟨T.toArray⟩, ⟨#[]⟩, 0⟩, rfl, ?_⟩, fun _ => .inl h.ne⟩
      unfold Tm.ok termB
      simp only
      rw [hne, if_neg (by decide), var_eq, he0]
      have := h.var h2
      unfold rvarB
      exact this
    · split at hx
      · rename_i h2 h13
        injection hx with hx
        injection hx with hx _
        subst hx
        rcases h13 with h1 | h3
        · have hnm : nameB ⟨T.toArray⟩ = true := by rw [nameB_eq]; exact h.name h1
          have hr : rdL T = (T, 0) := by unfold rdL readP; rw [hnm]; rfl
          rw [hr]
          refine ⟨⟨⟨⟨#[]⟩, ⟨T.toArray⟩, 0⟩, rfl, ?_⟩, fun _ => .inr h.ne⟩
          unfold Tm.ok termB
          simp only
          rw [he0, if_pos rfl]
          unfold goodB
          rw [hnm]
          simp
        · obtain ⟨n1, n2⟩ := h.num h3
          have hnm : nameB ⟨T.toArray⟩ = false := by rw [nameB_eq]; exact n1
          obtain ⟨v, hv⟩ := Option.isSome_iff_exists.1 n2
          have hr : rdL T = ([], v) := by unfold rdL readP; rw [hnm, hv]; rfl
          rw [hr]
          refine ⟨⟨⟨⟨#[]⟩, ⟨#[]⟩, v⟩, rfl, ?_⟩, fun e => by omega⟩
          unfold Tm.ok termB goodB
          simp only
          rw [he0, if_pos rfl]
          rfl
      · cases hx
  exact ⟨fun x r hx => (key x r hx).1, fun hk x r hx => (key x r hx).2 hk, fun hk => h.name hk⟩
theorem all_tok {s : ByteArray} (h : (allL s.data.toList).err = 0) : ClauseS.AllT rdL s.size PT PW PN (txs s (allL s.data.toList).toks) := by
  intro t ht
  obtain ⟨u, hu, rfl⟩ := List.mem_map.1 ht
  have := chain_ok s.data.toList _ 0 (chain_all s.data.toList h) u hu
  rw [← extract_dl] at this
  exact tok_sh this s.size u.fr
theorem pt_ok {t : Tm} (h : PT (tmL t)) : t.ok = true := by
  obtain ⟨u, h1, h2⟩ := h
  rw [← tmL_inj _ _ h1]
  exact h2
theorem said_of {l : Lp} (h : ClauseS.ShS PT PW PN (ltL l.q)) : l.said = true := by
  obtain ⟨h1, h2, h3, h4⟩ := h
  unfold Lp.said
  simp only [Bool.and_eq_true, decide_eq_true_eq, List.all_eq_true]
  refine ⟨?_, ?_, by simpa [ltL, Lp.q] using h3, fun t ht => pt_ok (h4 (tmL t) (List.mem_map_of_mem ht))⟩
  · unfold Tm.spk
    rcases h1 with hz | ⟨p1, p2⟩
    · rw [(tm0_iff l.who).1 hz]; rfl
    · rw [pt_ok (t := l.who) p1]
      have hv : (!l.who.v.toList.isEmpty || !l.who.s.toList.isEmpty) = true := by
        rw [Bool.or_eq_true, Bool.not_eq_true', Bool.not_eq_true']
        rcases p2 with p | p
        · exact .inl (by cases he : l.who.v.toList.isEmpty with
            | false => rfl
            | true => exact absurd (dl_nil.2 he) p)
        · exact .inr (by cases he : l.who.s.toList.isEmpty with
            | false => rfl
            | true => exact absurd (dl_nil.2 he) p)
      rw [hv]
      simp
  · rw [nameB_eq]; exact h2
theorem lit_of_sh {l : Lp} (h : ClauseS.ShL PT PW PN (ltL l.q)) : l.lit = true := by
  have hk : (ltL l.q).kind = l.kind := rfl
  unfold Lp.lit
  rcases h with ⟨h1, h2⟩ | h
  · rw [if_pos (by rw [hk] at h1; rcases h1 with e | e <;> rw [e] <;> decide)]
    exact said_of h2
  · obtain ⟨h1, h2, h3, a, b, h4, h5, h6⟩ := h
    rw [hk] at h1
    rw [if_neg (by rcases h1 with e | e <;> rw [e] <;> decide), if_pos (by rcases h1 with e | e <;> rw [e] <;> decide)]
    have ha : l.args.map tmL = [a, b] := h4
    unfold Lp.comp
    simp only [Bool.and_eq_true, decide_eq_true_eq, List.all_eq_true]
    refine ⟨(tm0_iff _).1 h2, dl_nil.1 h3, by have := congrArg List.length ha; simpa using this, fun t ht => ?_⟩
    have hm : tmL t ∈ l.args.map tmL := List.mem_map_of_mem ht
    rw [ha] at hm
    simp only [List.mem_cons, List.not_mem_nil, or_false] at hm
    rcases hm with e | e
    · exact pt_ok (by rw [e]; exact h5)
    · exact pt_ok (by rw [e]; exact h6)
/-- a literal that was read may be asked for -/
theorem asked_of {s : ByteArray} {l : Lp} (h : parseLitR s = .ok l.q) : l.ask = true := by
  unfold parseLitR at h
  split at h
  · rename_i he
    have hw := whole_tie ltL s (allL s.data.toList).toks (ClauseS.saidS rdL s.size 1) (saidR s (allL s.data.toList).toks 1 0) (said_tie s _ 1 0)
    rw [h] at hw
    obtain ⟨h1, h2⟩ := ClauseS.asked_sh rdL s.size PT PW PN (all_tok he) hw
    unfold Lp.ask
    rw [said_of h2, show l.kind = 1 from h1]
    rfl
  · cases h
/-- a clause that was read may be -/
theorem check_of {s : ByteArray} {c : Kp} (h : parseR s = .ok c.q) : c.check = true := by
  unfold parseR at h
  split at h
  · rename_i he
    have hw := whole_tie clL s (allL s.data.toList).toks (ClauseS.clauseS rdL s.size) (clauseR s (allL s.data.toList).toks 0) (clause_tie s _ 0)
    rw [h] at hw
    obtain ⟨h1, h2, h3, h4, h5⟩ := ClauseS.clause_sh rdL s.size PT PW PN (all_tok he) hw
    unfold Kp.check
    simp only [Bool.and_eq_true, decide_eq_true_eq, List.all_eq_true]
    refine ⟨?_, (tm0_iff _).1 h2, ?_, fun l hl => lit_of_sh (h5 (ltL l.q) (List.mem_map_of_mem (List.mem_map_of_mem hl)))⟩
    · have : ((c.body.map Lp.q).map ltL).length ≤ 6 := h4
      simpa using this
    · unfold Lp.ask
      rw [said_of h3, show c.head.kind = 1 from h1]
      rfl
  · cases h
end Go.Proofs.YtfmkfabbiifolaaGreatDoor

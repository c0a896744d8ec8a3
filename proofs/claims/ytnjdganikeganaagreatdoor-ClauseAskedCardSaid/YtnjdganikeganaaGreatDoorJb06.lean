/-
  Joined of: TieB, CtkA, CtkB, CtkC, CtkD, CtkE, CtkF.
-/
import Derived.Test.YtnjdganikeganaaGreatDoorJb05
import Derived.Test.YtnjdganikeganaaGreatDoorJa10
import Derived.Test.YtnjdganikeganaaGreatDoorJa36
import Derived.Test.YtnjdganikeganaaGreatDoorJa37
import Derived.Test.YtnjdganikeganaaGreatDoorJa04
import Derived.Test.YtnjdganikeganaaGreatDoorJa38
import Derived.Test.YtnjdganikeganaaGreatDoorJa02
import Derived.Test.YtnjdganikeganaaGreatDoorJa20
import Derived.Test.YtnjdganikeganaaGreatDoorJa16
import Derived.Test.YtnjdganikeganaaGreatDoorJa22
import Derived.Test.YtnjdganikeganaaGreatDoorJa29
set_option linter.unusedVariables false
set_option linter.unusedSimpArgs false
/-
  Plain: the parser's words over a token's number are those over what is left of the tokens: literals, clauses.
-/
namespace Go.Proofs.YtnjdganikeganaaGreatDoor
open Go.RowKit

def ltL (l : Lq) : ClauseS.Lt := ⟨l.kind, tmL l.who, l.pred.data.toList, l.args.map tmL⟩
def clL (c : Cq) : ClauseS.Cl := ⟨ltL c.head, c.body.map ltL⟩
theorem tmZ_L : tmL tmZ = ClauseS.tm0 := rfl
theorem said_tie (s : ByteArray) (ts : List Tok) (kd : Int) (k : Nat) :
    ClauseS.saidS rdL s.size kd ((txs s ts).drop k) = tieR ltL s ts (saidR s ts kd k) := by
  unfold ClauseS.saidS saidR
  rw [kind_tie, txt_tie, term_tie]
  have hw : ((textAt s ts (k + 1)).data.toList = ClauseS.wSays) ↔ textAt s ts (k + 1) = wdSays := word_tie _ _
  by_cases h : kindAt ts k = 2 ∨ (kindAt ts k = 1 ∧ textAt s ts (k + 1) = wdSays)
  · rw [if_pos h, if_pos (by rw [hw]; exact h)]
    have ht : isT ts k = true := by simp [isT]; rcases h with h | h <;> omega
    rw [if_pos ht]
    simp only
    rw [want_tie]
    by_cases h2 : textAt s ts (k + 1) = wdSays
    · rw [if_pos h2, if_pos (show textAt s ts (k + 1) = ⟨ClauseS.wSays.toArray⟩ from h2)]
      simp only
      rw [atom_tie]
      cases ha : atomR s ts (k + 1 + 1) with
      | error e => rfl
      | ok a => rfl
    · rw [if_neg h2, if_neg (show ¬ textAt s ts (k + 1) = ⟨ClauseS.wSays.toArray⟩ from h2)]; rfl
  · rw [if_neg h, if_neg (by rw [hw]; exact h), atom_tie]
    cases ha : atomR s ts k with
    | error e => rfl
    | ok a => rfl
theorem comp_tie (s : ByteArray) (ts : List Tok) (k : Nat) :
    ClauseS.compS rdL s.size ((txs s ts).drop k) = tieR ltL s ts (compR s ts k) := by
  unfold ClauseS.compS compR
  rw [term_tie]
  cases h1 : isT ts k with
  | false => rfl
  | true =>
    simp only [if_true]
    have e1 := txt_tie s ts (k + 1) 0
    rw [Nat.add_zero] at e1
    rw [e1, tail_tie, at_tie, term_tie]
    have hl : ((textAt s ts (k + 1)).data.toList = ClauseS.wLess) ↔ textAt s ts (k + 1) = wdLess := word_tie _ _
    have hu : ((textAt s ts (k + 1)).data.toList = ClauseS.wUnlike) ↔ textAt s ts (k + 1) = wdUnlike := word_tie _ _
    by_cases h2 : textAt s ts (k + 1) = wdLess
    · rw [if_pos h2, if_pos (hl.2 h2)]
      cases h3 : isT ts (k + 2) <;> simp [h3, tieR, ltL, tmZ_L] <;> rfl
    · rw [if_neg h2, if_neg (fun h => h2 (hl.1 h))]
      by_cases h4 : textAt s ts (k + 1) = wdUnlike
      · rw [if_pos h4, if_pos (hu.2 h4)]
        cases h3 : isT ts (k + 2) <;> simp [h3, tieR, ltL, tmZ_L] <;> rfl
      · rw [if_neg h4, if_neg (fun h => h4 (hu.1 h))]; rfl
theorem lit_tie (s : ByteArray) (ts : List Tok) (k : Nat) :
    ClauseS.literalS rdL s.size ((txs s ts).drop k) = tieR ltL s ts (litR s ts k) := by
  unfold ClauseS.literalS litR
  have e0 := txt_tie s ts k 0
  rw [Nat.add_zero] at e0
  rw [e0, txt_tie, kind_tie, tail_tie, said_tie, said_tie, comp_tie]
  have hn : ((textAt s ts k).data.toList = ClauseS.wNot) ↔ textAt s ts k = wdNot := word_tie _ _
  have hl : ((textAt s ts (k + 1)).data.toList = ClauseS.wLess) ↔ textAt s ts (k + 1) = wdLess := word_tie _ _
  have hu : ((textAt s ts (k + 1)).data.toList = ClauseS.wUnlike) ↔ textAt s ts (k + 1) = wdUnlike := word_tie _ _
  simp only [hn, hl, hu]
  split
  · rfl
  · split <;> rfl
theorem moreL_tie (s : ByteArray) (ts : List Tok) : ∀ (n : Nat) (acc : List Lq) (k : Nat),
    ClauseS.moreS s.size (ClauseS.literalS rdL s.size) n (acc.map ltL) ((txs s ts).drop k) = tieR (List.map ltL) s ts (moreL s ts n acc k)
  | 0, acc, k => by
    unfold ClauseS.moreS moreL
    rw [txt_tie, at_tie, Nat.add_zero]
    by_cases h : textAt s ts k = comma
    · rw [if_pos h, if_pos ((word_tie _ ClauseS.wComma).2 h)]; rfl
    · rw [if_neg h, if_neg (fun hx => h ((word_tie _ ClauseS.wComma).1 hx))]; rfl
  | n + 1, acc, k => by
    unfold ClauseS.moreS moreL
    rw [txt_tie, tail_tie, Nat.add_zero, lit_tie]
    by_cases h : textAt s ts k = comma
    · rw [if_pos h, if_pos ((word_tie _ ClauseS.wComma).2 h)]
      cases hk : litR s ts (k + 1) with
      | error e => rfl
      | ok a =>
        have := moreL_tie s ts n (acc ++ [a.1]) a.2
        rw [List.map_append] at this
        simpa [tieR] using this
    · rw [if_neg h, if_neg (fun hx => h ((word_tie _ ClauseS.wComma).1 hx))]; rfl
theorem listL_tie (s : ByteArray) (ts : List Tok) (k : Nat) :
    ClauseS.listS s.size (ClauseS.literalS rdL s.size) 6 ((txs s ts).drop k) = tieR (List.map ltL) s ts (listL s ts 5 k) := by
  unfold ClauseS.listS listL
  rw [lit_tie]
  cases hk : litR s ts k with
  | error e => rfl
  | ok a => simpa [tieR] using moreL_tie s ts 5 [a.1] a.2
theorem clause_tie (s : ByteArray) (ts : List Tok) (k : Nat) :
    ClauseS.clauseS rdL s.size ((txs s ts).drop k) = tieR clL s ts (clauseR s ts k) := by
  unfold ClauseS.clauseS clauseR
  rw [atom_tie]
  cases ha : atomR s ts k with
  | error e => rfl
  | ok a =>
    obtain ⟨a, k1⟩ := a
    simp only [tieR]
    have e0 := txt_tie s ts k1 0
    rw [Nat.add_zero] at e0
    rw [e0, tail_tie, listL_tie, want_tie]
    have hi : ((textAt s ts k1).data.toList = ClauseS.wIf) ↔ textAt s ts k1 = wdIf := word_tie _ _
    by_cases h1 : textAt s ts k1 = wdIf
    · rw [if_pos h1, if_pos (hi.2 h1)]
      cases hb : listL s ts 5 (k1 + 1) with
      | error e => rfl
      | ok b =>
        obtain ⟨b, k2⟩ := b
        simp only [tieR]
        rw [want_tie]
        by_cases h2 : textAt s ts k2 = wdDot
        · rw [if_pos h2, if_pos (show textAt s ts k2 = ⟨ClauseS.wDot.toArray⟩ from h2)]; rfl
        · rw [if_neg h2, if_neg (show ¬ textAt s ts k2 = ⟨ClauseS.wDot.toArray⟩ from h2)]
    · rw [if_neg h1, if_neg (fun h => h1 (hi.1 h))]
      by_cases h2 : textAt s ts k1 = wdDot
      · rw [if_pos h2, if_pos (show textAt s ts k1 = ⟨ClauseS.wDot.toArray⟩ from h2)]; rfl
      · rw [if_neg h2, if_neg (show ¬ textAt s ts k1 = ⟨ClauseS.wDot.toArray⟩ from h2)]
theorem whole_tie {α β : Type} (f : α → β) (s : ByteArray) (ts : List Tok) (one : List ClauseS.Tx → ClauseS.PR β) (R : Except (Int × Int) (α × Nat)) (h : one (txs s ts) = tieR f s ts R) :
    ClauseS.wholeS s.size one (txs s ts) = (match wholeR s ts R with
      | .ok x => .ok (f x)
      | .error e => .error e) := by
  unfold ClauseS.wholeS wholeR
  rw [h]
  cases R with
  | error e => rfl
  | ok x =>
    obtain ⟨x, k⟩ := x
    simp only [tieR]
    unfold ClauseS.endS
    rw [at_tie]
    by_cases hk : ts.length ≤ k
    · rw [if_pos hk, if_pos (by rw [List.drop_eq_nil_iff]; simpa [txs] using hk)]
    · rw [if_neg hk, if_neg (by rw [List.drop_eq_nil_iff]; simpa [txs] using hk)]
end Go.Proofs.YtnjdganikeganaaGreatDoor

/-
  Plain: a word, a name, a variable, a number at a text's head is one token.
-/
namespace Go.Proofs.YtnjdganikeganaaGreatDoor
open Go.RowKit

def oneX (l : List UInt8) : Int × Int × Nat := ((oneL l).err, (oneL l).kind, (oneL l).len)
def stopX (r : List UInt8) : Prop := runL r = 0
def tvL (sym : List UInt8) (num : Int) : List UInt8 := (textS ⟨sym.toArray⟩ num).data.toList
theorem runL_cat : ∀ (a r : List UInt8), (∀ c ∈ a, winB (c.toNat : Int) = true) → runL (a ++ r) = a.length + runL r
  | [], r, _ => by simp
  | c :: a, r, h => by
    rw [List.cons_append, runL, if_pos (h c List.mem_cons_self), runL_cat a r (fun x hx => h x (List.mem_cons_of_mem _ hx)), List.length_cons]
    omega
theorem win_cases {c : UInt8} (h : winB (c.toNat : Int) = true) : (97 ≤ c.toNat ∧ c.toNat ≤ 122) ∨ (48 ≤ c.toNat ∧ c.toNat ≤ 57) ∨ c.toNat = 95 ∨ (65 ≤ c.toNat ∧ c.toNat ≤ 90) := by
  simp only [winB, lowB, letB, digB, upB, Bool.or_eq_true, Bool.and_eq_true, decide_eq_true_eq, beq_iff_eq] at h
  omega
theorem piece_cat (c : UInt8) (b r : List UInt8) (hb : ∀ x ∈ b, winB (x.toNat : Int) = true) (hs : stopX r) (hk : kindL (c :: b) ≠ 0) : pieceL (c :: (b ++ r)) (1 + runL (b ++ r)) = ⟨0, kindL (c :: b), (c :: b).length⟩ := by
  have h1 : runL (b ++ r) = b.length := by rw [runL_cat b r hb, show runL r = 0 from hs]; rfl
  have h2 : (c :: (b ++ r)).take (1 + b.length) = c :: b := by
    rw [Nat.add_comm, List.take_succ_cons, List.take_left']
    rfl
  unfold pieceL
  rw [h1, h2, if_neg hk, List.length_cons, Nat.add_comm]
theorem one_piece (c : UInt8) (b r : List UInt8) (hc : winB (c.toNat : Int) = true) (hb : ∀ x ∈ b, winB (x.toNat : Int) = true) (hs : stopX r) (hk : kindL (c :: b) ≠ 0) : oneX ((c :: b) ++ r) = (0, kindL (c :: b), (c :: b).length) := by
  have hcs := win_cases hc
  have hne : ∀ n : Nat, n ∈ [32, 9, 40, 41, 44, 46, 60, 58, 33, 45] → (c.toNat == n) = false := fun n hn => beq_eq_false_iff_ne.2 (by
    simp only [List.mem_cons, List.not_mem_nil, or_false] at hn
    omega)
  have e : oneL (c :: (b ++ r)) = pieceL (c :: (b ++ r)) (1 + runL (b ++ r)) := by
    rw [oneL, hne 32 (by simp), hne 9 (by simp), hne 40 (by simp), hne 41 (by simp), hne 44 (by simp), hne 46 (by simp), hne 60 (by simp), hne 58 (by simp), hne 33 (by simp), hne 45 (by simp), hc]
    rfl
  unfold oneX
  rw [List.cons_append, e, piece_cat c b r hb hs hk]
theorem one_minus (d : UInt8) (b r : List UInt8) (hd : digB (d.toNat : Int) = true) (hb : ∀ x ∈ d :: b, winB (x.toNat : Int) = true) (hs : stopX r) (hk : kindL (45 :: d :: b) ≠ 0) : oneX ((45 :: d :: b) ++ r) = (0, kindL (45 :: d :: b), (45 :: d :: b).length) := by
  have e : oneL ((45 : UInt8) :: ((d :: b) ++ r)) = pieceL (45 :: ((d :: b) ++ r)) (1 + runL ((d :: b) ++ r)) := by
    rw [oneL]
    show (if digB ((((d :: b) ++ r).headD 0).toNat : Int) = true then _ else _) = _
    rw [if_pos (show digB ((((d :: b) ++ r).headD 0).toNat : Int) = true from hd)]
  unfold oneX
  rw [List.cons_append, e, piece_cat 45 (d :: b) r hb hs hk]
/-- what is asked of the reading of tokens holds of the lexer -/
theorem reads_one : ClauseS.Reads oneX stopX where
  blank := fun r => by unfold oneX; rw [oneL_blank _ _ rfl]
  sign := fun w hw r => by
    simp only [List.mem_cons, List.not_mem_nil, or_false] at hw
    rcases hw with rfl | rfl | rfl | rfl | rfl | rfl | rfl <;> rfl
  word := fun w hw r hs => by
    simp only [List.mem_cons, List.not_mem_nil, or_false] at hw
    rcases hw with rfl | rfl
    · exact one_piece 110 [111, 116] r (by decide) (by decide) hs (by decide)
    · exact one_piece 115 [97, 121, 115] r (by decide) (by decide) hs (by decide)
  stops := fun c hc r => by
    simp only [List.mem_cons, List.not_mem_nil, or_false] at hc
    rcases hc with rfl | rfl | rfl | rfl | rfl <;> rfl
theorem name_lx {p : ByteArray} (h : nameB p = true) : ClauseS.NmX oneX stopX p.data.toList ∧ p.data.toList ∉ ClauseS.words := by
  rw [nameB_eq] at h
  generalize p.data.toList = l at *
  have h0 := h
  unfold nameL at h
  simp only [Bool.and_eq_true, Bool.not_eq_true', decide_eq_true_eq, List.all_eq_true] at h
  obtain ⟨⟨⟨⟨h1, h2⟩, h3⟩, h4⟩, h5⟩ := h
  cases l with
  | nil => simp at h1
  | cons c b =>
    have hh : letB (c.toNat : Int) = true := h4
    have hc : 97 ≤ c.toNat ∧ c.toNat ≤ 122 := by
      simp only [letB, Bool.and_eq_true, decide_eq_true_eq] at hh
      omega
    have hu : upB (((c :: b).headD 0).toNat : Int) = false := by
      show upB (c.toNat : Int) = false
      simp only [upB, Bool.and_eq_false_iff, decide_eq_false_iff_not]
      omega
    have hk : kindL (c :: b) = 1 := by
      unfold kindL
      rw [h3, hu, h0]
      rfl
    have hw : ∀ x ∈ c :: b, winB (x.toNat : Int) = true := fun x hx => by unfold winB; rw [h5 x hx]; rfl
    refine ⟨⟨by simp, fun r hs => ?_⟩, fun hm => ?_⟩
    · rw [one_piece c b r (hw c List.mem_cons_self) (fun x hx => hw x (List.mem_cons_of_mem _ hx)) hs (by rw [hk]; decide), hk]
    · simp only [ClauseS.words, List.mem_cons, List.not_mem_nil, or_false] at hm
      rcases hm with hm | hm | hm | hm | hm | hm | hm | hm | hm
      all_goals
        first
          | (rw [hm] at h3; exact absurd h3 (by decide))
          | (injection hm with e _; rw [e] at hc; exact absurd hc (by decide))
end Go.Proofs.YtnjdganikeganaaGreatDoor

/-
  Plain: a variable, a number, a term at a text's head is one token, and is read as it was.
-/
namespace Go.Proofs.YtnjdganikeganaaGreatDoor
open Go.RowKit

theorem dec_dig (u : Nat) : ∀ c ∈ Lib.decDigits u, 48 ≤ c.toNat ∧ c.toNat ≤ 57 := by
  induction u using Nat.strongRecOn with
  | _ u ih =>
    intro c hc
    rw [Lib.decDigits] at hc
    split at hc
    · rename_i h
      rw [List.mem_singleton.1 hc, dec_byte u h]
      omega
    · rename_i h
      rcases List.mem_append.1 hc with hc | hc
      · exact ih (u / 10) (by omega) c hc
      · rw [List.mem_singleton.1 hc, dec_byte (u % 10) (by omega)]
        omega
theorem dig_win {c : UInt8} (h : 48 ≤ c.toNat ∧ c.toNat ≤ 57) : winB (c.toNat : Int) = true ∧ digB (c.toNat : Int) = true := by
  have hd : digB (c.toNat : Int) = true := by
    simp only [digB, Bool.and_eq_true, decide_eq_true_eq]
    omega
  refine ⟨?_, hd⟩
  unfold winB lowB
  rw [hd]
  simp
theorem var_lx {v : ByteArray} (h : varB v = true) : v.data.toList ≠ [] ∧ (∀ r, stopX r → oneX (v.data.toList ++ r) = (0, 2, v.data.toList.length)) ∧ v.data.toList ∉ ClauseS.words := by
  rw [var_eq] at h
  have h2 : rvarL v.data.toList = true := h
  generalize v.data.toList = l at *
  unfold rvarL at h2
  simp only [Bool.and_eq_true, decide_eq_true_eq, List.all_eq_true] at h2
  obtain ⟨h3, h4, h5, h6⟩ := h2
  cases l with
  | nil => simp at h3
  | cons c b =>
    have hk : kindL (c :: b) = 2 := kindL_up h5 h4
    have hc := (upB_iff _).1 (show upB (c.toNat : Int) = true from h5)
    refine ⟨by simp, fun r hs => ?_, fun hm => ?_⟩
    · rw [one_piece c b r (h6 c List.mem_cons_self) (fun x hx => h6 x (List.mem_cons_of_mem _ hx)) hs (by rw [hk]; decide), hk]
    · simp only [ClauseS.words, List.mem_cons, List.not_mem_nil, or_false] at hm
      rcases hm with hm | hm | hm | hm | hm | hm | hm | hm | hm
      all_goals (injection hm with e _; rw [e] at hc; exact absurd hc (by decide))
theorem num_kind (n : Int) (h0 : -9223372036854775808 ≤ n) (h1 : n ≤ 9223372036854775807) (hh : ∃ c b, (itoaS n).data.toList = c :: b ∧ c.toNat ≤ 57) : kindL (itoaS n).data.toList = 3 := by
  obtain ⟨c, b, hl, hc⟩ := hh
  have hw : wordL (itoaS n).data.toList = false := by
    rw [hl]
    unfold wordL
    rw [Bool.or_eq_false_iff]
    refine ⟨beq_eq_false_iff_ne.2 fun e => ?_, beq_eq_false_iff_ne.2 fun e => ?_⟩
    · injection e with e _; rw [e] at hc; exact absurd hc (by decide)
    · injection e with e _; rw [e] at hc; exact absurd hc (by decide)
  have hu : upB (((itoaS n).data.toList.headD 0).toNat : Int) = false := by
    rw [hl]
    show upB (c.toNat : Int) = false
    simp only [upB, Bool.and_eq_false_iff, decide_eq_false_iff_not]
    omega
  have hn : nameL (itoaS n).data.toList = false := by rw [← nameB_eq]; exact name_itoa n
  have hr : (readN ⟨(itoaS n).data.toList.toArray⟩).isSome = true := by rw [mk_toList, readN_itoa n h0 h1]; rfl
  unfold kindL
  rw [hw, hu, hn, hr]
  rfl
theorem num_lx (n : Int) (h0 : -9223372036854775808 ≤ n) (h1 : n ≤ 9223372036854775807) : (itoaS n).data.toList ≠ [] ∧ (∀ r, stopX r → oneX ((itoaS n).data.toList ++ r) = (0, 3, (itoaS n).data.toList.length)) ∧ (itoaS n).data.toList ∉ ClauseS.words := by
  have e : (itoaS n).data.toList = Lib.itoa n := rfl
  by_cases hneg : n < 0
  · obtain ⟨d, b, hd, hd1, hd2⟩ := dec_head n.natAbs
    have hl : (itoaS n).data.toList = 45 :: d :: b := by rw [e]; unfold Lib.itoa; rw [if_pos hneg, hd]
    have hk := num_kind n h0 h1 ⟨45, d :: b, hl, by decide⟩
    have hall : ∀ x ∈ d :: b, winB (x.toNat : Int) = true := fun x hx => (dig_win (dec_dig n.natAbs x (hd ▸ hx))).1
    rw [hl] at hk ⊢
    refine ⟨by simp, fun r hs => ?_, fun hm => ?_⟩
    · rw [one_minus d b r (dig_win ⟨hd1, hd2⟩).2 hall hs (by rw [hk]; decide), hk]
    · simp only [ClauseS.words, List.mem_cons, List.not_mem_nil, or_false] at hm
      rcases hm with hm | hm | hm | hm | hm | hm | hm | hm | hm
      all_goals (injection hm with e _; exact absurd e (by decide))
  · obtain ⟨d, b, hd, hd1, hd2⟩ := dec_head n.toNat
    have hl : (itoaS n).data.toList = d :: b := by rw [e]; unfold Lib.itoa; rw [if_neg hneg, hd]
    have hk := num_kind n h0 h1 ⟨d, b, hl, hd2⟩
    have hall : ∀ x ∈ d :: b, winB (x.toNat : Int) = true := fun x hx => (dig_win (dec_dig n.toNat x (hd ▸ hx))).1
    rw [hl] at hk ⊢
    refine ⟨by simp, fun r hs => ?_, fun hm => ?_⟩
    · rw [one_piece d b r (hall d List.mem_cons_self) (fun x hx => hall x (List.mem_cons_of_mem _ hx)) hs (by rw [hk]; decide), hk]
    · simp only [ClauseS.words, List.mem_cons, List.not_mem_nil, or_false] at hm
      rcases hm with hm | hm | hm | hm | hm | hm | hm | hm | hm
      all_goals
        first
          | (injection hm with e2 e3; rw [e2] at hd1; exact absurd hd1 (by decide))
          | (injection hm with e2 e3; rw [e2] at hd2; exact absurd hd2 (by decide))
theorem dl_nil {v : ByteArray} : v.data.toList = [] ↔ v.toList.isEmpty = true := by
  rw [ByteArray.toList_eq]
  cases v.data.toList <;> simp
/-- a term that may be: its text is one token, and is read as the term -/
theorem tm_lx {t : Tm} (h : t.ok = true) (hn : t.Nb) : ClauseS.TmX tvL oneX stopX (tmL t) ∧ ClauseS.GoodT rdL tvL (tmL t) := by
  obtain ⟨v, s, n⟩ := t
  have h0 : -9223372036854775808 ≤ n := hn.1
  have h1 : n ≤ 9223372036854775807 := hn.2
  unfold Tm.ok termB at h
  simp only at h
  have hv : tvL s.data.toList n = (textS s n).data.toList := by unfold tvL; rw [mk_toList]
  cases he : v.toList.isEmpty with
  | false =>
    rw [he] at h
    simp only [Bool.false_eq_true, if_false, Bool.and_eq_true, beq_iff_eq] at h
    obtain ⟨⟨hs, rfl⟩, hvb⟩ := h
    obtain ⟨g1, g2, g3⟩ := var_lx hvb
    have e1 : ClauseS.textTm tvL (tmL ⟨v, s, 0⟩) = v.data.toList := by unfold ClauseS.textTm; exact if_pos g1
    have e2 : ClauseS.tkTm tvL (tmL ⟨v, s, 0⟩) = (2, v.data.toList) := by unfold ClauseS.tkTm; exact if_pos g1
    refine ⟨⟨by rw [e1]; exact g1, fun r hs => by rw [e1, e2]; exact g2 r hs⟩, ⟨fun _ => ⟨dl_nil.2 hs, rfl, g3⟩, fun h => absurd h g1⟩⟩
  | true =>
    rw [he] at h
    simp only [if_true] at h
    have hvn : v.data.toList = [] := dl_nil.2 he
    have e1 : ClauseS.textTm tvL (tmL ⟨v, s, n⟩) = (textS s n).data.toList := by
      unfold ClauseS.textTm
      show (if v.data.toList ≠ [] then v.data.toList else tvL s.data.toList n) = _
      rw [if_neg (show ¬ v.data.toList ≠ [] from fun h => h hvn)]
      exact hv
    cases hs : s.toList.isEmpty with
    | true =>
      obtain rfl := ba_empty hs
      have ht : textS ⟨#[]⟩ n = itoaS n := by unfold textS; rw [h, hs]; rfl
      obtain ⟨g1, g2, g3⟩ := num_lx n h0 h1
      have e2 : ClauseS.tkTm tvL (tmL ⟨v, ⟨#[]⟩, n⟩) = (3, (textS ⟨#[]⟩ n).data.toList) := by
        unfold ClauseS.tkTm
        show (if v.data.toList ≠ [] then _ else if ([] : List UInt8) ≠ [] then _ else ((3 : Int), tvL ([] : List UInt8) n)) = _
        rw [if_neg (show ¬ v.data.toList ≠ [] from fun h => h hvn), if_neg (show ¬ ([] : List UInt8) ≠ [] from fun h => h rfl)]
        exact congrArg _ hv
      rw [ht] at e1 e2 hv
      refine ⟨⟨by rw [e1]; exact g1, fun r hs => by rw [e1, e2]; exact g2 r hs⟩, ⟨fun h => absurd hvn h, fun _ => ⟨?_, ?_⟩⟩⟩
      · show rdL (tvL ([] : List UInt8) n) = ([], n)
        rw [show tvL ([] : List UInt8) n = (itoaS n).data.toList from hv]
        unfold rdL readP
        rw [mk_toList, name_itoa, readN_itoa n h0 h1]
        rfl
      · show tvL ([] : List UInt8) n ∉ _
        rw [show tvL ([] : List UInt8) n = (itoaS n).data.toList from hv]
        exact g3
    | false =>
      have hg := h
      unfold goodB at h
      rw [hs] at h
      simp only [Bool.false_or, Bool.and_eq_true, beq_iff_eq] at h
      obtain ⟨rfl, hnm⟩ := h
      have ht : textS s 0 = s := by unfold textS; rw [hg, hs]; rfl
      obtain ⟨⟨g1, g2⟩, g3⟩ := name_lx hnm
      have hsn : s.data.toList ≠ [] := fun h => by rw [dl_nil.1 h] at hs; cases hs
      have e2 : ClauseS.tkTm tvL (tmL ⟨v, s, 0⟩) = (1, (textS s 0).data.toList) := by
        unfold ClauseS.tkTm
        show (if v.data.toList ≠ [] then _ else if s.data.toList ≠ [] then ((1 : Int), tvL s.data.toList 0) else _) = _
        rw [if_neg (show ¬ v.data.toList ≠ [] from fun h => h hvn), if_pos (show s.data.toList ≠ [] from hsn)]
        exact congrArg _ hv
      rw [ht] at e1 e2 hv
      refine ⟨⟨by rw [e1]; exact g1, fun r hs => by rw [e1, e2]; exact g2 r hs⟩, ⟨fun h => absurd hvn h, fun _ => ⟨?_, ?_⟩⟩⟩
      · show rdL (tvL s.data.toList 0) = (s.data.toList, 0)
        rw [hv]
        unfold rdL readP
        rw [mk_toList, hnm]
        rfl
      · show tvL s.data.toList 0 ∉ _
        rw [hv]
        exact g3
end Go.Proofs.YtnjdganikeganaaGreatDoor

/-
  Plain: the tokens of a text are those that it was made of; a clause's text as a list.
-/
namespace Go.Proofs.YtnjdganikeganaaGreatDoor
open Go.RowKit

theorem oneX_iff {l : List UInt8} {k : Int} {n : Nat} (h : oneX l = (0, k, n)) : (oneL l).err = 0 ∧ (oneL l).kind = k ∧ (oneL l).len = n := by
  unfold oneX at h
  injection h with h1 h2
  injection h2 with h2 h3
  exact ⟨h1, h2, h3⟩
def ktOf (B : List UInt8) (t : Tok) : ClauseS.KT := (t.kind, (B.drop t.fr.toNat).take (t.to.toNat - t.fr.toNat))
theorem lx_all (B : List UInt8) : ∀ (w : List UInt8) (ks : List ClauseS.KT), ClauseS.Lx oneX w ks → ∀ (f k : Nat), w.length ≤ f → B.drop k = w →
    (allF f k w).err = 0 ∧ (allF f k w).toks.map (ktOf B) = ks := by
  intro w ks h
  induction h with
  | nil =>
    intro f k _ _
    cases f <;> exact ⟨rfl, rfl⟩
  | @blank c r ks h4 hr ih =>
    intro f k hf hB
    cases f with
    | zero => simp at hf
    | succ f =>
      have e : allF (f + 1) k (c :: r) = allF f (k + 1) r := by
        rw [allF, if_pos (show (oneL (c :: r)).err = 4 from h4)]
      rw [e]
      exact ih f (k + 1) (by simpa using hf) (by rw [← List.drop_drop, hB]; rfl)
  | @tok w r k ks hw hone hr ih =>
    intro f n hf hB
    cases w with
    | nil => exact absurd rfl hw
    | cons c b =>
      cases f with
      | zero => simp at hf
      | succ f =>
        obtain ⟨h1, h2, h3⟩ := oneX_iff hone
        rw [List.cons_append] at h1 h2 h3 hB ⊢
        have hd : (c :: (b ++ r)).drop (c :: b).length = r := by
          rw [← List.cons_append, List.drop_left']
          rfl
        have e : allF (f + 1) n (c :: (b ++ r)) = Toks.put [⟨k, n, (n + (c :: b).length : Nat)⟩] (allF f (n + (c :: b).length) r) := by
          rw [allF, h1, h2, h3, hd]
          rfl
        have hBd : B.drop (n + (c :: b).length) = r := by rw [← List.drop_drop, hB, hd]
        obtain ⟨i1, i2⟩ := ih f (n + (c :: b).length) (by simp at hf ⊢; omega) hBd
        rw [e]
        unfold Toks.put
        rw [if_pos i1]
        refine ⟨rfl, ?_⟩
        rw [List.map_append, i2, List.map_cons, List.map_nil]
        have e2 : ktOf B ⟨k, (n : Int), ((n + (c :: b).length : Nat) : Int)⟩ = (k, c :: b) := by
          unfold ktOf
          simp only [Int.toNat_natCast, Nat.add_sub_cancel_left, hB]
          rw [← List.cons_append, List.take_left']
          rfl
        rw [e2]
        rfl
theorem extract_dl (s : ByteArray) (a b : Nat) : (s.extract a b).data.toList = (s.data.toList.drop a).take (b - a) := by
  rw [ByteArray.data_extract, Array.toList_extract]
/-- the tokens of a text that is made of tokens -/
theorem kts_of {s : ByteArray} {ks : List ClauseS.KT} (h : ClauseS.Lx oneX s.data.toList ks) (hl : s.size ≤ 4096) :
    (allL s.data.toList).err = 0 ∧ (txs s (allL s.data.toList).toks).map ClauseS.Tx.kt = ks := by
  have hn : s.data.toList.length = s.size := by simp
  obtain ⟨h1, h2⟩ := lx_all s.data.toList _ _ h s.data.toList.length 0 (Nat.le_refl _) rfl
  have e : allL s.data.toList = allF s.data.toList.length 0 s.data.toList := by
    unfold allL
    rw [if_neg (by omega)]
  rw [e]
  refine ⟨h1, ?_⟩
  rw [← h2]
  unfold txs
  rw [List.map_map]
  refine List.map_congr_left fun t _ => ?_
  show (t.kind, (s.extract t.fr.toNat t.to.toNat).data.toList) = _
  rw [extract_dl]
  rfl
theorem tm_text (t : Tm) : ClauseS.textTm tvL (tmL t) = t.txt.data.toList := by
  obtain ⟨v, s, n⟩ := t
  unfold ClauseS.textTm Tm.txt
  show (if v.data.toList ≠ [] then v.data.toList else tvL s.data.toList n) = _
  cases he : v.toList.isEmpty with
  | true =>
    rw [if_neg (fun h => h (dl_nil.2 he))]
    unfold tvL
    rw [mk_toList]
    rfl
  | false =>
    rw [if_pos (fun h => by rw [dl_nil.1 h] at he; cases he)]
    rfl
theorem joinX_dl (l : List ByteArray) : (joinB l).data.toList = ClauseS.joinX (l.map (·.data.toList)) := by
  show Lib.join (l.map (·.data.toList)) [44, 32] = _
  cases l with
  | nil => rfl
  | cons x l =>
    rw [List.map_cons, Lib.join_cons]
    unfold Lib.joinTail
    show _ = x.data.toList ++ (l.map (·.data.toList)).flatMap fun y => [44, 32] ++ y
    rw [List.flatMap_def]
theorem map_text (l : List Tm) : (l.map tmL).map (ClauseS.textTm tvL) = (l.map Tm.txt).map (·.data.toList) := by
  rw [List.map_map, List.map_map]
  exact List.map_congr_left fun t _ => tm_text t
theorem atomX_dl (p : ByteArray) (l : List Tm) : ClauseS.atomX tvL p.data.toList (l.map tmL) = (argsT p l).data.toList := by
  unfold ClauseS.atomX argsT
  cases l with
  | nil => simp
  | cons t r =>
    rw [if_neg (show ¬ (t :: r).map tmL = [] from by simp), map_text, ← joinX_dl]
    rw [if_neg (show ¬ (t :: r).isEmpty = true by simp)]
    simp only [dl_append, List.append_assoc]
theorem tm0_iff (t : Tm) : tmL t = ClauseS.tm0 ↔ t.none = true := by
  obtain ⟨v, s, n⟩ := t
  unfold Tm.none tmL ClauseS.tm0
  simp only [Bool.and_eq_true, beq_iff_eq, ClauseS.Tm.mk.injEq]
  rw [dl_nil, dl_nil]
theorem saidX_dl (l : Lp) : ClauseS.saidX tvL (ltL l.q) = l.saidT.data.toList := by
  unfold ClauseS.saidX ClauseS.whoX Lp.saidT
  show (if tmL l.who = ClauseS.tm0 then _ else ClauseS.textTm tvL (tmL l.who) ++ ([32] ++ (ClauseS.wSays ++ [32]))) ++ ClauseS.atomX tvL l.pred.data.toList (l.args.map tmL) = _
  rw [atomX_dl, tm_text]
  have hc : ∀ a p : ByteArray, (argsT (a ++ p) l.args).data.toList = a.data.toList ++ (argsT p l.args).data.toList := by
    intro a p
    unfold argsT
    split
    · exact dl_append _ _
    · simp only [dl_append, List.append_assoc]
  cases hn : l.who.none with
  | true => rw [if_pos ((tm0_iff _).2 hn)]; rfl
  | false =>
    rw [if_neg (fun h => by rw [(tm0_iff _).1 h] at hn; cases hn)]
    rw [if_neg (by decide), hc, dl_append]
    rfl
theorem who_cases {t : Tm} (h : t.spk = true) (hn : t.Nb) : tmL t = ClauseS.tm0 ∨ (t.none = false ∧ t.ok = true ∧ ((tmL t).var ≠ [] ∨ (tmL t).sym ≠ [])) := by
  unfold Tm.spk at h
  cases hz : t.none with
  | true => exact .inl ((tm0_iff t).2 hz)
  | false =>
    rw [hz] at h
    simp only [Bool.false_or, Bool.and_eq_true, Bool.or_eq_true, Bool.not_eq_true'] at h
    refine .inr ⟨rfl, h.1, ?_⟩
    rcases h.2 with h | h
    · exact .inl fun e => by rw [dl_nil.1 e] at h; cases h
    · exact .inr fun e => by rw [dl_nil.1 e] at h; cases h
/-- what may be said -/
theorem good_said {l : Lp} (h : l.said = true) (hn : l.Nb) : ClauseS.GoodS rdL tvL (ltL l.q) ∧ ((ltL l.q).who = ClauseS.tm0 ∨ ClauseS.TmX tvL oneX stopX (ltL l.q).who) ∧ ClauseS.NmX oneX stopX (ltL l.q).pred ∧ ∀ t ∈ (ltL l.q).args, ClauseS.TmX tvL oneX stopX t := by
  unfold Lp.said at h
  simp only [Bool.and_eq_true, decide_eq_true_eq, List.all_eq_true] at h
  obtain ⟨h1, h2, h3, h4⟩ := h
  have ha : ∀ t ∈ (ltL l.q).args, ClauseS.TmX tvL oneX stopX t ∧ ClauseS.GoodT rdL tvL t := by
    intro t ht
    obtain ⟨u, hu, rfl⟩ := List.mem_map.1 (show t ∈ l.args.map tmL from ht)
    exact tm_lx (h4 u hu) (hn.args u hu)
  have hp := name_lx h2
  have hw : (ltL l.q).who = tmL l.who := rfl
  rcases who_cases h1 hn.who with hz | ⟨_, ho, hv⟩
  · exact ⟨⟨.inl (by rw [hw]; exact hz), hp.2, by simpa [ltL, Lp.q] using h3, fun t ht => (ha t ht).2⟩, .inl (by rw [hw]; exact hz), hp.1, fun t ht => (ha t ht).1⟩
  · have := tm_lx ho hn.who
    exact ⟨⟨.inr ⟨this.2, hv⟩, hp.2, by simpa [ltL, Lp.q] using h3, fun t ht => (ha t ht).2⟩, .inr this.1, hp.1, fun t ht => (ha t ht).1⟩
theorem ctk_two {l : List Tm} (h : l.length = 2) : ∃ a b, l = [a, b] := by
  cases l with
  | nil => cases h
  | cons a r =>
    cases r with
    | nil => cases h
    | cons b r =>
      cases r with
      | nil => exact ⟨a, b, rfl⟩
      | cons c r => simp at h
/-- a literal that may be -/
theorem good_lit {l : Lp} (h : l.lit = true) (hn : l.Nb) : ClauseS.GoodL rdL tvL (ltL l.q) ∧ ClauseS.LxT oneX stopX (ClauseS.litX tvL (ltL l.q)) (ClauseS.tkLit tvL (ltL l.q)) ∧ ClauseS.litX tvL (ltL l.q) = l.litT.data.toList ∧ l.litT.size ≤ 200 := by
  have hk : (ltL l.q).kind = l.kind := rfl
  have hsz : ∀ t : Tm, t.ok = true → t.Nb → t.txt.size ≤ 21 := fun t h hn => txt_size h hn
  by_cases h12 : l.kind = 1 ∨ l.kind = 2
  · have hs : l.said = true := by
      unfold Lp.lit at h
      rw [if_pos (by rcases h12 with e | e <;> rw [e] <;> decide)] at h
      exact h
    obtain ⟨g1, g2, g3, g4⟩ := good_said hs hn
    have hsaid : l.saidT.size ≤ 150 := by
      unfold Lp.said at hs
      simp only [Bool.and_eq_true, decide_eq_true_eq, List.all_eq_true] at hs
      obtain ⟨s1, s2, s3, s4⟩ := hs
      have hp := name_size s2
      have hj := (joinB_size (l.args.map Tm.txt) 21 (fun x hx => by obtain ⟨t, ht, rfl⟩ := List.mem_map.1 hx; exact hsz t (s4 t ht) (hn.args t ht))).1
      rw [List.length_map] at hj
      have ha : ∀ a : ByteArray, (argsT a l.args).size ≤ a.size + 94 := by
        intro a
        unfold argsT
        split
        · omega
        · simp only [ByteArray.size_append]
          have e1 : (⟨#[40]⟩ : ByteArray).size = 1 := rfl
          have e2 : (⟨#[41]⟩ : ByteArray).size = 1 := rfl
          omega
      unfold Lp.saidT
      refine Nat.le_trans (ha _) ?_
      rcases who_cases s1 hn.who with hz | ⟨hz, ho, _⟩
      · rw [if_pos ((tm0_iff _).1 hz)]
        omega
      · rw [if_neg (by rw [hz]; decide)]
        have hw := hsz _ ho hn.who
        simp only [ByteArray.size_append]
        have e1 : wdSaid.size = 6 := rfl
        omega
    refine ⟨.inl ⟨by rw [hk]; exact h12, g1⟩, ClauseS.lit_lx tvL reads_one (.inl ⟨by rw [hk]; exact h12, g2, g3, g4⟩), ?_, ?_⟩
    · unfold ClauseS.litX Lp.litT
      rw [hk, saidX_dl]
      rcases h12 with e | e
      · rw [e]
        rfl
      · rw [e, if_neg (by decide), if_pos rfl, if_pos rfl, dl_append]
        rfl
    · unfold Lp.litT
      rcases h12 with e | e
      · rw [e, if_neg (by decide), if_neg (by decide), if_neg (by decide)]
        omega
      · rw [e, if_pos rfl, ByteArray.size_append]
        have e1 : wdNotB.size = 4 := rfl
        omega
  · have h34 : l.kind = 3 ∨ l.kind = 4 := by
      unfold Lp.lit at h
      rw [if_neg (by simpa using h12)] at h
      split at h
      · rename_i h3
        simpa using h3
      · cases h
    have hc : l.comp = true := by
      unfold Lp.lit at h
      rw [if_neg (by simpa using h12), if_pos (by simpa using h34)] at h
      exact h
    unfold Lp.comp at hc
    simp only [Bool.and_eq_true, decide_eq_true_eq, List.all_eq_true] at hc
    obtain ⟨c1, c2, c3, c4⟩ := hc
    obtain ⟨a, b, hab⟩ := ctk_two c3
    rw [hab] at c4
    have hna := hn.args
    rw [hab] at hna
    have ga := tm_lx (c4 a (by simp)) (hna a (by simp))
    have gb := tm_lx (c4 b (by simp)) (hna b (by simp))
    have sa := hsz a (c4 a (by simp)) (hna a (by simp))
    have sb := hsz b (c4 b (by simp)) (hna b (by simp))
    have hla : (ltL l.q).args = [tmL a, tmL b] := by show l.args.map tmL = _; rw [hab]; rfl
    refine ⟨.inr ⟨by rw [hk]; exact h34, (tm0_iff _).2 c1, dl_nil.2 c2, tmL a, tmL b, hla, ga.2, gb.2⟩, ClauseS.lit_lx tvL reads_one (.inr ⟨by rw [hk]; exact h34, ?_, ?_⟩), ?_, ?_⟩
    · rw [hla]; exact ga.1
    · rw [hla]; exact gb.1
    · unfold ClauseS.litX Lp.litT
      rw [hk, hla, hab]
      rcases h34 with e | e
      · rw [e]
        show ClauseS.textTm tvL (tmL a) ++ ([32] ++ (ClauseS.wLess ++ ([32] ++ ClauseS.textTm tvL (tmL b)))) = ((a.txt ++ wdLessB) ++ b.txt).data.toList
        rw [dl_append, dl_append, tm_text, tm_text, List.append_assoc]
        rfl
      · rw [e]
        show ClauseS.textTm tvL (tmL a) ++ ([32] ++ (ClauseS.wUnlike ++ ([32] ++ ClauseS.textTm tvL (tmL b)))) = ((a.txt ++ wdUnlikeB) ++ b.txt).data.toList
        rw [dl_append, dl_append, tm_text, tm_text, List.append_assoc]
        rfl
    · unfold Lp.litT
      rw [hab]
      rcases h34 with e | e
      · rw [e, if_neg (by decide), if_pos rfl]
        show ((a.txt ++ wdLessB) ++ b.txt).size ≤ _
        simp only [ByteArray.size_append]
        have e1 : wdLessB.size = 3 := rfl
        omega
      · rw [e, if_neg (by decide), if_neg (by decide), if_pos rfl]
        show ((a.txt ++ wdUnlikeB) ++ b.txt).size ≤ _
        simp only [ByteArray.size_append]
        have e1 : wdUnlikeB.size = 4 := rfl
        omega
end Go.Proofs.YtnjdganikeganaaGreatDoor

/-
  Plain: what is written is read as it was.
-/
namespace Go.Proofs.YtnjdganikeganaaGreatDoor
open Go.RowKit

theorem map_inj {α β : Type} {f : α → β} (hf : ∀ a b, f a = f b → a = b) : ∀ {l m : List α}, l.map f = m.map f → l = m
  | [], [], _ => rfl
  | [], b :: m, h => by cases h
  | a :: l, [], h => by cases h
  | a :: l, b :: m, h => by
    rw [List.map_cons, List.map_cons] at h
    injection h with h1 h2
    rw [hf _ _ h1, map_inj hf h2]
theorem tmL_inj (a b : Tm) (h : tmL a = tmL b) : a = b := by
  obtain ⟨v, s, n⟩ := a
  obtain ⟨v', s', n'⟩ := b
  unfold tmL at h
  simp only [ClauseS.Tm.mk.injEq] at h
  rw [ba_ext h.1, ba_ext h.2.1, h.2.2]
theorem ltL_inj (a b : Lq) (h : ltL a = ltL b) : a = b := by
  obtain ⟨k, w, p, l⟩ := a
  obtain ⟨k', w', p', l'⟩ := b
  unfold ltL at h
  simp only [ClauseS.Lt.mk.injEq] at h
  rw [h.1, tmL_inj _ _ h.2.1, ba_ext h.2.2.1, map_inj tmL_inj h.2.2.2]
theorem clL_inj (a b : Cq) (h : clL a = clL b) : a = b := by
  obtain ⟨x, l⟩ := a
  obtain ⟨x', l'⟩ := b
  unfold clL at h
  simp only [ClauseS.Cl.mk.injEq] at h
  rw [ltL_inj _ _ h.1, map_inj ltL_inj h.2]
theorem ask_said {l : Lp} (h : l.ask = true) : l.kind = 1 ∧ l.said = true ∧ l.lit = true := by
  unfold Lp.ask at h
  rw [Bool.and_eq_true, beq_iff_eq] at h
  refine ⟨h.1, h.2, ?_⟩
  unfold Lp.lit
  rw [h.1]
  exact h.2
theorem saidT_lit {l : Lp} (h : l.kind = 1) : l.litT = l.saidT := by
  unfold Lp.litT
  rw [h, if_neg (by decide), if_neg (by decide), if_neg (by decide)]
/-- a literal that may be asked for is read as it was -/
theorem asked_back {l : Lp} (h : l.ask = true) (hn : l.Nb) : parseLitR l.saidT = .ok l.q := by
  obtain ⟨hk, hs, hl⟩ := ask_said h
  obtain ⟨g1, g2, g3, g4⟩ := good_said hs hn
  have hsz : l.saidT.size ≤ 200 := by
    have := (good_lit hl hn).2.2.2
    rwa [saidT_lit hk] at this
  have hx := ClauseS.said_lx tvL reads_one g2 g3 g4
  have hx2 : ClauseS.Lx oneX l.saidT.data.toList (ClauseS.tkSaid tvL (ltL l.q)) := by
    have := hx [] [] (by unfold stopX; rfl) ClauseS.Lx.nil
    rw [List.append_nil, List.append_nil, saidX_dl] at this
    exact this
  obtain ⟨e1, e2⟩ := kts_of hx2 (by omega)
  have ht := ClauseS.asked_tok rdL tvL l.saidT.size g1 (show (ltL l.q).kind = 1 from hk) _ e2
  have hw := whole_tie ltL l.saidT (allL l.saidT.data.toList).toks (ClauseS.saidS rdL l.saidT.size 1) (saidR l.saidT (allL l.saidT.data.toList).toks 1 0) (said_tie l.saidT _ 1 0)
  rw [ht] at hw
  unfold parseLitR
  rw [if_pos e1]
  cases hr : wholeR l.saidT (allL l.saidT.data.toList).toks (saidR l.saidT (allL l.saidT.data.toList).toks 1 0) with
  | error e => rw [hr] at hw; cases hw
  | ok x =>
    rw [hr] at hw
    injection hw with hw
    rw [ltL_inj _ _ hw]
theorem check_parts {c : Kp} (h : c.check = true) : c.body.length ≤ 6 ∧ c.head.who.none = true ∧ c.head.ask = true ∧ ∀ l ∈ c.body, l.lit = true := by
  unfold Kp.check at h
  simpa only [Bool.and_eq_true, decide_eq_true_eq, List.all_eq_true] using h
theorem clX_dl {c : Kp} (h : c.check = true) (hn : c.Nb) : ClauseS.clX tvL (clL c.q) = c.txt.data.toList := by
  obtain ⟨h1, h2, h3, h4⟩ := check_parts h
  have hh : c.head.saidT = argsT c.head.pred c.head.args := by unfold Lp.saidT; rw [if_pos h2]
  have hb : (clL c.q).body.map (ClauseS.litX tvL) = (c.body.map Lp.litT).map (·.data.toList) := by
    show ((c.body.map Lp.q).map ltL).map (ClauseS.litX tvL) = _
    rw [List.map_map, List.map_map, List.map_map]
    exact List.map_congr_left fun l hl => (good_lit (h4 l hl) (hn.body l hl)).2.2.1
  unfold ClauseS.clX Kp.txt
  rw [hb, ← joinX_dl]
  show ClauseS.atomX tvL c.head.pred.data.toList (c.head.args.map tmL) ++ ((if (clL c.q).body = [] then [] else _) ++ ClauseS.wDot) = _
  rw [atomX_dl, hh]
  cases hc : c.body with
  | nil =>
    rw [if_pos (show (clL c.q).body = [] by show (c.body.map Lp.q).map ltL = []; rw [hc]; rfl), if_pos (show ([] : List Lp).isEmpty = true from rfl), dl_append]
    rfl
  | cons x r =>
    rw [if_neg (show ¬ (clL c.q).body = [] by show ¬ (c.body.map Lp.q).map ltL = []; rw [hc]; simp), if_neg (show ¬ (x :: r).isEmpty = true by simp)]
    simp only [dl_append, List.append_assoc]
    rfl
theorem good_cl {c : Kp} (h : c.check = true) (hn : c.Nb) : ClauseS.GoodK rdL tvL (clL c.q) ∧ ClauseS.Lx oneX c.txt.data.toList (ClauseS.tkCl tvL (clL c.q)) ∧ c.txt.size ≤ 2000 := by
  obtain ⟨h1, h2, h3, h4⟩ := check_parts h
  obtain ⟨hk, hs, hl⟩ := ask_said h3
  obtain ⟨g1, g2, g3, g4⟩ := good_said hs hn.head
  have hb : ∀ x ∈ (clL c.q).body, ∃ l ∈ c.body, x = ltL l.q := by
    intro x hx
    obtain ⟨y, hy, rfl⟩ := List.mem_map.1 (show x ∈ (c.body.map Lp.q).map ltL from hx)
    obtain ⟨l, hl, rfl⟩ := List.mem_map.1 hy
    exact ⟨l, hl, rfl⟩
  refine ⟨⟨hk, (tm0_iff _).2 h2, g1, by show ((c.body.map Lp.q).map ltL).length ≤ 6; rw [List.length_map, List.length_map]; exact h1, fun x hx => ?_⟩, ?_, ?_⟩
  · obtain ⟨l, hl, rfl⟩ := hb x hx
    exact (good_lit (h4 l hl) (hn.body l hl)).1
  · rw [← clX_dl h hn]
    refine ClauseS.clause_lx tvL reads_one g3 g4 fun x hx => ?_
    obtain ⟨l, hl, rfl⟩ := hb x hx
    exact (good_lit (h4 l hl) (hn.body l hl)).2.1
  · have hsz : c.head.saidT.size ≤ 200 := by
      have := (good_lit hl hn.head).2.2.2
      rwa [saidT_lit hk] at this
    have hj := (joinB_size (c.body.map Lp.litT) 200 (fun x hx => by obtain ⟨l, hl, rfl⟩ := List.mem_map.1 hx; exact (good_lit (h4 l hl) (hn.body l hl)).2.2.2)).1
    rw [List.length_map] at hj
    have e1 : wdIfB.size = 4 := rfl
    have e2 : (⟨#[46]⟩ : ByteArray).size = 1 := rfl
    unfold Kp.txt
    split
    · simp only [ByteArray.size_append]; omega
    · simp only [ByteArray.size_append]; omega
/-- a clause that may be is read as it was -/
theorem clause_back {c : Kp} (h : c.check = true) (hn : c.Nb) : parseR c.txt = .ok c.q := by
  obtain ⟨g1, hx, hsz⟩ := good_cl h hn
  obtain ⟨e1, e2⟩ := kts_of hx (by omega)
  have ht := ClauseS.clause_tok rdL tvL c.txt.size g1 _ e2
  have hw := whole_tie clL c.txt (allL c.txt.data.toList).toks (ClauseS.clauseS rdL c.txt.size) (clauseR c.txt (allL c.txt.data.toList).toks 0) (clause_tie c.txt _ 0)
  rw [ht] at hw
  unfold parseR
  rw [if_pos e1]
  cases hr : wholeR c.txt (allL c.txt.data.toList).toks (clauseR c.txt (allL c.txt.data.toList).toks 0) with
  | error e => rw [hr] at hw; cases hw
  | ok x =>
    rw [hr] at hw
    injection hw with hw
    rw [clL_inj _ _ hw]
end Go.Proofs.YtnjdganikeganaaGreatDoor

/-
  Plain: what is read may be; so it is written, and that is read as it was.
-/
namespace Go.Proofs.YtnjdganikeganaaGreatDoor
open Go.RowKit

theorem run_take : ∀ r : List UInt8, ((r.take (runL r)).all fun c => winB (c.toNat : Int)) = true
  | [] => rfl
  | c :: r => by
    rw [runL]
    split
    · rename_i h
      rw [List.take_succ_cons, List.all_cons, h, run_take r]
      rfl
    · rfl
theorem piece_inv {l : List UInt8} {n m : Nat} {k : Int} (h : pieceL l n = ⟨0, k, m⟩) : m = n ∧ kindL (l.take n) = k ∧ k ≠ 0 := by
  unfold pieceL at h
  split at h
  · injection h with h; cases h
  · rename_i hz
    injection h with _ h2 h3
    exact ⟨h3.symm, h2, h2 ▸ hz⟩
/-- a token that is no sign is a piece -/
theorem one_inv {c : UInt8} {r : List UInt8} {k : Int} {n : Nat} (h : oneL (c :: r) = ⟨0, k, n⟩) (h4 : k ≠ 4) : n = 1 + runL r ∧ kindL ((c :: r).take n) = k ∧ k ≠ 0 := by
  have hp : ∀ h : pieceL (c :: r) (1 + runL r) = ⟨0, k, n⟩, n = 1 + runL r ∧ kindL ((c :: r).take n) = k ∧ k ≠ 0 := fun h => by
    obtain ⟨h1, h2, h3⟩ := piece_inv h
    rw [h1]
    exact ⟨rfl, h2, h3⟩
  rw [oneL] at h
  split at h
  · injection h with h; cases h
  split at h
  · injection h with _ h; exact absurd h.symm h4
  split at h
  · split at h
    · injection h with _ h; exact absurd h.symm h4
    · injection h with h; cases h
  split at h
  · split at h
    · injection h with _ h; exact absurd h.symm h4
    · injection h with h; cases h
  split at h
  · split at h
    · exact hp h
    · injection h with h; cases h
  split at h
  · exact hp h
  · injection h with h; cases h
theorem kind_inv {l : List UInt8} {k : Int} (h : kindL l = k) : (k = 1 → nameL l = true) ∧ (k = 3 → nameL l = false ∧ (readN ⟨l.toArray⟩).isSome = true) := by
  unfold kindL at h
  split at h
  · exact ⟨fun e => by rw [e] at h; exact absurd h (by decide), fun e => by rw [e] at h; exact absurd h (by decide)⟩
  split at h
  · exact ⟨fun e => by rw [e] at h; exact absurd h (by decide), fun e => by rw [e] at h; exact absurd h (by decide)⟩
  split at h
  · rename_i hn
    exact ⟨fun _ => hn, fun e => by rw [e] at h; exact absurd h (by decide)⟩
  rename_i hn
  split at h
  · rename_i hr
    exact ⟨fun e => by rw [e] at h; exact absurd h (by decide), fun _ => ⟨by simpa using hn, hr⟩⟩
  · exact ⟨fun e => by rw [e] at h; exact absurd h (by decide), fun e => by rw [e] at h; exact absurd h (by decide)⟩
/-- what a token of a text is -/
structure TokOk (k : Int) (T : List UInt8) : Prop where
  ne : T ≠ []
  name : k = 1 → nameL T = true
  var : k = 2 → rvarL T = true
  num : k = 3 → nameL T = false ∧ (readN ⟨T.toArray⟩).isSome = true
theorem tok_ok {l : List UInt8} {k : Int} {n : Nat} (h : oneL l = ⟨0, k, n⟩) (h0 : 0 < n) (hn : n ≤ l.length) : TokOk k (l.take n) := by
  cases l with
  | nil => simp at hn; omega
  | cons c r =>
    have hne : (c :: r).take n ≠ [] := fun e => by
      have := congrArg List.length e
      rw [List.length_take, List.length_nil] at this
      omega
    by_cases h4 : k = 4
    · subst h4
      exact ⟨hne, fun e => absurd e (by decide), fun e => absurd e (by decide), fun e => absurd e (by decide)⟩
    · obtain ⟨h1, h2, h3⟩ := one_inv h h4
      obtain ⟨k1, k3⟩ := kind_inv h2
      refine ⟨hne, k1, fun e => ?_, k3⟩
      subst e
      obtain ⟨v1, v2⟩ := kindL_var h2
      rw [h1, Nat.add_comm, List.take_succ_cons] at v1 v2 ⊢
      have hu : upB (c.toNat : Int) = true := v1
      have hw : winB (c.toNat : Int) = true := by unfold winB; rw [hu]; simp
      unfold rvarL
      rw [List.all_cons, hw, run_take r, v1]
      simp only [Bool.and_true, Bool.and_eq_true, decide_eq_true_eq]
      exact ⟨by simp, v2⟩
theorem chain_ok (l : List UInt8) : ∀ (ts : List Tok) (k : Nat), ChainT l k ts → ∀ t ∈ ts, TokOk t.kind ((l.drop t.fr.toNat).take (t.to.toNat - t.fr.toNat))
  | [], _, _, t, ht => by cases ht
  | x :: ts, k, h, t, ht => by
    obtain ⟨p, n, h1, h2, h3, h4, h5, h6, h7, h8, h9⟩ := h
    rcases List.mem_cons.1 ht with rfl | ht
    · rw [h3, h6]
      simp only [Int.toNat_natCast, Nat.add_sub_cancel_left]
      exact tok_ok h5 h7 (by rw [List.length_drop]; omega)
    · exact chain_ok l ts (p + n) h9 t ht
def PT (X : ClauseS.Tm) : Prop := ∃ t : Tm, tmL t = X ∧ t.ok = true
def PW (X : ClauseS.Tm) : Prop := X.var ≠ [] ∨ X.sym ≠ []
def PN (p : List UInt8) : Prop := nameL p = true
theorem mk_dl (T : List UInt8) : (⟨T.toArray⟩ : ByteArray).data.toList = T := rfl
theorem tok_sh {k : Int} {T : List UInt8} (h : TokOk k T) (len f : Int) : ClauseS.TokS rdL len PT PW PN ⟨k, T, f⟩ := by
  have hne : (⟨T.toArray⟩ : ByteArray).toList.isEmpty = false := by
    cases he : (⟨T.toArray⟩ : ByteArray).toList.isEmpty with
    | false => rfl
    | true => exact absurd (dl_nil.2 he) h.ne
  have he0 : (⟨#[]⟩ : ByteArray).toList.isEmpty = true := dl_nil.1 rfl
  have key : ∀ x r, ClauseS.termS rdL len (⟨k, T, f⟩ :: r) = .ok (x, r) → PT x ∧ (k = 1 ∨ k = 2 → PW x) := by
    intro x r hx
    unfold ClauseS.termS at hx
    dsimp only at hx
    split at hx
    · rename_i h2
      injection hx with hx
      injection hx with hx _
      subst hx
      refine ⟨⟨⟨⟨T.toArray⟩, ⟨#[]⟩, 0⟩, rfl, ?_⟩, fun _ => .inl h.ne⟩
      unfold Tm.ok termB
      simp only
      rw [hne, if_neg (by decide), var_eq, he0]
      have := h.var h2
      unfold rvarB
      exact this
    · split at hx
      · rename_i h2 h13
        injection hx with hx
        injection hx with hx _
        subst hx
        rcases h13 with h1 | h3
        · have hnm : nameB ⟨T.toArray⟩ = true := by rw [nameB_eq]; exact h.name h1
          have hr : rdL T = (T, 0) := by unfold rdL readP; rw [hnm]; rfl
          rw [hr]
          refine ⟨⟨⟨⟨#[]⟩, ⟨T.toArray⟩, 0⟩, rfl, ?_⟩, fun _ => .inr h.ne⟩
          unfold Tm.ok termB
          simp only
          rw [he0, if_pos rfl]
          unfold goodB
          rw [hnm]
          simp
        · obtain ⟨n1, n2⟩ := h.num h3
          have hnm : nameB ⟨T.toArray⟩ = false := by rw [nameB_eq]; exact n1
          obtain ⟨v, hv⟩ := Option.isSome_iff_exists.1 n2
          have hr : rdL T = ([], v) := by unfold rdL readP; rw [hnm, hv]; rfl
          rw [hr]
          refine ⟨⟨⟨⟨#[]⟩, ⟨#[]⟩, v⟩, rfl, ?_⟩, fun e => by omega⟩
          unfold Tm.ok termB goodB
          simp only
          rw [he0, if_pos rfl]
          rfl
      · cases hx
  exact ⟨fun x r hx => (key x r hx).1, fun hk x r hx => (key x r hx).2 hk, fun hk => h.name hk⟩
theorem all_tok {s : ByteArray} (h : (allL s.data.toList).err = 0) : ClauseS.AllT rdL s.size PT PW PN (txs s (allL s.data.toList).toks) := by
  intro t ht
  obtain ⟨u, hu, rfl⟩ := List.mem_map.1 ht
  have := chain_ok s.data.toList _ 0 (chain_all s.data.toList h) u hu
  rw [← extract_dl] at this
  exact tok_sh this s.size u.fr
theorem pt_ok {t : Tm} (h : PT (tmL t)) : t.ok = true := by
  obtain ⟨u, h1, h2⟩ := h
  rw [← tmL_inj _ _ h1]
  exact h2
theorem said_of {l : Lp} (h : ClauseS.ShS PT PW PN (ltL l.q)) : l.said = true := by
  obtain ⟨h1, h2, h3, h4⟩ := h
  unfold Lp.said
  simp only [Bool.and_eq_true, decide_eq_true_eq, List.all_eq_true]
  refine ⟨?_, ?_, by simpa [ltL, Lp.q] using h3, fun t ht => pt_ok (h4 (tmL t) (List.mem_map_of_mem ht))⟩
  · unfold Tm.spk
    rcases h1 with hz | ⟨p1, p2⟩
    · rw [(tm0_iff l.who).1 hz]; rfl
    · rw [pt_ok (t := l.who) p1]
      have hv : (!l.who.v.toList.isEmpty || !l.who.s.toList.isEmpty) = true := by
        rw [Bool.or_eq_true, Bool.not_eq_true', Bool.not_eq_true']
        rcases p2 with p | p
        · exact .inl (by cases he : l.who.v.toList.isEmpty with
            | false => rfl
            | true => exact absurd (dl_nil.2 he) p)
        · exact .inr (by cases he : l.who.s.toList.isEmpty with
            | false => rfl
            | true => exact absurd (dl_nil.2 he) p)
      rw [hv]
      simp
  · rw [nameB_eq]; exact h2
theorem lit_of_sh {l : Lp} (h : ClauseS.ShL PT PW PN (ltL l.q)) : l.lit = true := by
  have hk : (ltL l.q).kind = l.kind := rfl
  unfold Lp.lit
  rcases h with ⟨h1, h2⟩ | h
  · rw [if_pos (by rw [hk] at h1; rcases h1 with e | e <;> rw [e] <;> decide)]
    exact said_of h2
  · obtain ⟨h1, h2, h3, a, b, h4, h5, h6⟩ := h
    rw [hk] at h1
    rw [if_neg (by rcases h1 with e | e <;> rw [e] <;> decide), if_pos (by rcases h1 with e | e <;> rw [e] <;> decide)]
    have ha : l.args.map tmL = [a, b] := h4
    unfold Lp.comp
    simp only [Bool.and_eq_true, decide_eq_true_eq, List.all_eq_true]
    refine ⟨(tm0_iff _).1 h2, dl_nil.1 h3, by have := congrArg List.length ha; simpa using this, fun t ht => ?_⟩
    have hm : tmL t ∈ l.args.map tmL := List.mem_map_of_mem ht
    rw [ha] at hm
    simp only [List.mem_cons, List.not_mem_nil, or_false] at hm
    rcases hm with e | e
    · exact pt_ok (by rw [e]; exact h5)
    · exact pt_ok (by rw [e]; exact h6)
/-- a literal that was read may be asked for -/
theorem asked_of {s : ByteArray} {l : Lp} (h : parseLitR s = .ok l.q) : l.ask = true := by
  unfold parseLitR at h
  split at h
  · rename_i he
    have hw := whole_tie ltL s (allL s.data.toList).toks (ClauseS.saidS rdL s.size 1) (saidR s (allL s.data.toList).toks 1 0) (said_tie s _ 1 0)
    rw [h] at hw
    obtain ⟨h1, h2⟩ := ClauseS.asked_sh rdL s.size PT PW PN (all_tok he) hw
    unfold Lp.ask
    rw [said_of h2, show l.kind = 1 from h1]
    rfl
  · cases h
/-- a clause that was read may be -/
theorem check_of {s : ByteArray} {c : Kp} (h : parseR s = .ok c.q) : c.check = true := by
  unfold parseR at h
  split at h
  · rename_i he
    have hw := whole_tie clL s (allL s.data.toList).toks (ClauseS.clauseS rdL s.size) (clauseR s (allL s.data.toList).toks 0) (clause_tie s _ 0)
    rw [h] at hw
    obtain ⟨h1, h2, h3, h4, h5⟩ := ClauseS.clause_sh rdL s.size PT PW PN (all_tok he) hw
    unfold Kp.check
    simp only [Bool.and_eq_true, decide_eq_true_eq, List.all_eq_true]
    refine ⟨?_, (tm0_iff _).1 h2, ?_, fun l hl => lit_of_sh (h5 (ltL l.q) (List.mem_map_of_mem (List.mem_map_of_mem hl)))⟩
    · have : ((c.body.map Lp.q).map ltL).length ≤ 6 := h4
      simpa using this
    · unfold Lp.ask
      rw [said_of h3, show c.head.kind = 1 from h1]
      rfl
  · cases h
end Go.Proofs.YtnjdganikeganaaGreatDoor

/-
  Plain: an error's number is never that of none.
-/
namespace Go.Proofs.YtnjdganikeganaaGreatDoor
open Go.RowKit

def NE {α : Type} (R : Except (Int × Int) α) : Prop := ∀ e, R = .error e → e.1 ≠ 0
theorem NE.ok {α : Type} (x : α) : NE (.ok x : Except (Int × Int) α) := fun e h => by cases h
theorem NE.six {α : Type} (p : Int) : NE (.error (6, p) : Except (Int × Int) α) := fun e h => by injection h with h; subst h; exact (by decide : (6 : Int) ≠ 0)
theorem NE.two {α : Type} (p : Int) : NE (.error (2, p) : Except (Int × Int) α) := fun e h => by injection h with h; subst h; exact (by decide : (2 : Int) ≠ 0)
theorem NE.on {α β : Type} {R : Except (Int × Int) α} (h : NE R) {e : Int × Int} (he : R = .error e) : NE (.error e : Except (Int × Int) β) := fun e' h' => by injection h' with h'; subst h'; exact h e he
section
variable (s : ByteArray) (ts : List Tok)
theorem ne_moreT : ∀ (n : Nat) (acc : List Tm) (k : Nat), NE (moreT s ts n acc k)
  | 0, acc, k => by unfold moreT; split; exact .two _; exact .ok _
  | n + 1, acc, k => by
    unfold moreT; split
    · split; exact ne_moreT n _ _; exact .six _
    · exact .ok _
theorem ne_listT (n k : Nat) : NE (listT s ts n k) := by
  unfold listT; split; exact ne_moreT s ts _ _ _; exact .six _
theorem ne_atomR (k : Nat) : NE (atomR s ts k) := by
  unfold atomR; split
  · split
    · split
      · rename_i e he; exact (ne_listT s ts 3 (k + 2)).on he
      · split; exact .ok _; exact .six _
    · exact .ok _
  · exact .six _
theorem ne_saidR (kd : Int) (k : Nat) : NE (saidR s ts kd k) := by
  unfold saidR; split
  · split
    · split
      · rename_i e he; exact (ne_atomR s ts (k + 2)).on he
      · exact .ok _
    · exact .six _
  · split
    · rename_i e he; exact (ne_atomR s ts k).on he
    · exact .ok _
theorem ne_compR (k : Nat) : NE (compR s ts k) := by
  unfold compR; split
  · split
    · split; exact .ok _; exact .six _
    · split
      · split; exact .ok _; exact .six _
      · exact .six _
  · exact .six _
theorem ne_litR (k : Nat) : NE (litR s ts k) := by
  unfold litR; split
  · exact ne_saidR s ts _ _
  · split; exact ne_compR s ts _; exact ne_saidR s ts _ _
theorem ne_moreL : ∀ (n : Nat) (acc : List Lq) (k : Nat), NE (moreL s ts n acc k)
  | 0, acc, k => by unfold moreL; split; exact .two _; exact .ok _
  | n + 1, acc, k => by
    unfold moreL; split
    · split
      · rename_i e he; exact (ne_litR s ts (k + 1)).on he
      · exact ne_moreL n _ _
    · exact .ok _
theorem ne_listL (n k : Nat) : NE (listL s ts n k) := by
  unfold listL; split
  · rename_i e he; exact (ne_litR s ts k).on he
  · exact ne_moreL s ts _ _ _
theorem ne_clauseR (k : Nat) : NE (clauseR s ts k) := by
  unfold clauseR; split
  · rename_i e he; exact (ne_atomR s ts k).on he
  · split
    · split
      · rename_i e he; exact (ne_listL s ts _ _).on he
      · split; exact .ok _; exact .six _
    · split; exact .ok _; exact .six _
theorem ne_wholeR {α : Type} {R : Except (Int × Int) (α × Nat)} (h : NE R) : NE (wholeR s ts R) := by
  unfold wholeR; split
  · rename_i e; exact h.on rfl
  · split; exact .ok _; exact .six _
end
theorem parseLitR_ne {s : ByteArray} {n p : Int} (h : parseLitR s = .error (n, p)) : n ≠ 0 := by
  unfold parseLitR at h
  split at h
  · exact ne_wholeR s _ (ne_saidR s _ _ _) _ h
  · rename_i he
    injection h with h
    injection h with h _
    exact h ▸ he
theorem parseR_ne {s : ByteArray} {n p : Int} (h : parseR s = .error (n, p)) : n ≠ 0 := by
  unfold parseR at h
  split at h
  · exact ne_wholeR s _ (ne_clauseR s _ _) _ h
  · rename_i he
    injection h with h
    injection h with h _
    exact h ▸ he
end Go.Proofs.YtnjdganikeganaaGreatDoor

/-
  Joined of: RckA, RprA, ShfA.
-/
import Derived.Test.YtfmkfabbiifolaaGreatDoorJc01
import Derived.Test.YtfmkfabbiifolaaGreatDoorJa14
import Derived.Test.YtfmkfabbiifolaaGreatDoorJa10
import Derived.Test.YtfmkfabbiifolaaGreatDoorJa26
import Derived.Test.YtfmkfabbiifolaaGreatDoorJa28
import Derived.Test.YtfmkfabbiifolaaGreatDoorJa16
set_option linter.unusedVariables false
set_option linter.unusedSimpArgs false
/-
  Contracts: the reference's Term, own, terms.
-/
namespace Go.Proofs.YtfmkfabbiifolaaGreatDoor
open Go.RowKit

theorem size_posI {v : ByteArray} : (0 : Int) < (v.size : Int) ↔ v.toList.isEmpty = false := by
  rw [ByteArray.toList_eq]
  have : v.size = v.data.toList.length := rfl
  rw [this]
  cases v.data.toList <;> simp

set_option maxHeartbeats 2000000 in
theorem refterm_any (t : Tm) (w : World) (hz : t.Sz) :
    Calls Tryz.prog 128 #[.agg #[.string t.v, .string t.s, .int .i64 t.n]] w fun e w' => e = .returned (.bool t.ok) ∧ Below w.heap.size w w' := by
  obtain ⟨v, s, n⟩ := t
  have hv := hz.v
  have hs := hz.s
  simp only at hv hs ⊢
  have HB := Lib.hid (below1 w)
  have HT := Lib.hid (show (⟨v, s, n⟩ : Tm).ok = if v.toList.isEmpty then goodB s n else (s.toList.isEmpty && n == 0) && varB v from rfl)
  have HG := Lib.hid (show ∀ X, Calls Tryz.prog 141 #[.agg #[.string s, .int .i64 n]] X fun e w' => e = .returned (.bool (goodB s n)) ∧ Below X.heap.size X w' from fun X => refgood_any s n X (Nat.le_trans hs (by decide)))
  have HV := Lib.hid (show ∀ X, Calls Tryz.prog 142 #[.string v] X fun e w' => e = .returned (.bool (varB v)) ∧ X = w' from fun X => refvar_any v X hv)
  have q1 : ((s.size : Int) == 0) = s.toList.isEmpty := sz_eq s
  generalize (⟨v, s, n⟩ : Tm).ok = ok at *
  generalize goodB s n = gd at *
  generalize varB v = vb at *
  clear hz hv hs
  cases h0 : v.toList.isEmpty with
  | true =>
    have hp : ¬ (0 : Int) < (v.size : Int) := by rw [size_posI, h0]; decide
    rw [h0] at HT
    clear h0
    go_enter Tryz.func128, Tryz.ntmps128
    go_wp2_with (go_at_call 141; refine (HG.out _).mono ?_; rintro e w1 ⟨rfl, hb1⟩)
    go_ret
    exact ⟨by rw [HT.out]; rfl, (HB.out _).trans (hb1.mono (HB.out _).size)⟩
  | false =>
    have hp : (0 : Int) < (v.size : Int) := by rw [size_posI, h0]
    rw [h0] at HT
    clear h0
    cases h1 : s.toList.isEmpty
    all_goals rw [h1] at HT q1
    all_goals clear h1
    all_goals cases h2 : (n == 0)
    all_goals rw [h2] at HT
    all_goals cases vb
    all_goals
      go_enter Tryz.func128, Tryz.ntmps128
      go_wp2_with (go_at_call 142; refine (HV.out _).mono ?_; rintro e w1 ⟨rfl, rfl⟩)
      go_ret
      exact ⟨by rw [HT.out]; rfl, HB.out _⟩

set_option maxHeartbeats 2000000 in
theorem refown_any (t : Tm) (w : World) :
    Calls Tryz.prog 100 #[.agg #[.string t.v, .string t.s, .int .i64 t.n]] w fun e w' => e = .returned (.bool t.none) ∧ Below w.heap.size w w' := by
  obtain ⟨v, s, n⟩ := t
  simp only
  have HB := Lib.hid (below1 w)
  have HT := Lib.hid (show (⟨v, s, n⟩ : Tm).none = (v.toList.isEmpty && (s.toList.isEmpty && n == 0)) from rfl)
  have q0 : ((v.size : Int) == 0) = v.toList.isEmpty := sz_eq v
  have q1 : ((s.size : Int) == 0) = s.toList.isEmpty := sz_eq s
  generalize (⟨v, s, n⟩ : Tm).none = no at *
  cases h0 : v.toList.isEmpty
  all_goals rw [h0] at HT q0
  all_goals clear h0
  all_goals cases h1 : s.toList.isEmpty
  all_goals rw [h1] at HT q1
  all_goals clear h1
  all_goals cases h2 : (n == 0)
  all_goals rw [h2] at HT
  all_goals
    go_enter Tryz.func100, Tryz.ntmps100
    go_wp2_with fail
    go_ret
    exact ⟨by rw [HT.out]; rfl, HB.out _⟩

set_option maxHeartbeats 2000000 in
set_option maxRecDepth 100000 in
theorem refterms_any (q : Option Addr) (l : List Tm) (c : Nat) (w : World) (hl : Tms w w.heap.size q l) (hm : l.length ≤ maxLen) (hz : ∀ t ∈ l, t.Sz) :
    Calls Tryz.prog 126 #[.slice q l.length c] w fun e w' => e = .returned (.bool (l.all Tm.ok)) ∧ Below w.heap.size w w' := by
  unfold maxLen at hm
  have HL := Lib.hid hl
  have HZ := Lib.hid hz
  clear hl hz
  go_enter Tryz.func126, Tryz.ntmps126
  go_wp2_with fail
  go_loopw [3] (fun i wr => ∃ k : Nat, k ≤ l.length ∧ i = .int .i64 k ∧ l.all Tm.ok = (l.drop k).all Tm.ok ∧ Below w.heap.size w wr) (fun i _ => l.length - (intOf i).toNat)
  case atStart => exact ⟨0, Nat.zero_le _, rfl, rfl, Below.refl _ _⟩
  case round =>
    obtain ⟨k, hk, rfl, ha, hbw⟩ := hrel
    have HA := Lib.hid ha
    have HBW := Lib.hid hbw
    clear ha hbw
    by_cases hlt : k < l.length
    · obtain ⟨b, o, rfl, hb, x0, x1, x2⟩ := rdM_at (HL.out.below HBW.out (Nat.le_refl _)) k hlt
      have HS := Lib.hid (all_step Tm.ok l k hlt)
      have HT := Lib.hid (refterm_any l[k] wr (HZ.out _ (List.getElem_mem hlt)))
      cases hq : l[k].ok with
      | true =>
        rw [hq] at HT HS
        go_wp2_with (go_at_call 128; refine (HT.out).mono ?_; rintro e w1 ⟨rfl, hb1⟩)
        have HB1 := Lib.hid (HBW.out.trans (hb1.mono HBW.out.size))
        go_roundw
        case rel => exact ⟨k + 1, by omega, by go_num, by rw [HA.out, HS.out]; rfl, HB1.out⟩
        case measure => simp [intOf]; omega
      | false =>
        rw [hq] at HT HS
        go_wp2_with (go_at_call 128; refine (HT.out).mono ?_; rintro e w1 ⟨rfl, hb1⟩)
        go_ret
        exact ⟨by rw [HA.out, HS.out]; rfl, HBW.out.trans (hb1.mono HBW.out.size)⟩
    · have HS := Lib.hid (all_end Tm.ok l k (by omega))
      go_wp2_with fail
      go_ret
      exact ⟨by rw [HA.out, HS.out]; rfl, HBW.out⟩
end Go.Proofs.YtfmkfabbiifolaaGreatDoor

/-
  Plain: texts put one behind the other. Contract: the reference's TermText.
-/
namespace Go.Proofs.YtfmkfabbiifolaaGreatDoor
open Go.RowKit

/-- one text more: behind the first sign, or behind a comma and a blank -/
def addX (f o : ByteArray) (j : Nat) (x : ByteArray) : ByteArray := (o ++ (if j = 0 then f else ⟨#[44, 32]⟩)) ++ x
def foldX (f : ByteArray) : ByteArray → Nat → List ByteArray → ByteArray
  | o, _, [] => o
  | o, j, x :: r => foldX f (addX f o j x) (j + 1) r
theorem ba_ext {a b : ByteArray} (h : a.data.toList = b.data.toList) : a = b := by
  obtain ⟨⟨a⟩⟩ := a
  obtain ⟨⟨b⟩⟩ := b
  simp only at h
  rw [h]
theorem dl_append (a b : ByteArray) : (a ++ b).data.toList = a.data.toList ++ b.data.toList := by rw [ByteArray.data_append]; simp
theorem ba_assoc (a b c : ByteArray) : (a ++ b) ++ c = a ++ (b ++ c) := ba_ext (by simp only [dl_append, List.append_assoc])
theorem ba_nil (a : ByteArray) : (⟨#[]⟩ : ByteArray) ++ a = a := ba_ext (by rw [dl_append]; rfl)
theorem foldX_tail (f : ByteArray) : ∀ (r : List ByteArray) (o : ByteArray) (j : Nat), 0 < j → (foldX f o j r).data.toList = o.data.toList ++ Lib.joinTail [44, 32] (r.map (·.data.toList))
  | [], o, j, _ => by simp [foldX, Lib.joinTail]
  | x :: r, o, j, hj => by
    rw [foldX, foldX_tail f r _ (j + 1) (Nat.succ_pos _), addX, if_neg (by omega)]
    simp only [dl_append, Lib.joinTail, List.map_cons, List.flatten_cons, List.append_assoc]
theorem foldX_join (f o x : ByteArray) (r : List ByteArray) : foldX f o 0 (x :: r) = o ++ (f ++ joinB (x :: r)) := by
  refine ba_ext ?_
  rw [foldX, foldX_tail f r _ 1 Nat.one_pos, addX, if_pos rfl]
  simp only [dl_append, joinB, List.map_cons, Lib.join_cons, List.append_assoc]
theorem foldX_step (f : ByteArray) (o : ByteArray) (l : List ByteArray) (j : Nat) (h : j < l.length) : foldX f o j (l.drop j) = foldX f (addX f o j l[j]) (j + 1) (l.drop (j + 1)) := by
  rw [List.drop_eq_getElem_cons h]; rfl
theorem foldX_end (f : ByteArray) (o : ByteArray) (l : List ByteArray) (j : Nat) (h : l.length ≤ j) : foldX f o j (l.drop j) = o := by
  rw [List.drop_eq_nil_of_le h]; rfl
theorem argsT_fold (a : ByteArray) (l : List Tm) : argsT a l = if l.length = 0 then foldX ⟨#[40]⟩ a 0 (l.map Tm.txt) else foldX ⟨#[40]⟩ a 0 (l.map Tm.txt) ++ ⟨#[41]⟩ := by
  unfold argsT
  cases l with
  | nil => rfl
  | cons t r =>
    rw [List.map_cons, foldX_join]
    simp only [List.isEmpty_cons, Bool.false_eq_true, if_false, List.length_cons, Nat.add_eq_zero_iff, Nat.succ_ne_self, and_false]
    exact ba_ext (by simp only [dl_append, List.append_assoc])
theorem txt_fold (c : Kp) (hk : c.head.litT = c.head.saidT) : c.txt = foldX wdIfB c.head.litT 0 (c.body.map Lp.litT) ++ ⟨#[46]⟩ := by
  unfold Kp.txt
  rw [hk]
  cases h : c.body with
  | nil => rfl
  | cons t r =>
    rw [List.map_cons, foldX_join]
    rfl

set_option maxHeartbeats 2000000 in
theorem reftermText_any (t : Tm) (w : World) (hz : t.Sz) (hn : t.Nb) :
    Calls Tryz.prog 102 #[.agg #[.string t.v, .string t.s, .int .i64 t.n]] w fun e w' => e = .returned (.string t.txt) ∧ Below w.heap.size w w' := by
  obtain ⟨v, s, n⟩ := t
  have hs := hz.s
  have h0 := hn.1
  have h1 := hn.2
  simp only at hs h0 h1 ⊢
  have HB := Lib.hid (below1 w)
  have HT := Lib.hid (show (⟨v, s, n⟩ : Tm).txt = if v.toList.isEmpty then textS s n else v from rfl)
  have HX := Lib.hid (show ∀ X, _ from fun X => reftext_any s n X (Nat.le_trans hs (by decide)) h0 h1)
  generalize (⟨v, s, n⟩ : Tm).txt = T at *
  generalize textS s n = TS at *
  clear hz hs hn h0 h1
  cases h0 : v.toList.isEmpty with
  | true =>
    have hp : ¬ (0 : Int) < (v.size : Int) := by rw [size_posI, h0]; decide
    rw [h0] at HT
    clear h0
    go_enter Tryz.func102, Tryz.ntmps102
    go_wp2_with (go_at_call 127; refine (HX.out _).mono ?_; rintro e w1 ⟨rfl, hb1⟩)
    go_ret
    exact ⟨by rw [HT.out]; rfl, (HB.out _).trans (hb1.mono (HB.out _).size)⟩
  | false =>
    have hp : (0 : Int) < (v.size : Int) := by rw [size_posI, h0]
    rw [h0] at HT
    clear h0
    go_enter Tryz.func102, Tryz.ntmps102
    go_wp2_with fail
    go_ret
    exact ⟨by rw [HT.out]; rfl, HB.out _⟩
end Go.Proofs.YtfmkfabbiifolaaGreatDoor

/-
  Plain: blanks ahead of a text and behind it: the tokens are the same, their places move.
-/
namespace Go.Proofs.YtfmkfabbiifolaaGreatDoor
open Go.RowKit

theorem runL_tab (y : List UInt8) : ∀ r : List UInt8, runL (r ++ 9 :: y) = runL r
  | [] => by rw [List.nil_append, runL]; rfl
  | c :: r => by rw [List.cons_append, runL, runL, runL_tab y r]
theorem head_tab (r y : List UInt8) : (r = [] ∧ (r ++ 9 :: y).headD 0 = 9 ∧ r.headD 0 = 0) ∨ ((r ++ 9 :: y).headD 0 = r.headD 0) := by
  cases r with
  | nil => exact .inl ⟨rfl, rfl, rfl⟩
  | cons c r => exact .inr rfl
theorem one_tab (x y : List UInt8) (hx : x ≠ []) : oneL (x ++ 9 :: y) = oneL x := by
  cases x with
  | nil => exact absurd rfl hx
  | cons c r =>
    have hp : pieceL (c :: (r ++ 9 :: y)) (1 + runL r) = pieceL (c :: r) (1 + runL r) := by
      unfold pieceL
      have : (c :: (r ++ 9 :: y)).take (1 + runL r) = (c :: r).take (1 + runL r) := by
        rw [← List.cons_append, List.take_append_of_le_length (by have := runL_le r; simp; omega)]
      rw [this]
    rw [List.cons_append, oneL, oneL, runL_tab, hp]
    rcases head_tab r y with ⟨_, h1, h2⟩ | h
    · rw [h1, h2]; rfl
    · rw [h]
theorem allF_tab (y : List UInt8) : ∀ (m : Nat) (x : List UInt8) (k F : Nat), x.length ≤ m → x.length + 1 + y.length ≤ F →
    allF F k (x ++ 9 :: y) = if (allF x.length k x).err = 0 then Toks.put (allF x.length k x).toks (allF y.length (k + x.length + 1) y) else allF x.length k x := by
  intro m
  induction m with
  | zero =>
    intro x k F hx hF
    obtain rfl : x = [] := List.length_eq_zero_iff.1 (by omega)
    obtain ⟨F, rfl⟩ : ∃ F', F = F' + 1 := ⟨F - 1, by simp at hF; omega⟩
    rw [List.nil_append, allF, if_pos (show (oneL (9 :: y)).err = 4 from by rw [oneL_blank _ _ rfl])]
    show _ = if (0 : Int) = 0 then Toks.put [] (allF y.length (k + 0 + 1) y) else _
    rw [if_pos rfl, put_nil _ (allF_form _ _ _).1 (allF_form _ _ _).2]
    exact allF_fuel _ _ _ _ (by simp at hF; omega) (Nat.le_refl _)
  | succ m ih =>
    intro x k F hx hF
    cases x with
    | nil => exact ih [] k F (Nat.zero_le _) hF
    | cons c r =>
      obtain ⟨F, rfl⟩ : ∃ F', F = F' + 1 := ⟨F - 1, by simp at hF; omega⟩
      have ho := one_tab (c :: r) y (by simp)
      simp only [List.length_cons] at hx hF
      by_cases h4 : (oneL (c :: r)).err = 4
      · have e1 : allF (F + 1) k (c :: r ++ 9 :: y) = allF F (k + 1) (r ++ 9 :: y) := by
          rw [List.cons_append] at ho ⊢; rw [allF, ho, if_pos h4]
        have e2 : allF (c :: r).length k (c :: r) = allF r.length (k + 1) r := by
          show allF (r.length + 1) k (c :: r) = _
          rw [allF, if_pos h4]
        rw [e1, e2, ih r (k + 1) F (by omega) (by omega)]
        simp only [List.length_cons, show k + 1 + r.length + 1 = k + (r.length + 1) + 1 by omega]
      · by_cases h0 : (oneL (c :: r)).err = 0
        · obtain ⟨hn, hnl⟩ := (oneL_bd (c :: r) (by simp)).1 h0
          have e1 : allF (F + 1) k (c :: r ++ 9 :: y) = Toks.put [⟨(oneL (c :: r)).kind, k, (k + (oneL (c :: r)).len : Nat)⟩] (allF F (k + (oneL (c :: r)).len) ((c :: r).drop (oneL (c :: r)).len ++ 9 :: y)) := by
            rw [List.cons_append] at ho ⊢
            rw [allF, ho, if_neg h4, if_pos h0, ← List.cons_append, List.drop_append_of_le_length hnl]
          have e2 : allF (c :: r).length k (c :: r) = Toks.put [⟨(oneL (c :: r)).kind, k, (k + (oneL (c :: r)).len : Nat)⟩] (allF ((c :: r).drop (oneL (c :: r)).len).length (k + (oneL (c :: r)).len) ((c :: r).drop (oneL (c :: r)).len)) := by
            show allF (r.length + 1) k (c :: r) = _
            rw [allF, if_neg h4, if_pos h0, allF_fuel r.length ((c :: r).drop (oneL (c :: r)).len).length _ _ (by simp; omega) (Nat.le_refl _)]
          have hk : k + (oneL (c :: r)).len + ((c :: r).drop (oneL (c :: r)).len).length + 1 = k + (c :: r).length + 1 := by simp at hnl ⊢; omega
          rw [e1, e2, ih ((c :: r).drop (oneL (c :: r)).len) (k + (oneL (c :: r)).len) F (by simp; omega) (by simp at hnl ⊢; omega), hk]
          generalize hA : allF ((c :: r).drop (oneL (c :: r)).len).length (k + (oneL (c :: r)).len) ((c :: r).drop (oneL (c :: r)).len) = A
          have hf := allF_form ((c :: r).drop (oneL (c :: r)).len).length (k + (oneL (c :: r)).len) ((c :: r).drop (oneL (c :: r)).len)
          rw [hA] at hf
          by_cases hz : A.err = 0
          · rw [if_pos hz, put_ok _ A hz, if_pos rfl, put_app]
          · rw [if_neg hz, put_err _ A hz (hf.2 hz), if_neg hz]
        · have e1 : allF (F + 1) k (c :: r ++ 9 :: y) = ⟨[], k, (oneL (c :: r)).err⟩ := by
            rw [List.cons_append] at ho ⊢; rw [allF, ho, if_neg h4, if_neg h0]
          have e2 : allF (c :: r).length k (c :: r) = ⟨[], k, (oneL (c :: r)).err⟩ := by
            show allF (r.length + 1) k (c :: r) = _
            rw [allF, if_neg h4, if_neg h0]
          rw [e1, e2, if_neg h0]
theorem all_behind (l : List UInt8) (h : l.length ≤ 2000) : allL (l ++ [9, 32]) = allL l := by
  rw [allL_short _ (by simp; omega), allL_short l (by omega)]
  have e := allF_tab [32] l.length l 0 (l ++ [9, 32]).length (Nat.le_refl _) (by simp)
  rw [e]
  have h1 : allF ([32] : List UInt8).length (0 + l.length + 1) [(32 : UInt8)] = ⟨[], 0, 0⟩ := by
    show allF 1 _ [32] = _
    rw [allF, if_pos (show (oneL [(32 : UInt8)]).err = 4 by rw [oneL_blank _ _ rfl])]
    rfl
  rw [h1]
  have hf := allF_form l.length 0 l
  by_cases hz : (allF l.length 0 l).err = 0
  · rw [if_pos hz, put_ok _ _ rfl]
    have h2 := hf.1 hz
    generalize allF l.length 0 l = A at *
    obtain ⟨t, p, e⟩ := A
    simp only at hz h2
    subst hz h2
    simp
  · rw [if_neg hz]
theorem all_ahead (l : List UInt8) : ∀ m : Nat, m + l.length ≤ 4096 → allL (List.replicate m 32 ++ l) = shX m (allL l)
  | 0, h => by
    have hf := allF_form l.length 0 l
    rw [allL_short l (by omega)] at *
    show allL l = _
    rw [allL_short l (by omega)]
    generalize allF l.length 0 l = A at *
    obtain ⟨t, p, e⟩ := A
    unfold shX shT
    simp only at hf ⊢
    by_cases he : e = 0
    · have := hf.1 he
      subst he this
      simp
    · rw [if_neg he]
      simp
  | m + 1, h => by
    have ih := all_ahead l m (by omega)
    rw [allL_short _ (by simp; omega)] at ih
    rw [List.replicate_succ, List.cons_append, allL_short _ (by simp; omega)]
    show allF ((List.replicate m 32 ++ l).length + 1) 0 _ = _
    rw [allF, if_pos (show (oneL ((32 : UInt8) :: (List.replicate m 32 ++ l))).err = 4 by rw [oneL_blank _ _ rfl])]
    have hs := allF_shift 1 (List.replicate m 32 ++ l).length 0 (List.replicate m 32 ++ l)
    rw [hs, ih]
    generalize allL l = A
    obtain ⟨t, p, e⟩ := A
    unfold shX shT
    simp only [List.map_map]
    congr 1
    · apply List.map_congr_left
      intro x _
      simp
      omega
    · split
      · rfl
      · push_cast; omega
/-- two lists of tokens that read alike; places go by g -/
structure Like (s s' : ByteArray) (ts ts' : List Tok) (g : Int → Int) : Prop where
  t : ∀ k, textAt s' ts' k = textAt s ts k
  k : ∀ k, kindAt ts' k = kindAt ts k
  p : ∀ k, placeAt s' ts' k = g (placeAt s ts k)
  n : ts'.length = ts.length
def mapE {α : Type} (g : Int → Int) : Except (Int × Int) α → Except (Int × Int) α
  | .ok x => .ok x
  | .error e => .error (e.1, g e.2)
section
variable {s s' : ByteArray} {ts ts' : List Tok} {g : Int → Int}
theorem isT_like (h : Like s s' ts ts' g) (k : Nat) : isT ts' k = isT ts k := by unfold isT; rw [h.k]
theorem termR_like (h : Like s s' ts ts' g) (k : Nat) : termR s' ts' k = termR s ts k := by unfold termR; rw [h.k, h.t]
theorem moreT_like (h : Like s s' ts ts' g) : ∀ (n : Nat) (acc : List Tm) (k : Nat), moreT s' ts' n acc k = mapE g (moreT s ts n acc k)
  | 0, acc, k => by
    rw [moreT, moreT, h.t, h.p]
    split <;> rfl
  | n + 1, acc, k => by
    rw [moreT, moreT, h.t, h.p, isT_like h, termR_like h, moreT_like h n]
    split
    · split <;> rfl
    · rfl
theorem listT_like (h : Like s s' ts ts' g) (n k : Nat) : listT s' ts' n k = mapE g (listT s ts n k) := by
  unfold listT
  rw [isT_like h, termR_like h, h.p, moreT_like h]
  split <;> rfl
theorem atomR_like (h : Like s s' ts ts' g) (k : Nat) : atomR s' ts' k = mapE g (atomR s ts k) := by
  unfold atomR
  rw [h.k, h.t, h.t, h.p, listT_like h]
  split
  · split
    · cases listT s ts 3 (k + 2) with
      | error e => rfl
      | ok x =>
        obtain ⟨l, k'⟩ := x
        simp only [mapE]
        rw [h.t, h.p]
        split <;> rfl
    · rfl
  · rfl
theorem saidR_like (h : Like s s' ts ts' g) (kd : Int) (k : Nat) : saidR s' ts' kd k = mapE g (saidR s ts kd k) := by
  unfold saidR
  simp only [h.k, h.t, h.p, termR_like h, atomR_like h]
  split
  · split
    · cases atomR s ts (k + 2) <;> rfl
    · rfl
  · cases atomR s ts k <;> rfl
theorem compR_like (h : Like s s' ts ts' g) (k : Nat) : compR s' ts' k = mapE g (compR s ts k) := by
  unfold compR
  simp only [h.t, h.p, termR_like h, isT_like h]
  split
  · split
    · split <;> rfl
    · split
      · split <;> rfl
      · rfl
  · rfl
theorem litR_like (h : Like s s' ts ts' g) (k : Nat) : litR s' ts' k = mapE g (litR s ts k) := by
  unfold litR
  simp only [h.t, h.k, saidR_like h, compR_like h]
  split
  · rfl
  · split <;> rfl
theorem moreL_like (h : Like s s' ts ts' g) : ∀ (n : Nat) (acc : List Lq) (k : Nat), moreL s' ts' n acc k = mapE g (moreL s ts n acc k)
  | 0, acc, k => by
    rw [moreL, moreL, h.t, h.p]
    split <;> rfl
  | n + 1, acc, k => by
    rw [moreL, moreL, h.t, litR_like h]
    split
    · cases litR s ts (k + 1) with
      | error e => rfl
      | ok x => exact moreL_like h n _ _
    · rfl
theorem listL_like (h : Like s s' ts ts' g) (n k : Nat) : listL s' ts' n k = mapE g (listL s ts n k) := by
  unfold listL
  rw [litR_like h]
  cases litR s ts k with
  | error e => rfl
  | ok x => exact moreL_like h n _ _
theorem clauseR_like (h : Like s s' ts ts' g) (k : Nat) : clauseR s' ts' k = mapE g (clauseR s ts k) := by
  unfold clauseR
  rw [atomR_like h]
  cases atomR s ts k with
  | error e => rfl
  | ok a =>
    obtain ⟨a, k1⟩ := a
    simp only [mapE]
    rw [h.t, listL_like h, h.p]
    split
    · cases listL s ts 5 (k1 + 1) with
      | error e => rfl
      | ok b =>
        obtain ⟨b, k2⟩ := b
        simp only [mapE]
        rw [h.t, h.p]
        split <;> rfl
    · split <;> rfl
theorem wholeR_like {α : Type} (h : Like s s' ts ts' g) (R : Except (Int × Int) (α × Nat)) : wholeR s' ts' (mapE g R) = mapE g (wholeR s ts R) := by
  cases R with
  | error e => rfl
  | ok x =>
    obtain ⟨x, k⟩ := x
    simp only [mapE, wholeR]
    rw [h.n, h.p]
    split <;> rfl
end
theorem parse_like {s s' : ByteArray} {g : Int → Int} (he : (allL s'.data.toList).err = (allL s.data.toList).err) (h : (allL s.data.toList).err = 0 → Like s s' (allL s.data.toList).toks (allL s'.data.toList).toks g)
    (hp : (allL s.data.toList).err ≠ 0 → (allL s'.data.toList).pl = g (allL s.data.toList).pl) : parseR s' = mapE g (parseR s) := by
  unfold parseR
  rw [he]
  by_cases h0 : (allL s.data.toList).err = 0
  · rw [if_pos h0, if_pos h0, clauseR_like (h h0), wholeR_like (h h0)]
  · rw [if_neg h0, if_neg h0, hp h0]
    rfl
end Go.Proofs.YtfmkfabbiifolaaGreatDoor

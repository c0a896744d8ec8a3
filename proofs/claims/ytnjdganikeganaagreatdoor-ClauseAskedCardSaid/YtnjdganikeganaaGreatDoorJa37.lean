/-
  Joined of: VrC, RefT, RckA, RprA, RprB.
-/
import Derived.Test.YtnjdganikeganaaGreatDoorJa36
import Derived.Test.YtnjdganikeganaaGreatDoorJa14
import Derived.Test.YtnjdganikeganaaGreatDoorJa01
import Derived.Test.YtnjdganikeganaaGreatDoorJa04
import Derived.Test.YtnjdganikeganaaGreatDoorJa02
import Derived.Test.YtnjdganikeganaaGreatDoorJa10
import Derived.Test.YtnjdganikeganaaGreatDoorJa18
import Derived.Test.YtnjdganikeganaaGreatDoorJa20
import Derived.Test.YtnjdganikeganaaGreatDoorJa19
set_option linter.unusedVariables false
set_option linter.unusedSimpArgs false
/-
  Contract: the reference's Var.
-/
namespace Go.Proofs.YtnjdganikeganaaGreatDoor
open Go.RowKit

theorem rvar_no (s : ByteArray) (h : ¬ (1 ≤ s.size ∧ s.size ≤ 16 ∧ upB (hdB s) = true)) : rvarB s = false := by
  unfold rvarB
  by_cases h1 : 1 ≤ s.size
  · by_cases h2 : s.size ≤ 16
    · cases h3 : upB (hdB s) with
      | true => exact absurd ⟨h1, h2, h3⟩ h
      | false => simp
    · simp [h2]
  · simp [h1]
theorem rvar_yes (s : ByteArray) (h1 : 1 ≤ s.size) (h2 : s.size ≤ 16) (h3 : upB (hdB s) = true) : rvarB s = s.data.toList.all fun c => winB (c.toNat : Int) := by
  unfold rvarB
  simp [h1, h2, h3]

set_option maxHeartbeats 2000000 in
theorem refvar_any (s : ByteArray) (w : World) (hs : s.size ≤ 140737488351232) :
    Calls Tryz.prog 115 #[.string s] w fun e w' => e = .returned (.bool (varB s)) ∧ w = w' := by
  rw [var_eq]
  by_cases h0 : s.size = 0
  · have HR := Lib.hid (rvar_no s (by omega))
    have h1 : (s.size : Int) < 1 := by omega
    clear h0
    go_enter Tryz.func115, Tryz.ntmps115
    go_wp2_with fail
    go_ret
    exact ⟨by rw [HR.out]; rfl, rfl⟩
  have hp : 0 < s.size := by omega
  have hp1 : ¬ (s.size : Int) < 1 := by omega
  by_cases h16 : 16 < s.size
  · have HR := Lib.hid (rvar_no s (by omega))
    have h1 : (16 : Int) < (s.size : Int) := by omega
    clear h0
    go_enter Tryz.func115, Tryz.ntmps115
    go_wp2_with fail
    go_ret
    exact ⟨by rw [HR.out]; rfl, rfl⟩
  have hp2 : ¬ (16 : Int) < (s.size : Int) := by omega
  have HE := Lib.hid (hd_eq s hp)
  by_cases ha : (s[0].toNat : Int) < 65
  · have HR := Lib.hid (rvar_no s fun h => by have := (upB_iff _).1 h.2.2; rw [← HE.out] at this; omega)
    clear h0
    go_enter Tryz.func115, Tryz.ntmps115
    go_wp2_with fail
    go_ret
    exact ⟨by rw [HR.out]; rfl, rfl⟩
  by_cases hb : (90 : Int) < (s[0].toNat : Int)
  · have HR := Lib.hid (rvar_no s fun h => by have := (upB_iff _).1 h.2.2; rw [← HE.out] at this; omega)
    clear h0
    go_enter Tryz.func115, Tryz.ntmps115
    go_wp2_with fail
    go_ret
    exact ⟨by rw [HR.out]; rfl, rfl⟩
  have HR := Lib.hid (rvar_yes s hp (by omega) ((upB_iff _).2 (by rw [← HE.out]; omega)))
  clear h0 HE
  go_enter Tryz.func115, Tryz.ntmps115
  go_wp2_with fail
  go_loop [3] (fun i => ∃ k : Nat, k ≤ s.size ∧ i = .int .i64 k ∧ Hid ((s.data.toList.all fun c => winB (c.toNat : Int)) = (s.data.toList.drop k).all fun c => winB (c.toNat : Int))) (fun i => s.size - (intOf i).toNat)
  case atStart => exact ⟨0, Nat.zero_le _, rfl, Lib.hid rfl⟩
  case round =>
    obtain ⟨k, hk, rfl, HA⟩ := hrel
    by_cases hlt : k < s.size
    · have HS := Lib.hid (all_step (fun c : UInt8 => winB (c.toNat : Int)) s.data.toList k hlt)
      have HI := Lib.hid (refin_any (s[k].toNat : Int) w)
      have HSE := Lib.hid (show winB ((s.data.toList[k]'hlt).toNat : Int) = winB (s[k].toNat : Int) from rfl)
      have hk0 : (0 : Int) ≤ (k : Int) := by omega
      have hk1 : (k : Int) < (s.size : Int) := by omega
      cases hq : winB (s[k].toNat : Int) with
      | true =>
        rw [hq] at HI HSE
        go_wp2_with (go_at_call 106; refine (HI.out).mono ?_; rintro e w' ⟨rfl, rfl⟩)
        go_round
        case rel => exact ⟨k + 1, by omega, by go_num, Lib.hid (by rw [HA.out, HS.out, HSE.out]; rfl)⟩
        case measure => simp [intOf]; omega
      | false =>
        rw [hq] at HI HSE
        go_wp2_with (go_at_call 106; refine (HI.out).mono ?_; rintro e w' ⟨rfl, rfl⟩)
        go_ret
        exact ⟨by rw [HR.out, HA.out, HS.out, HSE.out]; rfl, rfl⟩
    · have HS := Lib.hid (all_end (fun c : UInt8 => winB (c.toNat : Int)) s.data.toList k (show s.size ≤ k by omega))
      go_wp2_with fail
      go_ret
      exact ⟨by rw [HR.out, HA.out, HS.out]; rfl, rfl⟩
end Go.Proofs.YtnjdganikeganaaGreatDoor

/-
  Contracts: the reference's Good and Text of a value.
-/
namespace Go.Proofs.YtnjdganikeganaaGreatDoor
open Go.RowKit

set_option maxHeartbeats 400000 in
theorem refgood_any (s : ByteArray) (n : Int) (w : World) (hs : s.size ≤ maxLen) :
    Calls Tryz.prog 114 #[.agg #[.string s, .int .i64 n]] w fun e w' => e = .returned (.bool (goodB s n)) ∧ Below w.heap.size w w' := by
  by_cases h0 : s.toList.isEmpty = true
  · have h1 : ((s.size : Int) == 0) = true := by rw [sz_eq, h0]
    go_enter Tryz.func114, Tryz.ntmps114
    go_wp2_with fail
    go_ret
    exact ⟨by simp [goodB, h0], (Below.refl _ _).alloc (Nat.le_refl _) _⟩
  · have h0 : s.toList.isEmpty = false := by simpa using h0
    have h1 : ((s.size : Int) == 0) = false := by rw [sz_eq, h0]
    by_cases hn : nameB s = true
    · go_enter Tryz.func114, Tryz.ntmps114
      go_wp2_with (go_at_call 98; refine (refname_any _ _ hs).mono ?_; rintro e w' ⟨rfl, rfl⟩)
      go_ret
      exact ⟨by simp [goodB, h0, hn], (Below.refl _ _).alloc (Nat.le_refl _) _⟩
    · have hn : nameB s = false := by simpa using hn
      go_enter Tryz.func114, Tryz.ntmps114
      go_wp2_with (go_at_call 98; refine (refname_any _ _ hs).mono ?_; rintro e w' ⟨rfl, rfl⟩)
      go_ret
      exact ⟨by simp [goodB, h0, hn], (Below.refl _ _).alloc (Nat.le_refl _) _⟩
set_option maxHeartbeats 400000 in
theorem reftext_any (s : ByteArray) (n : Int) (w : World) (hs : s.size ≤ maxLen) (h0 : -9223372036854775808 ≤ n) (h1 : n ≤ 9223372036854775807) :
    Calls Tryz.prog 96 #[.agg #[.string s, .int .i64 n]] w fun e w' => e = .returned (.tuple #[.string (textS s n), .bool (goodB s n)]) ∧ Below w.heap.size w w' := by
  by_cases hg : goodB s n = true
  · by_cases h2 : s.toList.isEmpty = true
    · have H := Lib.hid (show textS s n = itoaS n by simp [textS, hg, h2])
      have q1 : ((s.size : Int) == 0) = true := by rw [sz_eq, h2]
      have q : ¬ 0 < s.size := by have := beq_iff_eq.1 q1; omega
      go_enter Tryz.func96, Tryz.ntmps96
      go_wp2_with fail
      refine (refgood_any _ _ _ hs).mono ?_
      rintro e w1 ⟨rfl, hb⟩
      obtain ⟨hc, hf⟩ := bcell hb
      go_wp2_with fail
      refine (number_any n _ h0 h1).mono ?_
      rintro e w2 ⟨rfl, hb2⟩
      go_wp2_with fail
      go_ret2
      exact ⟨by rw [H.out, hg]; rfl, (app1 hb).trans (hb2.mono (app1 hb).size)⟩
    · have h2 : s.toList.isEmpty = false := by simpa using h2
      have H := Lib.hid (show textS s n = s by simp [textS, hg, h2])
      have q : 0 < s.size := pos_of_ne s h2
      go_enter Tryz.func96, Tryz.ntmps96
      go_wp2_with fail
      refine (refgood_any _ _ _ hs).mono ?_
      rintro e w1 ⟨rfl, hb⟩
      obtain ⟨hc, hf⟩ := bcell hb
      go_wp2_with fail
      go_ret2
      exact ⟨by rw [H.out, hg]; rfl, app1 hb⟩
  · have hg : goodB s n = false := by simpa using hg
    have H := Lib.hid (show textS s n = ⟨#[]⟩ by simp [textS, hg])
    go_enter Tryz.func96, Tryz.ntmps96
    go_wp2_with fail
    refine (refgood_any _ _ _ hs).mono ?_
    rintro e w1 ⟨rfl, hb⟩
    obtain ⟨hc, hf⟩ := bcell hb
    go_wp2_with fail
    go_ret2
    exact ⟨by rw [H.out, hg]; rfl, app1 hb⟩
end Go.Proofs.YtnjdganikeganaaGreatDoor

/-
  Contracts: the reference's Term, own, terms.
-/
namespace Go.Proofs.YtnjdganikeganaaGreatDoor
open Go.RowKit

theorem size_posI {v : ByteArray} : (0 : Int) < (v.size : Int) ↔ v.toList.isEmpty = false := by
  rw [ByteArray.toList_eq]
  have : v.size = v.data.toList.length := rfl
  rw [this]
  cases v.data.toList <;> simp

set_option maxHeartbeats 2000000 in
theorem refterm_any (t : Tm) (w : World) (hz : t.Sz) :
    Calls Tryz.prog 97 #[.agg #[.string t.v, .string t.s, .int .i64 t.n]] w fun e w' => e = .returned (.bool t.ok) ∧ Below w.heap.size w w' := by
  obtain ⟨v, s, n⟩ := t
  have hv := hz.v
  have hs := hz.s
  simp only at hv hs ⊢
  have HB := Lib.hid (below1 w)
  have HT := Lib.hid (show (⟨v, s, n⟩ : Tm).ok = if v.toList.isEmpty then goodB s n else (s.toList.isEmpty && n == 0) && varB v from rfl)
  have HG := Lib.hid (show ∀ X, Calls Tryz.prog 114 #[.agg #[.string s, .int .i64 n]] X fun e w' => e = .returned (.bool (goodB s n)) ∧ Below X.heap.size X w' from fun X => refgood_any s n X (Nat.le_trans hs (by decide)))
  have HV := Lib.hid (show ∀ X, Calls Tryz.prog 115 #[.string v] X fun e w' => e = .returned (.bool (varB v)) ∧ X = w' from fun X => refvar_any v X hv)
  have q1 : ((s.size : Int) == 0) = s.toList.isEmpty := sz_eq s
  generalize (⟨v, s, n⟩ : Tm).ok = ok at *
  generalize goodB s n = gd at *
  generalize varB v = vb at *
  clear hz hv hs
  cases h0 : v.toList.isEmpty with
  | true =>
    have hp : ¬ (0 : Int) < (v.size : Int) := by rw [size_posI, h0]; decide
    rw [h0] at HT
    clear h0
    go_enter Tryz.func97, Tryz.ntmps97
    go_wp2_with (go_at_call 114; refine (HG.out _).mono ?_; rintro e w1 ⟨rfl, hb1⟩)
    go_ret
    exact ⟨by rw [HT.out]; rfl, (HB.out _).trans (hb1.mono (HB.out _).size)⟩
  | false =>
    have hp : (0 : Int) < (v.size : Int) := by rw [size_posI, h0]
    rw [h0] at HT
    clear h0
    cases h1 : s.toList.isEmpty
    all_goals rw [h1] at HT q1
    all_goals clear h1
    all_goals cases h2 : (n == 0)
    all_goals rw [h2] at HT
    all_goals cases vb
    all_goals
      go_enter Tryz.func97, Tryz.ntmps97
      go_wp2_with (go_at_call 115; refine (HV.out _).mono ?_; rintro e w1 ⟨rfl, rfl⟩)
      go_ret
      exact ⟨by rw [HT.out]; rfl, HB.out _⟩

set_option maxHeartbeats 2000000 in
theorem refown_any (t : Tm) (w : World) :
    Calls Tryz.prog 54 #[.agg #[.string t.v, .string t.s, .int .i64 t.n]] w fun e w' => e = .returned (.bool t.none) ∧ Below w.heap.size w w' := by
  obtain ⟨v, s, n⟩ := t
  simp only
  have HB := Lib.hid (below1 w)
  have HT := Lib.hid (show (⟨v, s, n⟩ : Tm).none = (v.toList.isEmpty && (s.toList.isEmpty && n == 0)) from rfl)
  have q0 : ((v.size : Int) == 0) = v.toList.isEmpty := sz_eq v
  have q1 : ((s.size : Int) == 0) = s.toList.isEmpty := sz_eq s
  generalize (⟨v, s, n⟩ : Tm).none = no at *
  cases h0 : v.toList.isEmpty
  all_goals rw [h0] at HT q0
  all_goals clear h0
  all_goals cases h1 : s.toList.isEmpty
  all_goals rw [h1] at HT q1
  all_goals clear h1
  all_goals cases h2 : (n == 0)
  all_goals rw [h2] at HT
  all_goals
    go_enter Tryz.func54, Tryz.ntmps54
    go_wp2_with fail
    go_ret
    exact ⟨by rw [HT.out]; rfl, HB.out _⟩

set_option maxHeartbeats 2000000 in
set_option maxRecDepth 100000 in
theorem refterms_any (q : Option Addr) (l : List Tm) (c : Nat) (w : World) (hl : Tms w w.heap.size q l) (hm : l.length ≤ maxLen) (hz : ∀ t ∈ l, t.Sz) :
    Calls Tryz.prog 83 #[.slice q l.length c] w fun e w' => e = .returned (.bool (l.all Tm.ok)) ∧ Below w.heap.size w w' := by
  unfold maxLen at hm
  have HL := Lib.hid hl
  have HZ := Lib.hid hz
  clear hl hz
  go_enter Tryz.func83, Tryz.ntmps83
  go_wp2_with fail
  go_loopw [3] (fun i wr => ∃ k : Nat, k ≤ l.length ∧ i = .int .i64 k ∧ l.all Tm.ok = (l.drop k).all Tm.ok ∧ Below w.heap.size w wr) (fun i _ => l.length - (intOf i).toNat)
  case atStart => exact ⟨0, Nat.zero_le _, rfl, rfl, Below.refl _ _⟩
  case round =>
    obtain ⟨k, hk, rfl, ha, hbw⟩ := hrel
    have HA := Lib.hid ha
    have HBW := Lib.hid hbw
    clear ha hbw
    by_cases hlt : k < l.length
    · obtain ⟨b, o, rfl, hb, x0, x1, x2⟩ := rdM_at (HL.out.below HBW.out (Nat.le_refl _)) k hlt
      have HS := Lib.hid (all_step Tm.ok l k hlt)
      have HT := Lib.hid (refterm_any l[k] wr (HZ.out _ (List.getElem_mem hlt)))
      cases hq : l[k].ok with
      | true =>
        rw [hq] at HT HS
        go_wp2_with (go_at_call 97; refine (HT.out).mono ?_; rintro e w1 ⟨rfl, hb1⟩)
        have HB1 := Lib.hid (HBW.out.trans (hb1.mono HBW.out.size))
        go_roundw
        case rel => exact ⟨k + 1, by omega, by go_num, by rw [HA.out, HS.out]; rfl, HB1.out⟩
        case measure => simp [intOf]; omega
      | false =>
        rw [hq] at HT HS
        go_wp2_with (go_at_call 97; refine (HT.out).mono ?_; rintro e w1 ⟨rfl, hb1⟩)
        go_ret
        exact ⟨by rw [HA.out, HS.out]; rfl, HBW.out.trans (hb1.mono HBW.out.size)⟩
    · have HS := Lib.hid (all_end Tm.ok l k (by omega))
      go_wp2_with fail
      go_ret
      exact ⟨by rw [HA.out, HS.out]; rfl, HBW.out⟩
end Go.Proofs.YtnjdganikeganaaGreatDoor

/-
  Plain: texts put one behind the other. Contract: the reference's TermText.
-/
namespace Go.Proofs.YtnjdganikeganaaGreatDoor
open Go.RowKit

/-- one text more: behind the first sign, or behind a comma and a blank -/
def addX (f o : ByteArray) (j : Nat) (x : ByteArray) : ByteArray := (o ++ (if j = 0 then f else ⟨#[44, 32]⟩)) ++ x
def foldX (f : ByteArray) : ByteArray → Nat → List ByteArray → ByteArray
  | o, _, [] => o
  | o, j, x :: r => foldX f (addX f o j x) (j + 1) r
theorem ba_ext {a b : ByteArray} (h : a.data.toList = b.data.toList) : a = b := by
  obtain ⟨⟨a⟩⟩ := a
  obtain ⟨⟨b⟩⟩ := b
  simp only at h
  rw [h]
theorem dl_append (a b : ByteArray) : (a ++ b).data.toList = a.data.toList ++ b.data.toList := by rw [ByteArray.data_append]; simp
theorem ba_assoc (a b c : ByteArray) : (a ++ b) ++ c = a ++ (b ++ c) := ba_ext (by simp only [dl_append, List.append_assoc])
theorem ba_nil (a : ByteArray) : (⟨#[]⟩ : ByteArray) ++ a = a := ba_ext (by rw [dl_append]; rfl)
theorem foldX_tail (f : ByteArray) : ∀ (r : List ByteArray) (o : ByteArray) (j : Nat), 0 < j → (foldX f o j r).data.toList = o.data.toList ++ Lib.joinTail [44, 32] (r.map (·.data.toList))
  | [], o, j, _ => by simp [foldX, Lib.joinTail]
  | x :: r, o, j, hj => by
    rw [foldX, foldX_tail f r _ (j + 1) (Nat.succ_pos _), addX, if_neg (by omega)]
    simp only [dl_append, Lib.joinTail, List.map_cons, List.flatten_cons, List.append_assoc]
theorem foldX_join (f o x : ByteArray) (r : List ByteArray) : foldX f o 0 (x :: r) = o ++ (f ++ joinB (x :: r)) := by
  refine ba_ext ?_
  rw [foldX, foldX_tail f r _ 1 Nat.one_pos, addX, if_pos rfl]
  simp only [dl_append, joinB, List.map_cons, Lib.join_cons, List.append_assoc]
theorem foldX_step (f : ByteArray) (o : ByteArray) (l : List ByteArray) (j : Nat) (h : j < l.length) : foldX f o j (l.drop j) = foldX f (addX f o j l[j]) (j + 1) (l.drop (j + 1)) := by
  rw [List.drop_eq_getElem_cons h]; rfl
theorem foldX_end (f : ByteArray) (o : ByteArray) (l : List ByteArray) (j : Nat) (h : l.length ≤ j) : foldX f o j (l.drop j) = o := by
  rw [List.drop_eq_nil_of_le h]; rfl
theorem argsT_fold (a : ByteArray) (l : List Tm) : argsT a l = if l.length = 0 then foldX ⟨#[40]⟩ a 0 (l.map Tm.txt) else foldX ⟨#[40]⟩ a 0 (l.map Tm.txt) ++ ⟨#[41]⟩ := by
  unfold argsT
  cases l with
  | nil => rfl
  | cons t r =>
    rw [List.map_cons, foldX_join]
    simp only [List.isEmpty_cons, Bool.false_eq_true, if_false, List.length_cons, Nat.add_eq_zero_iff, Nat.succ_ne_self, and_false]
    exact ba_ext (by simp only [dl_append, List.append_assoc])
theorem txt_fold (c : Kp) (hk : c.head.litT = c.head.saidT) : c.txt = foldX wdIfB c.head.litT 0 (c.body.map Lp.litT) ++ ⟨#[46]⟩ := by
  unfold Kp.txt
  rw [hk]
  cases h : c.body with
  | nil => rfl
  | cons t r =>
    rw [List.map_cons, foldX_join]
    rfl

set_option maxHeartbeats 2000000 in
theorem reftermText_any (t : Tm) (w : World) (hz : t.Sz) (hn : t.Nb) :
    Calls Tryz.prog 75 #[.agg #[.string t.v, .string t.s, .int .i64 t.n]] w fun e w' => e = .returned (.string t.txt) ∧ Below w.heap.size w w' := by
  obtain ⟨v, s, n⟩ := t
  have hs := hz.s
  have h0 := hn.1
  have h1 := hn.2
  simp only at hs h0 h1 ⊢
  have HB := Lib.hid (below1 w)
  have HT := Lib.hid (show (⟨v, s, n⟩ : Tm).txt = if v.toList.isEmpty then textS s n else v from rfl)
  have HX := Lib.hid (show ∀ X, _ from fun X => reftext_any s n X (Nat.le_trans hs (by decide)) h0 h1)
  generalize (⟨v, s, n⟩ : Tm).txt = T at *
  generalize textS s n = TS at *
  clear hz hs hn h0 h1
  cases h0 : v.toList.isEmpty with
  | true =>
    have hp : ¬ (0 : Int) < (v.size : Int) := by rw [size_posI, h0]; decide
    rw [h0] at HT
    clear h0
    go_enter Tryz.func75, Tryz.ntmps75
    go_wp2_with (go_at_call 96; refine (HX.out _).mono ?_; rintro e w1 ⟨rfl, hb1⟩)
    go_ret
    exact ⟨by rw [HT.out]; rfl, (HB.out _).trans (hb1.mono (HB.out _).size)⟩
  | false =>
    have hp : (0 : Int) < (v.size : Int) := by rw [size_posI, h0]
    rw [h0] at HT
    clear h0
    go_enter Tryz.func75, Tryz.ntmps75
    go_wp2_with fail
    go_ret
    exact ⟨by rw [HT.out]; rfl, HB.out _⟩
end Go.Proofs.YtnjdganikeganaaGreatDoor

/-
  Contract: the reference's LitText of a comparison.
-/
namespace Go.Proofs.YtnjdganikeganaaGreatDoor
open Go.RowKit

set_option maxHeartbeats 8000000 in
set_option maxRecDepth 100000 in
theorem reflit_less (l : Lp) (w : World) (a b : Tm) (hi : l.In w w.heap.size) (hs : l.Short) (h2 : l.kind = 3) (ha : l.args = [a, b]) :
    Calls Tryz.prog 46 #[l.agg] w fun e w' => e = .returned (.string ((a.txt ++ wdLessB) ++ b.txt)) ∧ Below w.heap.size w w' := by
  have HB := Lib.hid (below1 w)
  obtain ⟨kd, wh, p, q, c, xs⟩ := l
  obtain rfl : kd = 3 := h2
  obtain rfl : xs = [a, b] := ha
  obtain ⟨bb, o, rfl, hbb, x0, x1, x2⟩ := rdM_at hi.args 0 (by simp)
  obtain ⟨b2, o2, hq2, _, x3, x4, x5⟩ := rdM_at hi.args 1 (by simp)
  cases hq2
  have HT := Lib.hid (show ∀ (O : Obj) (t : Tm), t ∈ [a, b] → ∀ X, Below (w.alloc O).heap.size (w.alloc O) X → Calls Tryz.prog 75 #[.agg #[.string t.v, .string t.s, .int .i64 t.n]] X fun e w' => e = .returned (.string t.txt) ∧ Below (w.alloc O).heap.size (w.alloc O) w' from fun O t ht X hX => (reftermText_any t X (hi.sz t ht) (hs.nb.args t ht)).mono fun e w' ⟨h1, h2⟩ => ⟨h1, hX.trans (h2.mono hX.size)⟩)
  have hza := hs.args a (by simp)
  have hzb := hs.args b (by simp)
  have HK := Lib.hid (show ∀ O X, Below (w.alloc O).heap.size (w.alloc O) X → Below w.heap.size w X from fun O X h => (below1 w O).trans (h.mono (below1 w O).size))
  have HC := Lib.hid (show ∀ X, Below w.heap.size w X → X.cell? ⟨bb, o, none⟩ = some (.string a.v) ∧ X.cell? ⟨bb, o + 1, none⟩ = some (.string a.s) ∧ X.cell? ⟨bb, o + 2, none⟩ = some (.int .i64 a.n) ∧ X.cell? ⟨bb, o + 3, none⟩ = some (.string b.v) ∧ X.cell? ⟨bb, o + 3 + 1, none⟩ = some (.string b.s) ∧ X.cell? ⟨bb, o + 3 + 2, none⟩ = some (.int .i64 b.n) from
    fun X hX => by
      simp only [Nat.zero_mul, Nat.add_zero, Nat.one_mul, List.getElem_cons_zero, List.getElem_cons_succ] at x0 x1 x2 x3 x4 x5
      exact ⟨(hX.cell (p := ⟨bb, o, none⟩) hbb).trans x0, (hX.cell (p := ⟨bb, o + 1, none⟩) hbb).trans x1, (hX.cell (p := ⟨bb, o + 2, none⟩) hbb).trans x2, (hX.cell (p := ⟨bb, o + 3, none⟩) hbb).trans x3, (hX.cell (p := ⟨bb, o + 3 + 1, none⟩) hbb).trans x4, (hX.cell (p := ⟨bb, o + 3 + 2, none⟩) hbb).trans x5⟩)
  obtain ⟨va, sa, na⟩ := a
  obtain ⟨vb, sb, nb⟩ := b
  have HTU := Lib.hid (show ∀ v s n, (⟨v, s, n⟩ : Tm) ∈ [(⟨va, sa, na⟩ : Tm), ⟨vb, sb, nb⟩] → ∀ X, Below (w.alloc (.cells #[.int .u8 3, .string wh.v, .string wh.s, .int .i64 wh.n, .string p, .slice (some ⟨bb, o, none⟩) 2 c] 28)).heap.size (w.alloc (.cells #[.int .u8 3, .string wh.v, .string wh.s, .int .i64 wh.n, .string p, .slice (some ⟨bb, o, none⟩) 2 c] 28)) X → Calls Tryz.prog 75 #[.agg #[.string v, .string s, .int .i64 n]] X fun e w' => e = .returned (.string (Tm.txt ⟨v, s, n⟩)) ∧ Below (w.alloc (.cells #[.int .u8 3, .string wh.v, .string wh.s, .int .i64 wh.n, .string p, .slice (some ⟨bb, o, none⟩) 2 c] 28)).heap.size (w.alloc (.cells #[.int .u8 3, .string wh.v, .string wh.s, .int .i64 wh.n, .string p, .slice (some ⟨bb, o, none⟩) 2 c] 28)) w' from fun v s n h => HT.out (.cells #[.int .u8 3, .string wh.v, .string wh.s, .int .i64 wh.n, .string p, .slice (some ⟨bb, o, none⟩) 2 c] 28) ⟨v, s, n⟩ h)
  have hk1 : ¬ 9223372036854775807 < (Tm.txt ⟨va, sa, na⟩).size + 3 := by omega
  have hk2 : ¬ 9223372036854775807 < (Tm.txt ⟨va, sa, na⟩).size + 3 + (Tm.txt ⟨vb, sb, nb⟩).size := by omega
  unfold Lp.agg
  simp only [List.length_cons, List.length_nil] at HC ⊢
  clear hi hs HT x0 x1 x2 x3 x4 x5
  go_enter Tryz.func46, Tryz.ntmps46
  go_wp2_with fail
  have HSS := Lib.hid (show ∀ X, Below (w.alloc (.cells #[.int .u8 3, .string wh.v, .string wh.s, .int .i64 wh.n, .string p, .slice (some ⟨bb, o, none⟩) 2 c] 28)).heap.size (w.alloc (.cells #[.int .u8 3, .string wh.v, .string wh.s, .int .i64 wh.n, .string p, .slice (some ⟨bb, o, none⟩) 2 c] 28)) X → X.cell? ⟨w.heap.size, 5, none⟩ = some (.slice (some ⟨bb, o, none⟩) 2 c) ∧ X.cell? ⟨bb, o, none⟩ = some (.string va) ∧ X.cell? ⟨bb, o + 1, none⟩ = some (.string sa) ∧ X.cell? ⟨bb, o + 2, none⟩ = some (.int .i64 na) ∧ X.cell? ⟨bb, o + 3, none⟩ = some (.string vb) ∧ X.cell? ⟨bb, o + 3 + 1, none⟩ = some (.string sb) ∧ X.cell? ⟨bb, o + 3 + 2, none⟩ = some (.int .i64 nb) ∧ Hid (Below (w.alloc (.cells #[.int .u8 3, .string wh.v, .string wh.s, .int .i64 wh.n, .string p, .slice (some ⟨bb, o, none⟩) 2 c] 28)).heap.size (w.alloc (.cells #[.int .u8 3, .string wh.v, .string wh.s, .int .i64 wh.n, .string p, .slice (some ⟨bb, o, none⟩) 2 c] 28)) X) from
    fun X hX => by
      obtain ⟨c0, c1, c2, c3, c4, c5⟩ := HC.out X (HK.out _ X hX)
      exact ⟨box_cell hX 5 _ rfl, c0, c1, c2, c3, c4, c5, Lib.hid hX⟩)
  have HDB := Lib.hid (show Below (w.alloc (.cells #[.int .u8 3, .string wh.v, .string wh.s, .int .i64 wh.n, .string p, .slice (some ⟨bb, o, none⟩) 2 c] 28)).heap.size (w.alloc (.cells #[.int .u8 3, .string wh.v, .string wh.s, .int .i64 wh.n, .string p, .slice (some ⟨bb, o, none⟩) 2 c] 28)) (w.alloc (.cells #[.int .u8 3, .string wh.v, .string wh.s, .int .i64 wh.n, .string p, .slice (some ⟨bb, o, none⟩) 2 c] 28)).drew from (Below.refl _ _).drew)
  have hI := Lib.hid (show Below (w.alloc (.cells #[.int .u8 3, .string wh.v, .string wh.s, .int .i64 wh.n, .string p, .slice (some ⟨bb, o, none⟩) 2 c] 28)).heap.size (w.alloc (.cells #[.int .u8 3, .string wh.v, .string wh.s, .int .i64 wh.n, .string p, .slice (some ⟨bb, o, none⟩) 2 c] 28)) (w.alloc (.cells #[.int .u8 3, .string wh.v, .string wh.s, .int .i64 wh.n, .string p, .slice (some ⟨bb, o, none⟩) 2 c] 28)) from Below.refl _ _)
  have HDR := Lib.hid (HSS.out _ HDB.out)
  obtain ⟨y0, y1, y2, y3, y4, y5, y6, _⟩ := HSS.out _ hI.out
  go_region_held3 (fun X => X.cell? ⟨w.heap.size, 5, none⟩ = some (.slice (some ⟨bb, o, none⟩) 2 c) ∧ X.cell? ⟨bb, o, none⟩ = some (.string va) ∧ X.cell? ⟨bb, o + 1, none⟩ = some (.string sa) ∧ X.cell? ⟨bb, o + 2, none⟩ = some (.int .i64 na) ∧ X.cell? ⟨bb, o + 3, none⟩ = some (.string vb) ∧ X.cell? ⟨bb, o + 3 + 1, none⟩ = some (.string sb) ∧ X.cell? ⟨bb, o + 3 + 2, none⟩ = some (.int .i64 nb) ∧ Hid (Below (w.alloc (.cells #[.int .u8 3, .string wh.v, .string wh.s, .int .i64 wh.n, .string p, .slice (some ⟨bb, o, none⟩) 2 c] 28)).heap.size (w.alloc (.cells #[.int .u8 3, .string wh.v, .string wh.s, .int .i64 wh.n, .string p, .slice (some ⟨bb, o, none⟩) 2 c] 28)) X))
    (first
      | (exact HSS.out _ (Hid.out hI))
      | (exact HDR.out)
      | go_keep)
    (first
      | (go_at_call 75; refine (HTU.out _ _ _ (by simp) _ (by first | exact Hid.out hI | exact HDB.out)).mono ?_; rintro e wn ⟨rfl, hI'⟩; have hI := Lib.hid hI'; clear hI'))
  all_goals
    go_wp2_with fail
    go_ret
    exact ⟨rfl, HK.out _ _ (Hid.out hI)⟩
set_option maxHeartbeats 8000000 in
set_option maxRecDepth 100000 in
theorem reflit_unlike (l : Lp) (w : World) (a b : Tm) (hi : l.In w w.heap.size) (hs : l.Short) (h2 : l.kind = 4) (ha : l.args = [a, b]) :
    Calls Tryz.prog 46 #[l.agg] w fun e w' => e = .returned (.string ((a.txt ++ wdUnlikeB) ++ b.txt)) ∧ Below w.heap.size w w' := by
  have HB := Lib.hid (below1 w)
  obtain ⟨kd, wh, p, q, c, xs⟩ := l
  obtain rfl : kd = 4 := h2
  obtain rfl : xs = [a, b] := ha
  obtain ⟨bb, o, rfl, hbb, x0, x1, x2⟩ := rdM_at hi.args 0 (by simp)
  obtain ⟨b2, o2, hq2, _, x3, x4, x5⟩ := rdM_at hi.args 1 (by simp)
  cases hq2
  have HT := Lib.hid (show ∀ (O : Obj) (t : Tm), t ∈ [a, b] → ∀ X, Below (w.alloc O).heap.size (w.alloc O) X → Calls Tryz.prog 75 #[.agg #[.string t.v, .string t.s, .int .i64 t.n]] X fun e w' => e = .returned (.string t.txt) ∧ Below (w.alloc O).heap.size (w.alloc O) w' from fun O t ht X hX => (reftermText_any t X (hi.sz t ht) (hs.nb.args t ht)).mono fun e w' ⟨h1, h2⟩ => ⟨h1, hX.trans (h2.mono hX.size)⟩)
  have hza := hs.args a (by simp)
  have hzb := hs.args b (by simp)
  have HK := Lib.hid (show ∀ O X, Below (w.alloc O).heap.size (w.alloc O) X → Below w.heap.size w X from fun O X h => (below1 w O).trans (h.mono (below1 w O).size))
  have HC := Lib.hid (show ∀ X, Below w.heap.size w X → X.cell? ⟨bb, o, none⟩ = some (.string a.v) ∧ X.cell? ⟨bb, o + 1, none⟩ = some (.string a.s) ∧ X.cell? ⟨bb, o + 2, none⟩ = some (.int .i64 a.n) ∧ X.cell? ⟨bb, o + 3, none⟩ = some (.string b.v) ∧ X.cell? ⟨bb, o + 3 + 1, none⟩ = some (.string b.s) ∧ X.cell? ⟨bb, o + 3 + 2, none⟩ = some (.int .i64 b.n) from
    fun X hX => by
      simp only [Nat.zero_mul, Nat.add_zero, Nat.one_mul, List.getElem_cons_zero, List.getElem_cons_succ] at x0 x1 x2 x3 x4 x5
      exact ⟨(hX.cell (p := ⟨bb, o, none⟩) hbb).trans x0, (hX.cell (p := ⟨bb, o + 1, none⟩) hbb).trans x1, (hX.cell (p := ⟨bb, o + 2, none⟩) hbb).trans x2, (hX.cell (p := ⟨bb, o + 3, none⟩) hbb).trans x3, (hX.cell (p := ⟨bb, o + 3 + 1, none⟩) hbb).trans x4, (hX.cell (p := ⟨bb, o + 3 + 2, none⟩) hbb).trans x5⟩)
  obtain ⟨va, sa, na⟩ := a
  obtain ⟨vb, sb, nb⟩ := b
  have HTU := Lib.hid (show ∀ v s n, (⟨v, s, n⟩ : Tm) ∈ [(⟨va, sa, na⟩ : Tm), ⟨vb, sb, nb⟩] → ∀ X, Below (w.alloc (.cells #[.int .u8 4, .string wh.v, .string wh.s, .int .i64 wh.n, .string p, .slice (some ⟨bb, o, none⟩) 2 c] 28)).heap.size (w.alloc (.cells #[.int .u8 4, .string wh.v, .string wh.s, .int .i64 wh.n, .string p, .slice (some ⟨bb, o, none⟩) 2 c] 28)) X → Calls Tryz.prog 75 #[.agg #[.string v, .string s, .int .i64 n]] X fun e w' => e = .returned (.string (Tm.txt ⟨v, s, n⟩)) ∧ Below (w.alloc (.cells #[.int .u8 4, .string wh.v, .string wh.s, .int .i64 wh.n, .string p, .slice (some ⟨bb, o, none⟩) 2 c] 28)).heap.size (w.alloc (.cells #[.int .u8 4, .string wh.v, .string wh.s, .int .i64 wh.n, .string p, .slice (some ⟨bb, o, none⟩) 2 c] 28)) w' from fun v s n h => HT.out (.cells #[.int .u8 4, .string wh.v, .string wh.s, .int .i64 wh.n, .string p, .slice (some ⟨bb, o, none⟩) 2 c] 28) ⟨v, s, n⟩ h)
  have hk1 : ¬ 9223372036854775807 < (Tm.txt ⟨va, sa, na⟩).size + 4 := by omega
  have hk2 : ¬ 9223372036854775807 < (Tm.txt ⟨va, sa, na⟩).size + 4 + (Tm.txt ⟨vb, sb, nb⟩).size := by omega
  unfold Lp.agg
  simp only [List.length_cons, List.length_nil] at HC ⊢
  clear hi hs HT x0 x1 x2 x3 x4 x5
  go_enter Tryz.func46, Tryz.ntmps46
  go_wp2_with fail
  have HSS := Lib.hid (show ∀ X, Below (w.alloc (.cells #[.int .u8 4, .string wh.v, .string wh.s, .int .i64 wh.n, .string p, .slice (some ⟨bb, o, none⟩) 2 c] 28)).heap.size (w.alloc (.cells #[.int .u8 4, .string wh.v, .string wh.s, .int .i64 wh.n, .string p, .slice (some ⟨bb, o, none⟩) 2 c] 28)) X → X.cell? ⟨w.heap.size, 5, none⟩ = some (.slice (some ⟨bb, o, none⟩) 2 c) ∧ X.cell? ⟨bb, o, none⟩ = some (.string va) ∧ X.cell? ⟨bb, o + 1, none⟩ = some (.string sa) ∧ X.cell? ⟨bb, o + 2, none⟩ = some (.int .i64 na) ∧ X.cell? ⟨bb, o + 3, none⟩ = some (.string vb) ∧ X.cell? ⟨bb, o + 3 + 1, none⟩ = some (.string sb) ∧ X.cell? ⟨bb, o + 3 + 2, none⟩ = some (.int .i64 nb) ∧ Hid (Below (w.alloc (.cells #[.int .u8 4, .string wh.v, .string wh.s, .int .i64 wh.n, .string p, .slice (some ⟨bb, o, none⟩) 2 c] 28)).heap.size (w.alloc (.cells #[.int .u8 4, .string wh.v, .string wh.s, .int .i64 wh.n, .string p, .slice (some ⟨bb, o, none⟩) 2 c] 28)) X) from
    fun X hX => by
      obtain ⟨c0, c1, c2, c3, c4, c5⟩ := HC.out X (HK.out _ X hX)
      exact ⟨box_cell hX 5 _ rfl, c0, c1, c2, c3, c4, c5, Lib.hid hX⟩)
  have HDB := Lib.hid (show Below (w.alloc (.cells #[.int .u8 4, .string wh.v, .string wh.s, .int .i64 wh.n, .string p, .slice (some ⟨bb, o, none⟩) 2 c] 28)).heap.size (w.alloc (.cells #[.int .u8 4, .string wh.v, .string wh.s, .int .i64 wh.n, .string p, .slice (some ⟨bb, o, none⟩) 2 c] 28)) (w.alloc (.cells #[.int .u8 4, .string wh.v, .string wh.s, .int .i64 wh.n, .string p, .slice (some ⟨bb, o, none⟩) 2 c] 28)).drew from (Below.refl _ _).drew)
  have hI := Lib.hid (show Below (w.alloc (.cells #[.int .u8 4, .string wh.v, .string wh.s, .int .i64 wh.n, .string p, .slice (some ⟨bb, o, none⟩) 2 c] 28)).heap.size (w.alloc (.cells #[.int .u8 4, .string wh.v, .string wh.s, .int .i64 wh.n, .string p, .slice (some ⟨bb, o, none⟩) 2 c] 28)) (w.alloc (.cells #[.int .u8 4, .string wh.v, .string wh.s, .int .i64 wh.n, .string p, .slice (some ⟨bb, o, none⟩) 2 c] 28)) from Below.refl _ _)
  have HDR := Lib.hid (HSS.out _ HDB.out)
  obtain ⟨y0, y1, y2, y3, y4, y5, y6, _⟩ := HSS.out _ hI.out
  go_region_held3 (fun X => X.cell? ⟨w.heap.size, 5, none⟩ = some (.slice (some ⟨bb, o, none⟩) 2 c) ∧ X.cell? ⟨bb, o, none⟩ = some (.string va) ∧ X.cell? ⟨bb, o + 1, none⟩ = some (.string sa) ∧ X.cell? ⟨bb, o + 2, none⟩ = some (.int .i64 na) ∧ X.cell? ⟨bb, o + 3, none⟩ = some (.string vb) ∧ X.cell? ⟨bb, o + 3 + 1, none⟩ = some (.string sb) ∧ X.cell? ⟨bb, o + 3 + 2, none⟩ = some (.int .i64 nb) ∧ Hid (Below (w.alloc (.cells #[.int .u8 4, .string wh.v, .string wh.s, .int .i64 wh.n, .string p, .slice (some ⟨bb, o, none⟩) 2 c] 28)).heap.size (w.alloc (.cells #[.int .u8 4, .string wh.v, .string wh.s, .int .i64 wh.n, .string p, .slice (some ⟨bb, o, none⟩) 2 c] 28)) X))
    (first
      | (exact HSS.out _ (Hid.out hI))
      | (exact HDR.out)
      | go_keep)
    (first
      | (go_at_call 75; refine (HTU.out _ _ _ (by simp) _ (by first | exact Hid.out hI | exact HDB.out)).mono ?_; rintro e wn ⟨rfl, hI'⟩; have hI := Lib.hid hI'; clear hI'))
  all_goals
    go_wp2_with fail
    go_ret
    exact ⟨rfl, HK.out _ _ (Hid.out hI)⟩
theorem reflit_cmp (l : Lp) (w : World) (hi : l.In w w.heap.size) (hs : l.Short) (hk : l.kind = 3 ∨ l.kind = 4) (hl : l.lit = true) :
    Calls Tryz.prog 46 #[l.agg] w fun e w' => e = .returned (.string l.litT) ∧ Below w.heap.size w w' := by
  unfold Lp.litT
  rcases hk with h3 | h4
  · rw [if_neg (by omega), if_pos h3]
    obtain ⟨a, b, hab⟩ := two_of (comp_two hl (.inl h3))
    rw [hab]
    exact reflit_less l w a b hi hs h3 hab
  · rw [if_neg (by omega), if_neg (by omega), if_pos h4]
    obtain ⟨a, b, hab⟩ := two_of (comp_two hl (.inr h4))
    rw [hab]
    exact reflit_unlike l w a b hi hs h4 hab
end Go.Proofs.YtnjdganikeganaaGreatDoor

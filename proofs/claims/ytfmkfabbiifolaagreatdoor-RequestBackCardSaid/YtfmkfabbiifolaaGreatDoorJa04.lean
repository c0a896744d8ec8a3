/-
  Joined of: LexC, LexK, Scope.
-/
import Derived.Test.YtfmkfabbiifolaaGreatDoorJa03
import Derived.Test.YtfmkfabbiifolaaGreatDoorRows
import Derived.WalkKit
import Derived.Scope
import Derived.WalkMore
import Derived.ScopeJumps
set_option linter.unusedVariables false
set_option linter.unusedSimpArgs false
/-
  Contracts: lex.upper, lex.digit, lex.within, the reference's In.
-/
namespace Go.Proofs.YtfmkfabbiifolaaGreatDoor
open Go.RowKit

set_option maxHeartbeats 400000 in
theorem upper_any (c : Int) (w : World) :
    Calls Tryz.prog 107 #[.int .u8 c] w fun e w' => e = .returned (.bool (upB c)) ∧ w = w' := by
  by_cases h1 : 65 ≤ c
  · go_enter Tryz.func107, Tryz.ntmps107
    go_wp2
    go_ret
    exact ⟨by simp [upB, h1], rfl⟩
  · go_enter Tryz.func107, Tryz.ntmps107
    go_wp2
    go_ret
    exact ⟨by have h2 : ¬ 65 ≤ c := by omega
              simp [upB, h2], rfl⟩
set_option maxHeartbeats 400000 in
theorem lexdigit_any (c : Int) (w : World) :
    Calls Tryz.prog 81 #[.int .u8 c] w fun e w' => e = .returned (.bool (digB c)) ∧ w = w' := by
  by_cases h1 : 48 ≤ c
  · go_enter Tryz.func81, Tryz.ntmps81
    go_wp2
    go_ret
    exact ⟨by simp [digB, h1], rfl⟩
  · go_enter Tryz.func81, Tryz.ntmps81
    go_wp2
    go_ret
    exact ⟨by have h2 : ¬ 48 ≤ c := by omega
              simp [digB, h2], rfl⟩

/-- where a byte stands -/
theorem byte_parts (c : Int) : (97 ≤ c ∧ c ≤ 122) ∨ (65 ≤ c ∧ c ≤ 90) ∨ (48 ≤ c ∧ c ≤ 57) ∨ c = 95 ∨ c < 48 ∨ (57 < c ∧ c < 65) ∨ (90 < c ∧ c < 95) ∨ (95 < c ∧ c < 97) ∨ 122 < c := by omega

theorem win_of (c : Int) (u d e : Bool) (h : ¬ (97 ≤ c ∧ c ≤ 122)) (hu : upB c = u) (hd : digB c = d) (he : (c == 95) = e) : winB c = (u || d || e) := by
  have hl : letB c = false := by simp only [letB, Bool.and_eq_false_iff, decide_eq_false_iff_not]; omega
  subst hu hd he
  simp only [winB, lowB, hl, Bool.false_or]; cases upB c <;> cases digB c <;> simp
theorem upB_yes (c : Int) (h1 : 65 ≤ c) (h2 : c ≤ 90) : upB c = true := by simp [upB, h1, h2]
theorem upB_no (c : Int) (h : c < 65 ∨ 90 < c) : upB c = false := by simp only [upB, Bool.and_eq_false_iff, decide_eq_false_iff_not]; omega
theorem digB_yes (c : Int) (h1 : 48 ≤ c) (h2 : c ≤ 57) : digB c = true := by simp [digB, h1, h2]
theorem digB_no (c : Int) (h : c < 48 ∨ 57 < c) : digB c = false := by simp only [digB, Bool.and_eq_false_iff, decide_eq_false_iff_not]; omega
theorem win_let (c : Int) (h1 : 97 ≤ c) (h2 : c ≤ 122) : winB c = true := by simp [winB, lowB, letB, h1, h2]

set_option maxHeartbeats 1000000 in
theorem within_let (c : Int) (w : World) (h1 : 97 ≤ c) (h2 : c ≤ 122) :
    Calls Tryz.prog 80 #[.int .u8 c] w fun e w' => e = .returned (.bool true) ∧ w = w' := by
  go_enter Tryz.func80, Tryz.ntmps80
  go_wp2_with fail
  go_ret
  exact ⟨rfl, rfl⟩
set_option maxHeartbeats 1000000 in
theorem within_low (c : Int) (w : World) (u d e : Bool) (h1 : c < 97) (hu : ∀ wx, Calls Tryz.prog 107 #[.int .u8 c] wx fun e w' => e = .returned (.bool u) ∧ wx = w')
    (hd : ∀ wx, Calls Tryz.prog 81 #[.int .u8 c] wx fun e w' => e = .returned (.bool d) ∧ wx = w') (he : (c == 95) = e) :
    Calls Tryz.prog 80 #[.int .u8 c] w fun e' w' => e' = .returned (.bool (u || d || e)) ∧ w = w' := by
  have HU := Lib.hid hu
  have HD := Lib.hid hd
  clear hu hd
  have g : ¬ 97 ≤ c := by omega
  cases u <;> cases d <;> cases e
  all_goals
    go_enter Tryz.func80, Tryz.ntmps80
    go_wp2_with (first
      | (go_at_call 107; refine (HU.out _).mono ?_; rintro e w' ⟨rfl, rfl⟩)
      | (go_at_call 81; refine (HD.out _).mono ?_; rintro e w' ⟨rfl, rfl⟩))
    go_ret
    exact ⟨rfl, rfl⟩
set_option maxHeartbeats 1000000 in
theorem within_high (c : Int) (w : World) (u d e : Bool) (h1 : 97 ≤ c) (h2 : decide (c ≤ 122) = false) (hu : ∀ wx, Calls Tryz.prog 107 #[.int .u8 c] wx fun e w' => e = .returned (.bool u) ∧ wx = w')
    (hd : ∀ wx, Calls Tryz.prog 81 #[.int .u8 c] wx fun e w' => e = .returned (.bool d) ∧ wx = w') (he : (c == 95) = e) :
    Calls Tryz.prog 80 #[.int .u8 c] w fun e' w' => e' = .returned (.bool (u || d || e)) ∧ w = w' := by
  have HU := Lib.hid hu
  have HD := Lib.hid hd
  clear hu hd
  cases u <;> cases d <;> cases e
  all_goals
    go_enter Tryz.func80, Tryz.ntmps80
    go_wp2_with (first
      | (go_at_call 107; refine (HU.out _).mono ?_; rintro e w' ⟨rfl, rfl⟩)
      | (go_at_call 81; refine (HD.out _).mono ?_; rintro e w' ⟨rfl, rfl⟩))
    go_ret
    exact ⟨rfl, rfl⟩
theorem within_any (c : Int) (w : World) :
    Calls Tryz.prog 80 #[.int .u8 c] w fun e w' => e = .returned (.bool (winB c)) ∧ w = w' := by
  by_cases h1 : 97 ≤ c
  · by_cases h2 : c ≤ 122
    · rw [win_let c h1 h2]; exact within_let c w h1 h2
    · rw [win_of c _ _ _ (by omega) rfl rfl rfl]
      exact within_high c w _ _ _ h1 (by rw [decide_eq_false_iff_not]; exact h2) (upper_any c) (lexdigit_any c) rfl
  · rw [win_of c _ _ _ (by omega) rfl rfl rfl]
    exact within_low c w _ _ _ (by omega) (upper_any c) (lexdigit_any c) rfl

set_option maxHeartbeats 2000000 in
theorem refin_any (c : Int) (w : World) :
    Calls Tryz.prog 90 #[.int .u8 c] w fun e w' => e = .returned (.bool (winB c)) ∧ w = w' := by
  rcases byte_parts c with ⟨a, b⟩ | ⟨a, b⟩ | ⟨a, b⟩ | a | a | ⟨a, b⟩ | ⟨a, b⟩ | ⟨a, b⟩ | a
  · rw [win_let c a b]
    go_enter Tryz.func90, Tryz.ntmps90
    go_wp2_with fail
    go_ret
    exact ⟨rfl, rfl⟩
  · rw [win_of c _ _ _ (by omega) (upB_yes c a b) rfl rfl]
    have g : ¬ 97 ≤ c := by omega
    go_enter Tryz.func90, Tryz.ntmps90
    go_wp2_with fail
    go_ret
    exact ⟨by simp, rfl⟩
  · rw [win_of c _ _ _ (by omega) rfl (digB_yes c a b) rfl]
    have g : ¬ 97 ≤ c := by omega
    have g2 : ¬ 65 ≤ c := by omega
    go_enter Tryz.func90, Tryz.ntmps90
    go_wp2_with fail
    go_ret
    exact ⟨by simp, rfl⟩
  · have e : (c == 95) = true := by rw [beq_iff_eq]; exact a
    rw [win_of c _ _ _ (by omega) rfl rfl e]
    have g : ¬ 97 ≤ c := by omega
    have g2 : 65 ≤ c := by omega
    have g3 : decide (c ≤ 90) = false := by rw [decide_eq_false_iff_not]; omega
    have g4 : 48 ≤ c := by omega
    have g5 : decide (c ≤ 57) = false := by rw [decide_eq_false_iff_not]; omega
    clear a
    go_enter Tryz.func90, Tryz.ntmps90
    go_wp2_with fail
    go_ret
    exact ⟨by simp, rfl⟩
  · have e : (c == 95) = false := by rw [beq_eq_false_iff_ne]; omega
    rw [win_of c _ _ _ (by omega) (upB_no c (by omega)) (digB_no c (by omega)) e]
    have g : ¬ 97 ≤ c := by omega
    have g2 : ¬ 65 ≤ c := by omega
    have g4 : ¬ 48 ≤ c := by omega
    go_enter Tryz.func90, Tryz.ntmps90
    go_wp2_with fail
    go_ret
    exact ⟨rfl, rfl⟩
  · have e : (c == 95) = false := by rw [beq_eq_false_iff_ne]; omega
    rw [win_of c _ _ _ (by omega) (upB_no c (by omega)) (digB_no c (by omega)) e]
    have g : ¬ 97 ≤ c := by omega
    have g2 : ¬ 65 ≤ c := by omega
    have g4 : 48 ≤ c := by omega
    have g5 : decide (c ≤ 57) = false := by rw [decide_eq_false_iff_not]; omega
    go_enter Tryz.func90, Tryz.ntmps90
    go_wp2_with fail
    go_ret
    exact ⟨rfl, rfl⟩
  · have e : (c == 95) = false := by rw [beq_eq_false_iff_ne]; omega
    rw [win_of c _ _ _ (by omega) (upB_no c (by omega)) (digB_no c (by omega)) e]
    have g : ¬ 97 ≤ c := by omega
    have g2 : 65 ≤ c := by omega
    have g3 : decide (c ≤ 90) = false := by rw [decide_eq_false_iff_not]; omega
    have g4 : 48 ≤ c := by omega
    have g5 : decide (c ≤ 57) = false := by rw [decide_eq_false_iff_not]; omega
    go_enter Tryz.func90, Tryz.ntmps90
    go_wp2_with fail
    go_ret
    exact ⟨rfl, rfl⟩
  · have e : (c == 95) = false := by rw [beq_eq_false_iff_ne]; omega
    rw [win_of c _ _ _ (by omega) (upB_no c (by omega)) (digB_no c (by omega)) e]
    have g : ¬ 97 ≤ c := by omega
    have g2 : 65 ≤ c := by omega
    have g3 : decide (c ≤ 90) = false := by rw [decide_eq_false_iff_not]; omega
    have g4 : 48 ≤ c := by omega
    have g5 : decide (c ≤ 57) = false := by rw [decide_eq_false_iff_not]; omega
    go_enter Tryz.func90, Tryz.ntmps90
    go_wp2_with fail
    go_ret
    exact ⟨rfl, rfl⟩
  · have e : (c == 95) = false := by rw [beq_eq_false_iff_ne]; omega
    rw [win_of c _ _ _ (by omega) (upB_no c (by omega)) (digB_no c (by omega)) e]
    have g : 97 ≤ c := by omega
    have g1 : decide (c ≤ 122) = false := by rw [decide_eq_false_iff_not]; omega
    have g2 : 65 ≤ c := by omega
    have g3 : decide (c ≤ 90) = false := by rw [decide_eq_false_iff_not]; omega
    have g4 : 48 ≤ c := by omega
    have g5 : decide (c ≤ 57) = false := by rw [decide_eq_false_iff_not]; omega
    go_enter Tryz.func90, Tryz.ntmps90
    go_wp2_with fail
    go_ret
    exact ⟨rfl, rfl⟩
end Go.Proofs.YtfmkfabbiifolaaGreatDoor

/-
  Contracts: lex.kind, the reference's Kind.
-/
namespace Go.Proofs.YtfmkfabbiifolaaGreatDoor
open Go.RowKit

theorem refread_parts (s : ByteArray) (w : World) (hs : s.size ≤ maxLen) :
    Calls Tryz.prog 57 #[.string s] w fun e w' => e = .returned (.tuple #[.agg #[.string (readS s), .int .i64 (readI s)], .bool (readB s)]) ∧ Below w.heap.size w w' := by
  rw [← readV_eq]; exact refread_any s w hs
theorem read_parts (s : ByteArray) (w : World) (hs : s.size ≤ 140737488351232) (he : Env w) :
    Calls Tryz.prog 86 #[.string s] w fun e w' => e = .returned (.tuple #[.agg #[.string (readS s), .int .i64 (readI s)], .bool (readB s)]) ∧ Below w.heap.size w w' := by
  rw [← readV_eq]; exact read_any s w hs he

/-- a piece's kind, by what its readers say -/
theorem kindL_eq (s : ByteArray) : kindL s.data.toList = if wordB s = true then 5 else if (upB (hdB s) && decide (s.size ≤ 16)) = true then 2 else if nameB s = true then 1 else if (readN s).isSome = true then 3 else 0 := by
  unfold kindL
  rw [wordB_eq, nameB_eq, mk_toList]
  rfl
theorem kind_word (s : ByteArray) (h : wordB s = true) : kindL s.data.toList = 5 := by rw [kindL_eq, if_pos h]
theorem kind_var (s : ByteArray) (h : wordB s = false) (h2 : (upB (hdB s) && decide (s.size ≤ 16)) = true) : kindL s.data.toList = 2 := by rw [kindL_eq, if_neg (by rw [h]; decide), if_pos h2]
theorem kind_name (s : ByteArray) (h : wordB s = false) (h2 : (upB (hdB s) && decide (s.size ≤ 16)) = false) (h3 : nameB s = true) : kindL s.data.toList = 1 := by rw [kindL_eq, if_neg (by rw [h]; decide), if_neg (by rw [h2]; decide), if_pos h3]
theorem kind_num (s : ByteArray) (h : wordB s = false) (h2 : (upB (hdB s) && decide (s.size ≤ 16)) = false) (h3 : nameB s = false) (h4 : (readN s).isSome = true) : kindL s.data.toList = 3 := by rw [kindL_eq, if_neg (by rw [h]; decide), if_neg (by rw [h2]; decide), if_neg (by rw [h3]; decide), if_pos h4]
theorem kind_no (s : ByteArray) (h : wordB s = false) (h2 : (upB (hdB s) && decide (s.size ≤ 16)) = false) (h3 : nameB s = false) (h4 : (readN s).isSome = false) : kindL s.data.toList = 0 := by rw [kindL_eq, if_neg (by rw [h]; decide), if_neg (by rw [h2]; decide), if_neg (by rw [h3]; decide), if_neg (by rw [h4]; decide)]
theorem name_noup (s : ByteArray) (h : nameB s = true) : upB (hdB s) = false := by
  unfold nameB at h
  simp only [Bool.and_eq_true] at h
  have h2 := h.1.2
  simp only [letB, Bool.and_eq_true, decide_eq_true_eq] at h2
  exact upB_no _ (by omega)

set_option maxHeartbeats 1000000 in
theorem kind_any (s : ByteArray) (w : World) (hs : s.size ≤ 140737488351232) (h0 : 0 < s.size) (he : Env w) :
    Calls Tryz.prog 82 #[.string s] w fun e w' => e = .returned (.int .u8 (kindL s.data.toList)) ∧ Below w.heap.size w w' := by
  have HE := Lib.hid he
  clear he
  cases hw : wordB s with
  | true =>
    have HK := Lib.hid (kind_word s hw)
    have hh : (s.toList == [110, 111, 116]) = true ∨ (s.toList == [110, 111, 116]) = false ∧ (s.toList == [115, 97, 121, 115]) = true := by
      unfold wordB at hw
      cases h : (s.toList == [110, 111, 116]) with
      | true => exact .inl rfl
      | false => rw [h] at hw; exact .inr ⟨rfl, hw⟩
    clear hw
    rcases hh with h1 | ⟨h1, h2⟩
    all_goals
      go_enter Tryz.func82, Tryz.ntmps82
      go_wp2_with fail
      go_ret
      exact ⟨by rw [HK.out]; rfl, Below.refl _ _⟩
  | false =>
    have hn1 : (s.toList == [110, 111, 116]) = false := by unfold wordB at hw; rw [Bool.or_eq_false_iff] at hw; exact hw.1
    have hn2 : (s.toList == [115, 97, 121, 115]) = false := by unfold wordB at hw; rw [Bool.or_eq_false_iff] at hw; exact hw.2
    have HU := Lib.hid (show ∀ wx, Calls Tryz.prog 107 #[.int .u8 (s[0].toNat : Int)] wx fun e w' => e = .returned (.bool (upB (hdB s))) ∧ wx = w' from fun wx => by rw [← hd_eq s h0]; exact upper_any _ wx)
    cases hv : (upB (hdB s) && decide (s.size ≤ 16)) with
    | true =>
      have HK := Lib.hid (kind_var s hw hv)
      simp only [Bool.and_eq_true, decide_eq_true_eq] at hv
      obtain ⟨hv1, hv2⟩ := hv
      rw [hv1] at HU
      clear hw
      go_enter Tryz.func82, Tryz.ntmps82
      go_wp2_with (go_at_call 107; refine (HU.out _).mono ?_; rintro e w' ⟨rfl, rfl⟩)
      go_ret
      exact ⟨by rw [HK.out]; rfl, Below.refl _ _⟩
    | false =>
      have HR := Lib.hid (show ∀ wx, Env wx → _ from fun wx => read_parts s wx hs)
      have hcase : upB (hdB s) = false ∨ upB (hdB s) = true ∧ ¬ s.size ≤ 16 := by
        cases h : upB (hdB s) with
        | false => exact .inl rfl
        | true => rw [h] at hv; exact .inr ⟨rfl, by simpa using hv⟩
      have hres : (nameB s = true ∧ readB s = true ∧ (readS s).toList.isEmpty = false ∧ kindL s.data.toList = 1) ∨ (readB s = true ∧ (readS s).toList.isEmpty = true ∧ kindL s.data.toList = 3) ∨ (readB s = false ∧ kindL s.data.toList = 0) := by
        cases h3 : nameB s with
        | true => exact .inl ⟨rfl, by unfold readB; rw [h3]; rfl, by unfold readS; rw [if_pos h3]; exact nameB_ne s h3, kind_name s hw hv h3⟩
        | false =>
          cases h4 : (readN s).isSome with
          | true => exact .inr (.inl ⟨by unfold readB; rw [h3, h4]; rfl, by unfold readS; rw [h3]; exact isEmpty_nil, kind_num s hw hv h3 h4⟩)
          | false => exact .inr (.inr ⟨by unfold readB; rw [h3, h4]; rfl, kind_no s hw hv h3 h4⟩)
      clear hw hv
      generalize readS s = rs at *
      generalize readI s = ri at *
      generalize readB s = rb at *
      have fin : ∀ (wx w1 : World), wx = w → Below wx.heap.size wx w1 → Below w.heap.size w (w1.alloc (.cells #[.string rs, .int .i64 ri] 23)) := fun wx w1 e hb => by subst e; exact hb.alloc hb.size _
      have HF := Lib.hid fin
      clear fin
      rcases hcase with hc | ⟨hc, hc2⟩
      all_goals
        rw [hc] at HU
        rcases hres with ⟨_, rfl, hr, hk⟩ | ⟨rfl, hr, hk⟩ | ⟨rfl, hk⟩
        all_goals
          have HK := Lib.hid hk
          clear hk
          go_enter Tryz.func82, Tryz.ntmps82
          go_wp2_with (go_at_call 107; refine (HU.out _).mono ?_; rintro e w' ⟨rfl, rfl⟩)
          refine (HR.out _ HE.out).mono ?_
          rintro e w1 ⟨rfl, hb1⟩
          have HB := Lib.hid (HF.out _ _ rfl hb1)
          clear hb1
          go_wp2_with fail
          go_ret
          exact ⟨by rw [HK.out]; rfl, HB.out⟩

set_option maxHeartbeats 1000000 in
theorem refkind_any (s : ByteArray) (w : World) (hs : s.size ≤ 140737488351232) :
    Calls Tryz.prog 91 #[.string s] w fun e w' => e = .returned (.int .u8 (kindL s.data.toList)) ∧ Below w.heap.size w w' := by
  have hm : s.size ≤ maxLen := by unfold maxLen; omega
  cases hw : wordB s with
  | true =>
    have HK := Lib.hid (kind_word s hw)
    have hh : (s.toList == [110, 111, 116]) = true ∨ (s.toList == [110, 111, 116]) = false ∧ (s.toList == [115, 97, 121, 115]) = true := by
      unfold wordB at hw
      cases h : (s.toList == [110, 111, 116]) with
      | true => exact .inl rfl
      | false => rw [h] at hw; exact .inr ⟨rfl, hw⟩
    clear hw
    rcases hh with h1 | ⟨h1, h2⟩
    all_goals
      go_enter Tryz.func91, Tryz.ntmps91
      go_wp2_with fail
      go_ret
      exact ⟨by rw [HK.out]; rfl, Below.refl _ _⟩
  | false =>
    have hn1 : (s.toList == [110, 111, 116]) = false := by unfold wordB at hw; rw [Bool.or_eq_false_iff] at hw; exact hw.1
    have hn2 : (s.toList == [115, 97, 121, 115]) = false := by unfold wordB at hw; rw [Bool.or_eq_false_iff] at hw; exact hw.2
    cases hn : nameB s with
    | true =>
      have HK := Lib.hid (kind_name s hw (by rw [name_noup s hn]; rfl) hn)
      have HN := Lib.hid (show ∀ wx, Calls Tryz.prog 33 #[.string s] wx fun e w' => e = .returned (.bool true) ∧ wx = w' from fun wx => hn ▸ refname_any s wx hm)
      clear hw hn
      go_enter Tryz.func91, Tryz.ntmps91
      go_wp2_with (go_at_call 33; refine (HN.out _).mono ?_; rintro e w' ⟨rfl, rfl⟩)
      go_ret
      exact ⟨by rw [HK.out]; rfl, Below.refl _ _⟩
    | false =>
      have HN := Lib.hid (show ∀ wx, Calls Tryz.prog 33 #[.string s] wx fun e w' => e = .returned (.bool false) ∧ wx = w' from fun wx => hn ▸ refname_any s wx hm)
      cases hv : (upB (hdB s) && decide (s.size ≤ 16)) with
      | true =>
        have HK := Lib.hid (kind_var s hw hv)
        simp only [Bool.and_eq_true, decide_eq_true_eq, upB] at hv
        obtain ⟨⟨hv1, hv2⟩, hv3⟩ := hv
        have h0 : 0 < s.size := by
          rcases Nat.eq_zero_or_pos s.size with h | h
          · exfalso
            obtain ⟨⟨l⟩⟩ := s
            cases l with
            | nil => simp [hdB] at hv1
            | cons c r => cases h
          · exact h
        rw [← hd_eq s h0] at hv1 hv2
        clear hw hn
        go_enter Tryz.func91, Tryz.ntmps91
        go_wp2_with (go_at_call 33; refine (HN.out _).mono ?_; rintro e w' ⟨rfl, rfl⟩)
        go_ret
        exact ⟨by rw [HK.out]; rfl, Below.refl _ _⟩
      | false =>
        have HR := Lib.hid (show ∀ wx, _ from fun wx => refread_parts s wx hm)
        have hres : (readB s = true ∧ kindL s.data.toList = 3) ∨ (readB s = false ∧ kindL s.data.toList = 0) := by
          cases h4 : (readN s).isSome with
          | true => exact .inl ⟨by unfold readB; rw [hn, h4]; rfl, kind_num s hw hv hn h4⟩
          | false => exact .inr ⟨by unfold readB; rw [hn, h4]; rfl, kind_no s hw hv hn h4⟩
        have hcase : ¬ 0 < s.size ∨ (∃ h0 : 0 < s.size, ¬ s.size ≤ 16) ∨ (∃ h0 : 0 < s.size, s.size ≤ 16 ∧ (s[0].toNat : Int) < 65) ∨ (∃ h0 : 0 < s.size, s.size ≤ 16 ∧ 65 ≤ (s[0].toNat : Int) ∧ 90 < (s[0].toNat : Int)) := by
          rcases Nat.eq_zero_or_pos s.size with h | h
          · exact .inl (by omega)
          · by_cases h16 : s.size ≤ 16
            · have hh := hd_eq s h
              have : upB (hdB s) = false := by simpa [h16] using hv
              rw [← hh] at this
              simp only [upB, Bool.and_eq_false_iff, decide_eq_false_iff_not] at this
              by_cases h65 : (s[0].toNat : Int) < 65
              · exact .inr (.inr (.inl ⟨h, h16, h65⟩))
              · exact .inr (.inr (.inr ⟨h, h16, by omega, by omega⟩))
            · exact .inr (.inl ⟨h, h16⟩)
        clear hw hv hn
        generalize readS s = rs at *
        generalize readI s = ri at *
        generalize readB s = rb at *
        have fin : ∀ (wx w1 : World), wx = w → Below wx.heap.size wx w1 → Below w.heap.size w (w1.alloc (.cells #[.string rs, .int .i64 ri] 23)) := fun wx w1 e hb => by subst e; exact hb.alloc hb.size _
        have HF := Lib.hid fin
        clear fin
        rcases hcase with h0 | ⟨h0, g1⟩ | ⟨h0, g1, g2⟩ | ⟨h0, g1, g2, g3⟩
        all_goals
          try have g4 : decide (s[0].toNat ≤ 90) = false := by rw [decide_eq_false_iff_not]; omega
          rcases hres with ⟨rfl, hk⟩ | ⟨rfl, hk⟩
          all_goals
            have HK := Lib.hid hk
            clear hk
            go_enter Tryz.func91, Tryz.ntmps91
            go_wp2_with (go_at_call 33; refine (HN.out _).mono ?_; rintro e w' ⟨rfl, rfl⟩)
            refine (HR.out _).mono ?_
            rintro e w1 ⟨rfl, hb1⟩
            have HB := Lib.hid (HF.out _ _ rfl hb1)
            clear hb1
            go_wp2_with fail
            go_ret
            exact ⟨by rw [HK.out]; rfl, HB.out⟩
end Go.Proofs.YtfmkfabbiifolaaGreatDoor

/-
  A scope with several labels: the run goes from label to label; each goto goes on at its label's code.
-/
namespace Go.Proofs.YtfmkfabbiifolaaGreatDoor
open Go

section
variable {P : Program} {c : Code} {Q : Exit → Act → World → Prop}
/-- code that runs within the scope c comes to an end as Q says -/
def InS (P : Program) (c : Code) (Q : Exit → Act → World → Prop) (d : Code) (a : Act) (w : World) : Prop :=
  ∀ b k cs, ∃ e a' w', Q e a' w' ∧ Arrives P (lone (b.at a (.code d :: .inScope c :: k)) cs w) b k cs e a' w'
/-- as Q; a goto goes on at its label -/
def ExS (P : Program) (c : Code) (Q : Exit → Act → World → Prop) : Exit → Act → World → Prop
  | .goto l, a, w => ∃ rest, findLabel c l = some rest ∧ InS P c Q rest a w
  | e, a, w => Q e a w
theorem ExS_ret {a : Act} {w : World} : ExS P c Q .ret a w = Q .ret a w := rfl
theorem ExS_goto {a : Act} {w : World} {l : Nat} (rest : Code) (hf : findLabel c l = some rest) (h : InS P c Q rest a w) : ExS P c Q (.goto l) a w := ⟨rest, hf, h⟩
theorem ins_of_wp {d : Code} {a : Act} {w : World} (h : d.wp P (ExS P c Q) a w) : InS P c Q d a w := by
  intro b k cs
  obtain ⟨e, a₁, w₁, hq, harr⟩ := h b (.inScope c :: k) cs
  cases e with
  | normal => exact ⟨.normal, a₁, w₁, hq, Steps.trans harr (.one step_inScope)⟩
  | exit id => exact ⟨.exit id, a₁, w₁, hq, fun k' hk => harr k' (by simp [exitTo, hk])⟩
  | goto l =>
    obtain ⟨rest, hf, hr⟩ := hq
    have hg : gotoIn l (.inScope c :: k) = some (.code rest :: .inScope c :: k) := by simp [gotoIn, hf]
    obtain ⟨e₂, a₂, w₂, hq₂, harr₂⟩ := hr b k cs
    exact ⟨e₂, a₂, w₂, hq₂, .of_steps (harr _ hg) harr₂⟩
  | ret => exact ⟨_, a₁, w₁, hq, harr⟩
  | panic ch => exact ⟨_, a₁, w₁, hq, harr⟩
  | outgrown => exact ⟨_, a₁, w₁, hq, harr⟩
theorem wp_scope_ins {a : Act} {w : World} (h : InS P c Q c a w) : (Code.scope c).wp P Q a w := by
  intro b k cs
  obtain ⟨e, a₁, w₁, hq, harr⟩ := h b k cs
  exact ⟨e, a₁, w₁, hq, .of_steps (.one step_scope) harr⟩
theorem wp_scope_walk {a : Act} {w : World} (h : c.wp P (ExS P c Q) a w) : (Code.scope c).wp P Q a w := wp_scope_ins (ins_of_wp h)
theorem ins_loop (d : Code) (J : Act → World → Prop) (μ : Act → World → Nat)
    (h : ∀ a w, J a w → (∀ a' w', J a' w' → μ a' w' < μ a w → InS P c Q d a' w') → d.wp P (ExS P c Q) a w) {a : Act} {w : World} (hJ : J a w) : InS P c Q d a w := by
  have key : ∀ n a w, μ a w = n → J a w → InS P c Q d a w := by
    intro n
    induction n using Nat.strongRecOn with
    | _ n ih =>
      intro a w hn hJ
      exact ins_of_wp (h a w hJ fun a' w' hj hlt => ih _ (by omega) a' w' rfl hj)
  exact key _ a w rfl hJ
end
end Go.Proofs.YtfmkfabbiifolaaGreatDoor

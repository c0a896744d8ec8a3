/-
  Contracts: lex.upper, lex.digit, lex.within, the reference's In.
-/
import Derived.Test.YtpkccmceobonnaaDoorLexS
namespace Go.Proofs.YtpkccmceobonnaaDoor
open Go.RowKit

set_option maxHeartbeats 400000 in
theorem upper_any (c : Int) (w : World) :
    Calls Tryd.prog 20 #[.int .u8 c] w fun e w' => e = .returned (.bool (upB c)) ∧ w = w' := by
  by_cases h1 : 65 ≤ c
  · go_enter Tryd.func20, Tryd.ntmps20
    go_wp2
    go_ret
    exact ⟨by simp [upB, h1], rfl⟩
  · go_enter Tryd.func20, Tryd.ntmps20
    go_wp2
    go_ret
    exact ⟨by have h2 : ¬ 65 ≤ c := by omega
              simp [upB, h2], rfl⟩
set_option maxHeartbeats 400000 in
theorem lexdigit_any (c : Int) (w : World) :
    Calls Tryd.prog 16 #[.int .u8 c] w fun e w' => e = .returned (.bool (digB c)) ∧ w = w' := by
  by_cases h1 : 48 ≤ c
  · go_enter Tryd.func16, Tryd.ntmps16
    go_wp2
    go_ret
    exact ⟨by simp [digB, h1], rfl⟩
  · go_enter Tryd.func16, Tryd.ntmps16
    go_wp2
    go_ret
    exact ⟨by have h2 : ¬ 48 ≤ c := by omega
              simp [digB, h2], rfl⟩

/-- where a byte stands -/
theorem byte_parts (c : Int) : (97 ≤ c ∧ c ≤ 122) ∨ (65 ≤ c ∧ c ≤ 90) ∨ (48 ≤ c ∧ c ≤ 57) ∨ c = 95 ∨ c < 48 ∨ (57 < c ∧ c < 65) ∨ (90 < c ∧ c < 95) ∨ (95 < c ∧ c < 97) ∨ 122 < c := by omega

theorem win_of (c : Int) (u d e : Bool) (h : ¬ (97 ≤ c ∧ c ≤ 122)) (hu : upB c = u) (hd : digB c = d) (he : (c == 95) = e) : winB c = (u || d || e) := by
  have hl : letB c = false := by simp only [letB, Bool.and_eq_false_iff, decide_eq_false_iff_not]; omega
  subst hu hd he
  simp only [winB, lowB, hl, Bool.false_or]; cases upB c <;> cases digB c <;> simp
theorem upB_yes (c : Int) (h1 : 65 ≤ c) (h2 : c ≤ 90) : upB c = true := by simp [upB, h1, h2]
theorem upB_no (c : Int) (h : c < 65 ∨ 90 < c) : upB c = false := by simp only [upB, Bool.and_eq_false_iff, decide_eq_false_iff_not]; omega
theorem digB_yes (c : Int) (h1 : 48 ≤ c) (h2 : c ≤ 57) : digB c = true := by simp [digB, h1, h2]
theorem digB_no (c : Int) (h : c < 48 ∨ 57 < c) : digB c = false := by simp only [digB, Bool.and_eq_false_iff, decide_eq_false_iff_not]; omega
theorem win_let (c : Int) (h1 : 97 ≤ c) (h2 : c ≤ 122) : winB c = true := by simp [winB, lowB, letB, h1, h2]

set_option maxHeartbeats 1000000 in
theorem within_let (c : Int) (w : World) (h1 : 97 ≤ c) (h2 : c ≤ 122) :
    Calls Tryd.prog 15 #[.int .u8 c] w fun e w' => e = .returned (.bool true) ∧ w = w' := by
  go_enter Tryd.func15, Tryd.ntmps15
  go_wp2_with fail
  go_ret
  exact ⟨rfl, rfl⟩
set_option maxHeartbeats 1000000 in
theorem within_low (c : Int) (w : World) (u d e : Bool) (h1 : c < 97) (hu : ∀ wx, Calls Tryd.prog 20 #[.int .u8 c] wx fun e w' => e = .returned (.bool u) ∧ wx = w')
    (hd : ∀ wx, Calls Tryd.prog 16 #[.int .u8 c] wx fun e w' => e = .returned (.bool d) ∧ wx = w') (he : (c == 95) = e) :
    Calls Tryd.prog 15 #[.int .u8 c] w fun e' w' => e' = .returned (.bool (u || d || e)) ∧ w = w' := by
  have HU := Lib.hid hu
  have HD := Lib.hid hd
  clear hu hd
  have g : ¬ 97 ≤ c := by omega
  cases u <;> cases d <;> cases e
  all_goals
    go_enter Tryd.func15, Tryd.ntmps15
    go_wp2_with (first
      | (go_at_call 20; refine (HU.out _).mono ?_; rintro e w' ⟨rfl, rfl⟩)
      | (go_at_call 16; refine (HD.out _).mono ?_; rintro e w' ⟨rfl, rfl⟩))
    go_ret
    exact ⟨rfl, rfl⟩
set_option maxHeartbeats 1000000 in
theorem within_high (c : Int) (w : World) (u d e : Bool) (h1 : 97 ≤ c) (h2 : decide (c ≤ 122) = false) (hu : ∀ wx, Calls Tryd.prog 20 #[.int .u8 c] wx fun e w' => e = .returned (.bool u) ∧ wx = w')
    (hd : ∀ wx, Calls Tryd.prog 16 #[.int .u8 c] wx fun e w' => e = .returned (.bool d) ∧ wx = w') (he : (c == 95) = e) :
    Calls Tryd.prog 15 #[.int .u8 c] w fun e' w' => e' = .returned (.bool (u || d || e)) ∧ w = w' := by
  have HU := Lib.hid hu
  have HD := Lib.hid hd
  clear hu hd
  cases u <;> cases d <;> cases e
  all_goals
    go_enter Tryd.func15, Tryd.ntmps15
    go_wp2_with (first
      | (go_at_call 20; refine (HU.out _).mono ?_; rintro e w' ⟨rfl, rfl⟩)
      | (go_at_call 16; refine (HD.out _).mono ?_; rintro e w' ⟨rfl, rfl⟩))
    go_ret
    exact ⟨rfl, rfl⟩
theorem within_any (c : Int) (w : World) :
    Calls Tryd.prog 15 #[.int .u8 c] w fun e w' => e = .returned (.bool (winB c)) ∧ w = w' := by
  by_cases h1 : 97 ≤ c
  · by_cases h2 : c ≤ 122
    · rw [win_let c h1 h2]; exact within_let c w h1 h2
    · rw [win_of c _ _ _ (by omega) rfl rfl rfl]
      exact within_high c w _ _ _ h1 (by rw [decide_eq_false_iff_not]; exact h2) (upper_any c) (lexdigit_any c) rfl
  · rw [win_of c _ _ _ (by omega) rfl rfl rfl]
    exact within_low c w _ _ _ (by omega) (upper_any c) (lexdigit_any c) rfl

set_option maxHeartbeats 2000000 in
theorem refin_any (c : Int) (w : World) :
    Calls Tryd.prog 18 #[.int .u8 c] w fun e w' => e = .returned (.bool (winB c)) ∧ w = w' := by
  rcases byte_parts c with ⟨a, b⟩ | ⟨a, b⟩ | ⟨a, b⟩ | a | a | ⟨a, b⟩ | ⟨a, b⟩ | ⟨a, b⟩ | a
  · rw [win_let c a b]
    go_enter Tryd.func18, Tryd.ntmps18
    go_wp2_with fail
    go_ret
    exact ⟨rfl, rfl⟩
  · rw [win_of c _ _ _ (by omega) (upB_yes c a b) rfl rfl]
    have g : ¬ 97 ≤ c := by omega
    go_enter Tryd.func18, Tryd.ntmps18
    go_wp2_with fail
    go_ret
    exact ⟨by simp, rfl⟩
  · rw [win_of c _ _ _ (by omega) rfl (digB_yes c a b) rfl]
    have g : ¬ 97 ≤ c := by omega
    have g2 : ¬ 65 ≤ c := by omega
    go_enter Tryd.func18, Tryd.ntmps18
    go_wp2_with fail
    go_ret
    exact ⟨by simp, rfl⟩
  · have e : (c == 95) = true := by rw [beq_iff_eq]; exact a
    rw [win_of c _ _ _ (by omega) rfl rfl e]
    have g : ¬ 97 ≤ c := by omega
    have g2 : 65 ≤ c := by omega
    have g3 : decide (c ≤ 90) = false := by rw [decide_eq_false_iff_not]; omega
    have g4 : 48 ≤ c := by omega
    have g5 : decide (c ≤ 57) = false := by rw [decide_eq_false_iff_not]; omega
    clear a
    go_enter Tryd.func18, Tryd.ntmps18
    go_wp2_with fail
    go_ret
    exact ⟨by simp, rfl⟩
  · have e : (c == 95) = false := by rw [beq_eq_false_iff_ne]; omega
    rw [win_of c _ _ _ (by omega) (upB_no c (by omega)) (digB_no c (by omega)) e]
    have g : ¬ 97 ≤ c := by omega
    have g2 : ¬ 65 ≤ c := by omega
    have g4 : ¬ 48 ≤ c := by omega
    go_enter Tryd.func18, Tryd.ntmps18
    go_wp2_with fail
    go_ret
    exact ⟨rfl, rfl⟩
  · have e : (c == 95) = false := by rw [beq_eq_false_iff_ne]; omega
    rw [win_of c _ _ _ (by omega) (upB_no c (by omega)) (digB_no c (by omega)) e]
    have g : ¬ 97 ≤ c := by omega
    have g2 : ¬ 65 ≤ c := by omega
    have g4 : 48 ≤ c := by omega
    have g5 : decide (c ≤ 57) = false := by rw [decide_eq_false_iff_not]; omega
    go_enter Tryd.func18, Tryd.ntmps18
    go_wp2_with fail
    go_ret
    exact ⟨rfl, rfl⟩
  · have e : (c == 95) = false := by rw [beq_eq_false_iff_ne]; omega
    rw [win_of c _ _ _ (by omega) (upB_no c (by omega)) (digB_no c (by omega)) e]
    have g : ¬ 97 ≤ c := by omega
    have g2 : 65 ≤ c := by omega
    have g3 : decide (c ≤ 90) = false := by rw [decide_eq_false_iff_not]; omega
    have g4 : 48 ≤ c := by omega
    have g5 : decide (c ≤ 57) = false := by rw [decide_eq_false_iff_not]; omega
    go_enter Tryd.func18, Tryd.ntmps18
    go_wp2_with fail
    go_ret
    exact ⟨rfl, rfl⟩
  · have e : (c == 95) = false := by rw [beq_eq_false_iff_ne]; omega
    rw [win_of c _ _ _ (by omega) (upB_no c (by omega)) (digB_no c (by omega)) e]
    have g : ¬ 97 ≤ c := by omega
    have g2 : 65 ≤ c := by omega
    have g3 : decide (c ≤ 90) = false := by rw [decide_eq_false_iff_not]; omega
    have g4 : 48 ≤ c := by omega
    have g5 : decide (c ≤ 57) = false := by rw [decide_eq_false_iff_not]; omega
    go_enter Tryd.func18, Tryd.ntmps18
    go_wp2_with fail
    go_ret
    exact ⟨rfl, rfl⟩
  · have e : (c == 95) = false := by rw [beq_eq_false_iff_ne]; omega
    rw [win_of c _ _ _ (by omega) (upB_no c (by omega)) (digB_no c (by omega)) e]
    have g : 97 ≤ c := by omega
    have g1 : decide (c ≤ 122) = false := by rw [decide_eq_false_iff_not]; omega
    have g2 : 65 ≤ c := by omega
    have g3 : decide (c ≤ 90) = false := by rw [decide_eq_false_iff_not]; omega
    have g4 : 48 ≤ c := by omega
    have g5 : decide (c ≤ 57) = false := by rw [decide_eq_false_iff_not]; omega
    go_enter Tryd.func18, Tryd.ntmps18
    go_wp2_with fail
    go_ret
    exact ⟨rfl, rfl⟩
end Go.Proofs.YtpkccmceobonnaaDoor

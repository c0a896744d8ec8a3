/-
  Contracts: value.letter, value.digit, value.word.
-/
import Derived.Test.YtooiaadnhglifaaDoorRows
import Derived.WalkKit
import Derived.WalkSpells
import Derived.WalkLawsBesides
import Derived.BigQuiet
import Derived.Deep.QuietTactic
import Derived.Lib.Hide
namespace Go.Proofs.YtooiaadnhglifaaDoor.Nm
open Go.RowKit

def letB (c : Int) : Bool := decide (97 ≤ c) && decide (c ≤ 122)
def digB (c : Int) : Bool := decide (48 ≤ c) && decide (c ≤ 57)
def wordB (s : ByteArray) : Bool := s.toList == [110, 111, 116] || s.toList == [115, 97, 121, 115]

set_option maxHeartbeats 400000 in
theorem letter_any (c : Int) (w : World) :
    Calls Tryd.prog 70 #[.int .u8 c] w fun e w' => e = .returned (.bool (letB c)) ∧ w = w' := by
  by_cases h1 : 97 ≤ c
  · go_enter Tryd.func70, Tryd.ntmps70
    go_wp2
    go_ret
    exact ⟨by simp [letB, h1], rfl⟩
  · go_enter Tryd.func70, Tryd.ntmps70
    go_wp2
    go_ret
    exact ⟨by have h2 : ¬ 97 ≤ c := by omega
              simp [letB, h2], rfl⟩

set_option maxHeartbeats 400000 in
theorem digit_any (c : Int) (w : World) :
    Calls Tryd.prog 71 #[.int .u8 c] w fun e w' => e = .returned (.bool (digB c)) ∧ w = w' := by
  by_cases h1 : 48 ≤ c
  · go_enter Tryd.func71, Tryd.ntmps71
    go_wp2
    go_ret
    exact ⟨by simp [digB, h1], rfl⟩
  · go_enter Tryd.func71, Tryd.ntmps71
    go_wp2
    go_ret
    exact ⟨by have h2 : ¬ 48 ≤ c := by omega
              simp [digB, h2], rfl⟩

set_option maxHeartbeats 400000 in
theorem word_any (s : ByteArray) (w : World) :
    Calls Tryd.prog 69 #[.string s] w fun e w' => e = .returned (.bool (wordB s)) ∧ w = w' := by
  go_enter Tryd.func69, Tryd.ntmps69
  go_wp2
  · go_ret
    exact ⟨by simp [wordB, *], rfl⟩
  · go_ret
    exact ⟨rfl, rfl⟩

def lowB (c : Int) : Bool := letB c || digB c || c == 95
def hdB (s : ByteArray) : Int := (s.data.toList.headD 0).toNat
def AllTo (s : ByteArray) (k : Nat) : Prop := ∀ c ∈ s.data.toList.take k, lowB (c.toNat : Int) = true
def allB (s : ByteArray) : Bool := s.data.toList.all fun c => lowB (c.toNat : Int)
/-- WHAT A NAME IS. -/
def nameB (s : ByteArray) : Bool := !s.toList.isEmpty && decide (s.size ≤ 16) && !wordB s && letB (hdB s) && allB s

theorem take_snoc' (s : ByteArray) (k : Nat) (h : k < s.size) : s.data.toList.take (k + 1) = s.data.toList.take k ++ [s[k]] := by
  rw [List.take_succ_eq_append_getElem (by simpa using h)]; rfl
theorem allTo_snoc (s : ByteArray) (k : Nat) (h : k < s.size) (a : AllTo s k) (b : lowB (s[k].toNat : Int) = true) : AllTo s (k + 1) := by
  unfold AllTo at *
  rw [take_snoc' s k h]
  intro c hc
  rcases List.mem_append.1 hc with hc | hc
  · exact a c hc
  · simp at hc; subst hc; exact b
theorem allTo_size (s : ByteArray) (a : AllTo s s.size) : allB s = true := by
  unfold AllTo at a; unfold allB
  rw [List.take_of_length_le (by simp)] at a
  exact List.all_eq_true.2 a
theorem all_no (s : ByteArray) (k : Nat) (h : k < s.size) (b : lowB (s[k].toNat : Int) = false) : allB s = false := by
  unfold allB
  rw [Bool.eq_false_iff]
  intro hh
  have := List.all_eq_true.1 hh s[k] (List.getElem_mem (l := s.data.toList) (by simpa using h))
  rw [b] at this; cases this
theorem hd_eq (s : ByteArray) (h : 0 < s.size) : (s[0].toNat : Int) = hdB s := by
  obtain ⟨⟨l⟩⟩ := s
  match l, h with
  | c :: r, _ => rfl
theorem npos_of (s : ByteArray) (h : s.toList.isEmpty = false) : 0 < s.size := by
  rw [ByteArray.toList_eq] at h
  obtain ⟨⟨l⟩⟩ := s
  match l, h with
  | c :: r, _ => exact Nat.succ_pos _

set_option maxHeartbeats 400000 in
theorem name_first (s : ByteArray) (w : World) (hs : s.size ≤ maxLen) (h : s.toList.isEmpty = true ∨ 16 < s.size ∨ wordB s = true) :
    Calls Tryd.prog 58 #[.string s] w fun e w' => e = .returned (.bool false) ∧ w = w' := by
  unfold maxLen at hs
  by_cases h0 : s.toList.isEmpty = true
  · go_enter Tryd.func58, Tryd.ntmps58
    go_wp2_with fail
    go_ret
    exact ⟨rfl, rfl⟩
  · have h0 : s.toList.isEmpty = false := by simpa using h0
    have hp := npos_of s h0
    by_cases h1 : 16 < s.size
    · go_enter Tryd.func58, Tryd.ntmps58
      go_wp2_with fail
      go_ret
      exact ⟨rfl, rfl⟩
    · have hw : wordB s = true := by rcases h with h | h | h <;> simp_all
      clear h
      go_enter Tryd.func58, Tryd.ntmps58
      go_wp2_with (go_at_call 69; refine (word_any _ _).mono ?_; rintro e w' ⟨rfl, rfl⟩)
      go_ret
      exact ⟨rfl, rfl⟩

set_option maxHeartbeats 400000 in
theorem name_head (s : ByteArray) (w : World) (hs : s.size ≤ maxLen) (h0 : s.toList.isEmpty = false) (h1 : s.size ≤ 16) (hw : wordB s = false) (hl : letB (hdB s) = false) :
    Calls Tryd.prog 58 #[.string s] w fun e w' => e = .returned (.bool false) ∧ w = w' := by
  unfold maxLen at hs
  have hp := npos_of s h0
  rw [← hd_eq s hp] at hl
  go_enter Tryd.func58, Tryd.ntmps58
  go_wp2_with (first
    | (go_at_call 69; refine (word_any _ _).mono ?_; rintro e w' ⟨rfl, rfl⟩)
    | (go_at_call 70; refine (letter_any _ _).mono ?_; rintro e w' ⟨rfl, rfl⟩))
  go_ret
  exact ⟨rfl, rfl⟩

set_option maxHeartbeats 1000000 in
theorem name_loop (s : ByteArray) (w : World) (hs : s.size ≤ maxLen) (h0 : s.toList.isEmpty = false) (h1 : s.size ≤ 16) (hw : wordB s = false) (hl : letB (hdB s) = true) :
    Calls Tryd.prog 58 #[.string s] w fun e w' => e = .returned (.bool (allB s)) ∧ w = w' := by
  unfold maxLen at hs
  have hp := npos_of s h0
  rw [← hd_eq s hp] at hl
  go_enter Tryd.func58, Tryd.ntmps58
  go_wp2_with (first
    | (go_at_call 69; refine (word_any _ _).mono ?_; rintro e w' ⟨rfl, rfl⟩)
    | (go_at_call 70; refine (letter_any _ _).mono ?_; rintro e w' ⟨rfl, rfl⟩))
  go_loop [24] (fun i => ∃ k : Nat, k ≤ s.size ∧ i = .int .i64 k ∧ AllTo s k) (fun i => s.size - (intOf i).toNat)
  case atStart => exact ⟨0, Nat.zero_le _, rfl, by unfold AllTo; simp⟩
  case round =>
    obtain ⟨k, hk, rfl, ha⟩ := hrel
    have HA := Lib.hid ha
    clear ha
    by_cases hlt : k < s.size
    · by_cases hc : letB (s[k].toNat : Int) = true
      · go_wp2_with (go_at_call 70; refine (letter_any _ _).mono ?_; rintro e w' ⟨rfl, rfl⟩)
        go_round
        case rel => exact ⟨k + 1, by omega, by go_num, allTo_snoc s k hlt HA.out (by simp [lowB, hc])⟩
        case measure => simp [intOf]; omega
      · have hc : letB (s[k].toNat : Int) = false := by simpa using hc
        by_cases hd : digB (s[k].toNat : Int) = true
        · go_wp2_with (first
            | (go_at_call 70; refine (letter_any _ _).mono ?_; rintro e w' ⟨rfl, rfl⟩)
            | (go_at_call 71; refine (digit_any _ _).mono ?_; rintro e w' ⟨rfl, rfl⟩))
          go_round
          case rel => exact ⟨k + 1, by omega, by go_num, allTo_snoc s k hlt HA.out (by simp [lowB, hd])⟩
          case measure => simp [intOf]; omega
        · have hd : digB (s[k].toNat : Int) = false := by simpa using hd
          by_cases hu : (s[k].toNat : Int) = 95
          · have hu1 : ((s[k].toNat : Int) != 95) = false := by simp [hu]
            have HU := Lib.hid hu
            clear hu
            go_wp2_with (first
              | (go_at_call 70; refine (letter_any _ _).mono ?_; rintro e w' ⟨rfl, rfl⟩)
              | (go_at_call 71; refine (digit_any _ _).mono ?_; rintro e w' ⟨rfl, rfl⟩))
            go_round
            case rel => exact ⟨k + 1, by omega, by go_num, allTo_snoc s k hlt HA.out (by simp [lowB, HU.out])⟩
            case measure => simp [intOf]; omega
          · have hu1 : ((s[k].toNat : Int) != 95) = true := by simpa using hu
            have HN := Lib.hid (all_no s k hlt (by simp [lowB, hc, hd, hu]))
            go_wp2_with (first
              | (go_at_call 70; refine (letter_any _ _).mono ?_; rintro e w' ⟨rfl, rfl⟩)
              | (go_at_call 71; refine (digit_any _ _).mono ?_; rintro e w' ⟨rfl, rfl⟩))
            go_ret
            exact ⟨by rw [HN.out]; rfl, rfl⟩
    · go_wp2
      go_ret
      obtain rfl : k = s.size := by omega
      exact ⟨by rw [allTo_size s HA.out]; rfl, rfl⟩

theorem name_any (s : ByteArray) (w : World) (hs : s.size ≤ maxLen) :
    Calls Tryd.prog 58 #[.string s] w fun e w' => e = .returned (.bool (nameB s)) ∧ w = w' := by
  by_cases h : s.toList.isEmpty = true ∨ 16 < s.size ∨ wordB s = true
  · have e : nameB s = false := by
      unfold nameB
      rcases h with h | h | h
      · simp [h]
      · have : ¬ s.size ≤ 16 := by omega
        simp [this]
      · simp [h]
    rw [e]; exact name_first s w hs h
  · simp only [not_or, Bool.not_eq_true, Nat.not_lt] at h
    obtain ⟨h0, h1, h2⟩ := h
    by_cases h3 : letB (hdB s) = true
    · have e : nameB s = allB s := by unfold nameB; simp [h0, h1, h2, h3]
      rw [e]; exact name_loop s w hs h0 h1 h2 h3
    · have h3 : letB (hdB s) = false := by simpa using h3
      have e : nameB s = false := by unfold nameB; simp [h3]
      rw [e]; exact name_head s w hs h0 h1 h2 h3
end Go.Proofs.YtooiaadnhglifaaDoor.Nm

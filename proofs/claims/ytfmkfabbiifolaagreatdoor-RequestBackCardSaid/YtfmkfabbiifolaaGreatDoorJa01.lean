/-
  Joined of: Name, NameR, Good, Shelf.
-/
import Derived.Test.YtfmkfabbiifolaaGreatDoorRows
import Derived.WalkKit
import Derived.WalkSpells
import Derived.WalkLawsBesides
import Derived.BigQuiet
import Derived.Deep.QuietTactic
import Derived.Lib.Hide
import Derived.Shelf.Small.Bits
import Derived.Shelf.Strconv.Itoa0
import Derived.Shelf.Strconv.Itoa1
import Derived.Shelf.LaysM
import Derived.Shelf.Strconv.Itoa2
import Derived.Shelf.Strconv.Itoa3
import Derived.Shelf.Strconv.Itoa4
import Derived.Shelf.Strconv.ParseIntEmpty
import Derived.Shelf.Strconv.Clone
import Derived.Shelf.Strconv.SyntaxError
import Derived.Shelf.LaysC
import Derived.Shelf.Strconv.ToError
import Derived.Shelf.Strconv.Lower
import Derived.Shelf.Strconv.ParseUint10
import Derived.Shelf.Strconv.ParseUint10Empty
import Derived.Shelf.Strconv.ParseUint10Any
import Derived.Shelf.Strconv.ParseInt10
import Derived.Shelf.Strconv.RangeError
import Derived.Shelf.Strconv.ToErrorRange
import Derived.Shelf.Strconv.ParseUintEmpty
import Derived.Shelf.Strconv.ParseUint10b64
import Derived.Shelf.Strconv.ParseUint10b32
import Derived.Shelf.Strconv.ParseUint10b16
import Derived.Shelf.Strconv.ParseUint10b8
import Derived.Shelf.Strconv.ParseUint10At
import Derived.Shelf.Strconv.ParseInt10At64
import Derived.Shelf.Strconv.ParseInt10At32
import Derived.Shelf.Strconv.ParseInt10At16
import Derived.Shelf.Strconv.ParseInt10At8
import Derived.Shelf.Strconv.ParseInt10All
import Derived.Shelf.Strconv.ParseIntPublic10
import Derived.Shelf.Strconv.ErrVarParseInt
import Derived.Test.YtfmkfabbiifolaaGreatDoorProg
set_option linter.unusedVariables false
set_option linter.unusedSimpArgs false
/-
  Contracts: value.letter, value.digit, value.word.
-/
namespace Go.Proofs.YtfmkfabbiifolaaGreatDoor
open Go.RowKit

def letB (c : Int) : Bool := decide (97 ≤ c) && decide (c ≤ 122)
def digB (c : Int) : Bool := decide (48 ≤ c) && decide (c ≤ 57)
def wordB (s : ByteArray) : Bool := s.toList == [110, 111, 116] || s.toList == [115, 97, 121, 115]

set_option maxHeartbeats 400000 in
theorem letter_any (c : Int) (w : World) :
    Calls Tryz.prog 76 #[.int .u8 c] w fun e w' => e = .returned (.bool (letB c)) ∧ w = w' := by
  by_cases h1 : 97 ≤ c
  · go_enter Tryz.func76, Tryz.ntmps76
    go_wp2
    go_ret
    exact ⟨by simp [letB, h1], rfl⟩
  · go_enter Tryz.func76, Tryz.ntmps76
    go_wp2
    go_ret
    exact ⟨by have h2 : ¬ 97 ≤ c := by omega
              simp [letB, h2], rfl⟩

set_option maxHeartbeats 400000 in
theorem digit_any (c : Int) (w : World) :
    Calls Tryz.prog 77 #[.int .u8 c] w fun e w' => e = .returned (.bool (digB c)) ∧ w = w' := by
  by_cases h1 : 48 ≤ c
  · go_enter Tryz.func77, Tryz.ntmps77
    go_wp2
    go_ret
    exact ⟨by simp [digB, h1], rfl⟩
  · go_enter Tryz.func77, Tryz.ntmps77
    go_wp2
    go_ret
    exact ⟨by have h2 : ¬ 48 ≤ c := by omega
              simp [digB, h2], rfl⟩

set_option maxHeartbeats 400000 in
theorem word_any (s : ByteArray) (w : World) :
    Calls Tryz.prog 75 #[.string s] w fun e w' => e = .returned (.bool (wordB s)) ∧ w = w' := by
  go_enter Tryz.func75, Tryz.ntmps75
  go_wp2
  · go_ret
    exact ⟨by simp [wordB, *], rfl⟩
  · go_ret
    exact ⟨rfl, rfl⟩

def lowB (c : Int) : Bool := letB c || digB c || c == 95
def hdB (s : ByteArray) : Int := (s.data.toList.headD 0).toNat
def AllTo (s : ByteArray) (k : Nat) : Prop := ∀ c ∈ s.data.toList.take k, lowB (c.toNat : Int) = true
def allB (s : ByteArray) : Bool := s.data.toList.all fun c => lowB (c.toNat : Int)
/-- WHAT A NAME IS. -/
def nameB (s : ByteArray) : Bool := !s.toList.isEmpty && decide (s.size ≤ 16) && !wordB s && letB (hdB s) && allB s

theorem take_snoc' (s : ByteArray) (k : Nat) (h : k < s.size) : s.data.toList.take (k + 1) = s.data.toList.take k ++ [s[k]] := by
  rw [List.take_succ_eq_append_getElem (by simpa using h)]; rfl
theorem allTo_snoc (s : ByteArray) (k : Nat) (h : k < s.size) (a : AllTo s k) (b : lowB (s[k].toNat : Int) = true) : AllTo s (k + 1) := by
  unfold AllTo at *
  rw [take_snoc' s k h]
  intro c hc
  rcases List.mem_append.1 hc with hc | hc
  · exact a c hc
  · simp at hc; subst hc; exact b
theorem allTo_size (s : ByteArray) (a : AllTo s s.size) : allB s = true := by
  unfold AllTo at a; unfold allB
  rw [List.take_of_length_le (by simp)] at a
  exact List.all_eq_true.2 a
theorem all_no (s : ByteArray) (k : Nat) (h : k < s.size) (b : lowB (s[k].toNat : Int) = false) : allB s = false := by
  unfold allB
  rw [Bool.eq_false_iff]
  intro hh
  have := List.all_eq_true.1 hh s[k] (List.getElem_mem (l := s.data.toList) (by simpa using h))
  rw [b] at this; cases this
theorem hd_eq (s : ByteArray) (h : 0 < s.size) : (s[0].toNat : Int) = hdB s := by
  obtain ⟨⟨l⟩⟩ := s
  match l, h with
  | c :: r, _ => rfl
theorem pos_of_ne (s : ByteArray) (h : s.toList.isEmpty = false) : 0 < s.size := by
  rw [ByteArray.toList_eq] at h
  obtain ⟨⟨l⟩⟩ := s
  match l, h with
  | c :: r, _ => exact Nat.succ_pos _

set_option maxHeartbeats 400000 in
theorem name_first (s : ByteArray) (w : World) (hs : s.size ≤ maxLen) (h : s.toList.isEmpty = true ∨ 16 < s.size ∨ wordB s = true) :
    Calls Tryz.prog 38 #[.string s] w fun e w' => e = .returned (.bool false) ∧ w = w' := by
  unfold maxLen at hs
  by_cases h0 : s.toList.isEmpty = true
  · go_enter Tryz.func38, Tryz.ntmps38
    go_wp2_with fail
    go_ret
    exact ⟨rfl, rfl⟩
  · have h0 : s.toList.isEmpty = false := by simpa using h0
    have hp := pos_of_ne s h0
    by_cases h1 : 16 < s.size
    · go_enter Tryz.func38, Tryz.ntmps38
      go_wp2_with fail
      go_ret
      exact ⟨rfl, rfl⟩
    · have hw : wordB s = true := by rcases h with h | h | h <;> simp_all
      clear h
      go_enter Tryz.func38, Tryz.ntmps38
      go_wp2_with (go_at_call 75; refine (word_any _ _).mono ?_; rintro e w' ⟨rfl, rfl⟩)
      go_ret
      exact ⟨rfl, rfl⟩

set_option maxHeartbeats 400000 in
theorem name_head (s : ByteArray) (w : World) (hs : s.size ≤ maxLen) (h0 : s.toList.isEmpty = false) (h1 : s.size ≤ 16) (hw : wordB s = false) (hl : letB (hdB s) = false) :
    Calls Tryz.prog 38 #[.string s] w fun e w' => e = .returned (.bool false) ∧ w = w' := by
  unfold maxLen at hs
  have hp := pos_of_ne s h0
  rw [← hd_eq s hp] at hl
  go_enter Tryz.func38, Tryz.ntmps38
  go_wp2_with (first
    | (go_at_call 75; refine (word_any _ _).mono ?_; rintro e w' ⟨rfl, rfl⟩)
    | (go_at_call 76; refine (letter_any _ _).mono ?_; rintro e w' ⟨rfl, rfl⟩))
  go_ret
  exact ⟨rfl, rfl⟩

set_option maxHeartbeats 1000000 in
theorem name_loop (s : ByteArray) (w : World) (hs : s.size ≤ maxLen) (h0 : s.toList.isEmpty = false) (h1 : s.size ≤ 16) (hw : wordB s = false) (hl : letB (hdB s) = true) :
    Calls Tryz.prog 38 #[.string s] w fun e w' => e = .returned (.bool (allB s)) ∧ w = w' := by
  unfold maxLen at hs
  have hp := pos_of_ne s h0
  rw [← hd_eq s hp] at hl
  go_enter Tryz.func38, Tryz.ntmps38
  go_wp2_with (first
    | (go_at_call 75; refine (word_any _ _).mono ?_; rintro e w' ⟨rfl, rfl⟩)
    | (go_at_call 76; refine (letter_any _ _).mono ?_; rintro e w' ⟨rfl, rfl⟩))
  go_loop [24] (fun i => ∃ k : Nat, k ≤ s.size ∧ i = .int .i64 k ∧ AllTo s k) (fun i => s.size - (intOf i).toNat)
  case atStart => exact ⟨0, Nat.zero_le _, rfl, by unfold AllTo; simp⟩
  case round =>
    obtain ⟨k, hk, rfl, ha⟩ := hrel
    have HA := Lib.hid ha
    clear ha
    by_cases hlt : k < s.size
    · by_cases hc : letB (s[k].toNat : Int) = true
      · go_wp2_with (go_at_call 76; refine (letter_any _ _).mono ?_; rintro e w' ⟨rfl, rfl⟩)
        go_round
        case rel => exact ⟨k + 1, by omega, by go_num, allTo_snoc s k hlt HA.out (by simp [lowB, hc])⟩
        case measure => simp [intOf]; omega
      · have hc : letB (s[k].toNat : Int) = false := by simpa using hc
        by_cases hd : digB (s[k].toNat : Int) = true
        · go_wp2_with (first
            | (go_at_call 76; refine (letter_any _ _).mono ?_; rintro e w' ⟨rfl, rfl⟩)
            | (go_at_call 77; refine (digit_any _ _).mono ?_; rintro e w' ⟨rfl, rfl⟩))
          go_round
          case rel => exact ⟨k + 1, by omega, by go_num, allTo_snoc s k hlt HA.out (by simp [lowB, hd])⟩
          case measure => simp [intOf]; omega
        · have hd : digB (s[k].toNat : Int) = false := by simpa using hd
          by_cases hu : (s[k].toNat : Int) = 95
          · have hu1 : ((s[k].toNat : Int) != 95) = false := by simp [hu]
            have HU := Lib.hid hu
            clear hu
            go_wp2_with (first
              | (go_at_call 76; refine (letter_any _ _).mono ?_; rintro e w' ⟨rfl, rfl⟩)
              | (go_at_call 77; refine (digit_any _ _).mono ?_; rintro e w' ⟨rfl, rfl⟩))
            go_round
            case rel => exact ⟨k + 1, by omega, by go_num, allTo_snoc s k hlt HA.out (by simp [lowB, HU.out])⟩
            case measure => simp [intOf]; omega
          · have hu1 : ((s[k].toNat : Int) != 95) = true := by simpa using hu
            have HN := Lib.hid (all_no s k hlt (by simp [lowB, hc, hd, hu]))
            go_wp2_with (first
              | (go_at_call 76; refine (letter_any _ _).mono ?_; rintro e w' ⟨rfl, rfl⟩)
              | (go_at_call 77; refine (digit_any _ _).mono ?_; rintro e w' ⟨rfl, rfl⟩))
            go_ret
            exact ⟨by rw [HN.out]; rfl, rfl⟩
    · go_wp2
      go_ret
      obtain rfl : k = s.size := by omega
      exact ⟨by rw [allTo_size s HA.out]; rfl, rfl⟩

theorem name_any (s : ByteArray) (w : World) (hs : s.size ≤ maxLen) :
    Calls Tryz.prog 38 #[.string s] w fun e w' => e = .returned (.bool (nameB s)) ∧ w = w' := by
  by_cases h : s.toList.isEmpty = true ∨ 16 < s.size ∨ wordB s = true
  · have e : nameB s = false := by
      unfold nameB
      rcases h with h | h | h
      · simp [h]
      · have : ¬ s.size ≤ 16 := by omega
        simp [this]
      · simp [h]
    rw [e]; exact name_first s w hs h
  · simp only [not_or, Bool.not_eq_true, Nat.not_lt] at h
    obtain ⟨h0, h1, h2⟩ := h
    by_cases h3 : letB (hdB s) = true
    · have e : nameB s = allB s := by unfold nameB; simp [h0, h1, h2, h3]
      rw [e]; exact name_loop s w hs h0 h1 h2 h3
    · have h3 : letB (hdB s) = false := by simpa using h3
      have e : nameB s = false := by unfold nameB; simp [h3]
      rw [e]; exact name_head s w hs h0 h1 h2 h3
end Go.Proofs.YtfmkfabbiifolaaGreatDoor

/-
  Contracts: the reference's Name answers as nameB says.
-/
namespace Go.Proofs.YtfmkfabbiifolaaGreatDoor
open Go.RowKit

theorem byte_cases (c : Int) : (97 ≤ c ∧ c ≤ 122) ∨ (48 ≤ c ∧ c ≤ 57) ∨ c = 95 ∨ c < 48 ∨ (57 < c ∧ c < 95) ∨ (95 < c ∧ c < 97) ∨ 122 < c := by omega
theorem low_no (c : Int) (h : c < 48 ∨ (57 < c ∧ c < 95) ∨ (95 < c ∧ c < 97) ∨ 122 < c) : lowB c = false := by
  simp only [lowB, letB, digB, Bool.or_eq_false_iff, Bool.and_eq_false_iff, decide_eq_false_iff_not, beq_eq_false_iff_ne]
  omega
theorem sz_ne (s : ByteArray) (h : 0 < s.size) : ((s.size : Int) == 0) = false := by
  rw [beq_eq_false_iff_ne]; omega

theorem refname_first (s : ByteArray) (w : World) (hs : s.size ≤ maxLen) (h : s.toList.isEmpty = true ∨ 16 < s.size ∨ wordB s = true) :
    Calls Tryz.prog 33 #[.string s] w fun e w' => e = .returned (.bool false) ∧ w = w' := by
  unfold maxLen at hs
  by_cases h0 : s.size = 0
  · have h0b : ((s.size : Int) == 0) = true := by simp [h0]
    clear h0
    go_enter Tryz.func33, Tryz.ntmps33
    go_wp2_with fail
    go_ret
    exact ⟨rfl, rfl⟩
  · have h0b : ((s.size : Int) == 0) = false := by simp [h0]
    have h0c : 0 < s.size := by omega
    clear h0
    by_cases h1 : 16 < s.size
    · go_enter Tryz.func33, Tryz.ntmps33
      go_wp2_with fail
      go_ret
      exact ⟨rfl, rfl⟩
    · have hw : wordB s = true := by
        rcases h with h | h | h
        · rw [ByteArray.toList_eq] at h
          obtain ⟨⟨l⟩⟩ := s
          match l, h with
          | [], _ => exact absurd h0c (Nat.lt_irrefl 0)
        · exact absurd h h1
        · exact h
      clear h
      unfold wordB at hw
      by_cases hn : s.toList = [110, 111, 116]
      · have hn1 : (s.toList == [110, 111, 116]) = true := by simp [hn]
        clear hn hw
        go_enter Tryz.func33, Tryz.ntmps33
        go_wp2_with fail
        go_ret
        exact ⟨rfl, rfl⟩
      · have hn1 : (s.toList == [110, 111, 116]) = false := by simp [hn]
        have hn2 : (s.toList == [115, 97, 121, 115]) = true := by rw [hn1] at hw; simpa using hw
        clear hn hw
        go_enter Tryz.func33, Tryz.ntmps33
        go_wp2_with fail
        go_ret
        exact ⟨rfl, rfl⟩

set_option maxHeartbeats 2000000 in
theorem refname_loop (s : ByteArray) (w : World) (hs : s.size ≤ maxLen) (h0 : s.toList.isEmpty = false) (h1 : s.size ≤ 16) (hw : wordB s = false) :
    Calls Tryz.prog 33 #[.string s] w fun e w' => e = .returned (.bool (letB (hdB s) && allB s)) ∧ w = w' := by
  unfold maxLen at hs
  have hp := pos_of_ne s h0
  have h0b := sz_ne s hp
  unfold wordB at hw
  have hn1 : (s.toList == [110, 111, 116]) = false := by rw [Bool.or_eq_false_iff] at hw; exact hw.1
  have hn2 : (s.toList == [115, 97, 121, 115]) = false := by rw [Bool.or_eq_false_iff] at hw; exact hw.2
  clear hw
  go_enter Tryz.func33, Tryz.ntmps33
  go_wp2_with fail
  go_loop [3] (fun i => ∃ k : Nat, k ≤ s.size ∧ i = .int .i64 k ∧ AllTo s k ∧ (0 < k → letB (hdB s) = true)) (fun i => s.size - (intOf i).toNat)
  case atStart => exact ⟨0, Nat.zero_le _, rfl, by unfold AllTo; simp, by omega⟩
  case round =>
    obtain ⟨k, hk, rfl, ha, hb⟩ := hrel
    have HA := Lib.hid ha
    have HB := Lib.hid hb
    clear ha hb
    by_cases hlt : k < s.size
    · by_cases hkz : k = 0
      · subst hkz
        have HE := Lib.hid (hd_eq s hp)
        rcases byte_cases (s[0].toNat : Int) with ⟨l1, l2⟩ | ⟨l1, l2⟩ | l1 | l1 | ⟨l1, l2⟩ | ⟨l1, l2⟩ | l1
        · have HL := Lib.hid (show letB (s[0].toNat : Int) = true by simp [letB, l1, l2])
          go_wp2_with fail
          go_round
          case rel => exact ⟨1, by omega, by go_num, allTo_snoc s 0 hlt HA.out (by simp [lowB, HL.out]), fun _ => by rw [← HE.out]; exact HL.out⟩
          case measure => simp [intOf]; omega
        · have HL := Lib.hid (show letB (hdB s) = false by rw [← HE.out]; simp only [letB, Bool.and_eq_false_iff, decide_eq_false_iff_not]; omega)
          have l1b : ((s[0].toNat : Int) == 95) = false := by simp; omega
          go_wp2_with fail
          go_ret
          exact ⟨by rw [HL.out]; rfl, rfl⟩
        · have HL := Lib.hid (show letB (hdB s) = false by rw [← HE.out]; simp only [letB, Bool.and_eq_false_iff, decide_eq_false_iff_not]; omega)
          have l1b : ((s[0].toNat : Int) == 95) = true := by simp [l1]
          have g1 : (48 : Int) ≤ (s[0].toNat : Int) := by omega
          have g2 : (s[0].toNat : Int) < 97 := by omega
          have g3 : (57 : Int) < (s[0].toNat : Int) := by omega
          clear l1
          go_wp2_with fail
          go_ret
          exact ⟨by rw [HL.out]; rfl, rfl⟩
        · have HL := Lib.hid (show letB (hdB s) = false by rw [← HE.out]; simp only [letB, Bool.and_eq_false_iff, decide_eq_false_iff_not]; omega)
          have l1b : ((s[0].toNat : Int) == 95) = false := by simp; omega
          go_wp2_with fail
          go_ret
          exact ⟨by rw [HL.out]; rfl, rfl⟩
        · have HL := Lib.hid (show letB (hdB s) = false by rw [← HE.out]; simp only [letB, Bool.and_eq_false_iff, decide_eq_false_iff_not]; omega)
          have l1b : ((s[0].toNat : Int) == 95) = false := by simp; omega
          go_wp2_with fail
          go_ret
          exact ⟨by rw [HL.out]; rfl, rfl⟩
        · have HL := Lib.hid (show letB (hdB s) = false by rw [← HE.out]; simp only [letB, Bool.and_eq_false_iff, decide_eq_false_iff_not]; omega)
          have l1b : ((s[0].toNat : Int) == 95) = false := by simp; omega
          go_wp2_with fail
          go_ret
          exact ⟨by rw [HL.out]; rfl, rfl⟩
        · have HL := Lib.hid (show letB (hdB s) = false by rw [← HE.out]; simp only [letB, Bool.and_eq_false_iff, decide_eq_false_iff_not]; omega)
          have l1b : ((s[0].toNat : Int) == 95) = false := by simp; omega
          have l1c : decide ((s[0].toNat : Int) ≤ 122) = false := by rw [decide_eq_false_iff_not]; omega
          go_wp2_with fail
          go_ret
          exact ⟨by rw [HL.out]; rfl, rfl⟩
      · have hkp : 0 < k := by omega
        clear hkz
        have HB2 := Lib.hid (HB.out hkp)
        rcases byte_cases (s[k].toNat : Int) with ⟨l1, l2⟩ | ⟨l1, l2⟩ | l1 | l1 | ⟨l1, l2⟩ | ⟨l1, l2⟩ | l1
        · have HL := Lib.hid (show lowB (s[k].toNat : Int) = true by simp [lowB, letB, l1, l2])
          go_wp2_with fail
          go_round
          case rel => exact ⟨k + 1, by omega, by go_num, allTo_snoc s k hlt HA.out HL.out, fun _ => HB2.out⟩
          case measure => simp [intOf]; omega
        · have HL := Lib.hid (show lowB (s[k].toNat : Int) = true by simp [lowB, digB, l1, l2])
          go_wp2_with fail
          go_round
          case rel => exact ⟨k + 1, by omega, by go_num, allTo_snoc s k hlt HA.out HL.out, fun _ => HB2.out⟩
          case measure => simp [intOf]; omega
        · have HL := Lib.hid (show lowB (s[k].toNat : Int) = true by simp [lowB, l1])
          have l1b : ((s[k].toNat : Int) == 95) = true := by simp [l1]
          have g1 : (48 : Int) ≤ (s[k].toNat : Int) := by omega
          have g2 : (s[k].toNat : Int) < 97 := by omega
          have g3 : (57 : Int) < (s[k].toNat : Int) := by omega
          clear l1
          go_wp2_with fail
          go_round
          case rel => exact ⟨k + 1, by omega, by go_num, allTo_snoc s k hlt HA.out HL.out, fun _ => HB2.out⟩
          case measure => simp [intOf]; omega
        · have HN := Lib.hid (all_no s k hlt (low_no _ (by omega)))
          have l1b : ((s[k].toNat : Int) == 95) = false := by simp; omega
          go_wp2_with fail
          go_ret
          exact ⟨by rw [HN.out, Bool.and_false]; rfl, rfl⟩
        · have HN := Lib.hid (all_no s k hlt (low_no _ (by omega)))
          have l1b : ((s[k].toNat : Int) == 95) = false := by simp; omega
          go_wp2_with fail
          go_ret
          exact ⟨by rw [HN.out, Bool.and_false]; rfl, rfl⟩
        · have HN := Lib.hid (all_no s k hlt (low_no _ (by omega)))
          have l1b : ((s[k].toNat : Int) == 95) = false := by simp; omega
          go_wp2_with fail
          go_ret
          exact ⟨by rw [HN.out, Bool.and_false]; rfl, rfl⟩
        · have HN := Lib.hid (all_no s k hlt (low_no _ (by omega)))
          have l1b : ((s[k].toNat : Int) == 95) = false := by simp; omega
          have l1c : decide ((s[k].toNat : Int) ≤ 122) = false := by rw [decide_eq_false_iff_not]; omega
          go_wp2_with fail
          go_ret
          exact ⟨by rw [HN.out, Bool.and_false]; rfl, rfl⟩
    · go_wp2_with fail
      go_ret
      obtain rfl : k = s.size := by omega
      exact ⟨by rw [allTo_size s HA.out, HB.out hp]; rfl, rfl⟩

theorem refname_any (s : ByteArray) (w : World) (hs : s.size ≤ maxLen) :
    Calls Tryz.prog 33 #[.string s] w fun e w' => e = .returned (.bool (nameB s)) ∧ w = w' := by
  by_cases h : s.toList.isEmpty = true ∨ 16 < s.size ∨ wordB s = true
  · have e : nameB s = false := by
      unfold nameB
      rcases h with h | h | h
      · simp [h]
      · have : ¬ s.size ≤ 16 := by omega
        simp [this]
      · simp [h]
    rw [e]; exact refname_first s w hs h
  · simp only [not_or, Bool.not_eq_true, Nat.not_lt] at h
    obtain ⟨h0, h1, h2⟩ := h
    have e : nameB s = (letB (hdB s) && allB s) := by unfold nameB; simp [h0, h1, h2]
    rw [e]; exact refname_loop s w hs h0 h1 h2
end Go.Proofs.YtfmkfabbiifolaaGreatDoor

/-
  Contracts: value.Good and the reference's Good answer as goodB says.
-/
namespace Go.Proofs.YtfmkfabbiifolaaGreatDoor
open Go.RowKit

def goodB (s : ByteArray) (n : Int) : Bool := s.toList.isEmpty || (n == 0 && nameB s)

theorem bcell {W w1 : World} (hb : Below W.heap.size W w1) : (∀ b o, b < W.heap.size → w1.cell? ⟨b, o, none⟩ = W.cell? ⟨b, o, none⟩) ∧ (∀ b o, b < W.heap.size → w1.frozen? ⟨b, o, none⟩ = W.frozen? ⟨b, o, none⟩) :=
  ⟨fun b o h => hb.cell (p := ⟨b, o, none⟩) h, fun b o h => hb.frozen (p := ⟨b, o, none⟩) h⟩

theorem sz_eq (s : ByteArray) : ((s.size : Int) == 0) = s.toList.isEmpty := by
  rw [ByteArray.toList_eq]
  obtain ⟨⟨l⟩⟩ := s
  cases l with
  | nil => rfl
  | cons c r =>
    show (((r.length + 1 : Nat) : Int) == 0) = false
    rw [beq_eq_false_iff_ne]; omega

end Go.Proofs.YtfmkfabbiifolaaGreatDoor

/-
  DERIVED: THE SHELF's CONTRACTS AT THIS DUMP, IN PLAIN WORDS (tools/lay-plain.mjs out of 'YtfmkfabbiifolaaGreatDoorShelf.lean', which tools/lay-shelf.mjs wrote): THE SAME DECLARATIONS UNDER THE SAME NAMES: 'import', 'namespace', 'open', 'def', 'theorem' AND NOTHING ELSE: no command of the shelf's: FOR A HAND-IN. Each laying: the table of numbers ('.._ren') and one theorem, a field a fact of the dump's own or the kernel's comparison; each contract: ONE APPLICATION.
-/
namespace Go.Proofs
open Go.Shelf
def Tryz.laysM173_ren : Go.Shelf.Ren := ⟨fun | 173 => 96 | 246 => 123 | 283 => 136 | 284 => 137 | 285 => 138 | 286 => 139 | 129 => 151 | 317 => 150 | 318 => 152 | 319 => 153 | 320 => 154 | 337 => 160 | 338 => 161 | n => n, fun | 2 => 2 | 3 => 3 | 9 => 9 | 4 => 4 | 171 => 155 | 0 => 0 | 53 => 156 | 37 => 111 | 5 => 5 | 173 => 159 | 212 => 171 | 51 => 172 | 20 => 20 | 213 => 173 | 46 => 165 | 232 => 185 | 233 => 186 | n => n, fun | 17 => 1 | 18 => 4 | 19 => 5 | n => n⟩
theorem Tryz.laysM173 : Go.Proofs.LaysM.n173 Tryz.prog Tryz.laysM173_ren := {
  mixed := by kernel_rfl
  f129 := Tryz.func151.trans (congrArg some (by kernel_rfl))
  f173 := Tryz.func96.trans (congrArg some (by kernel_rfl))
  f246 := Tryz.func123.trans (congrArg some (by kernel_rfl))
  f283 := Tryz.func136.trans (congrArg some (by kernel_rfl))
  f284 := Tryz.func137.trans (congrArg some (by kernel_rfl))
  f285 := Tryz.func138.trans (congrArg some (by kernel_rfl))
  f286 := Tryz.func139.trans (congrArg some (by kernel_rfl))
  f317 := Tryz.func150.trans (congrArg some (by kernel_rfl))
  f318 := Tryz.func152.trans (congrArg some (by kernel_rfl))
  f319 := Tryz.func153.trans (congrArg some (by kernel_rfl))
  f320 := Tryz.func154.trans (congrArg some (by kernel_rfl))
  f337 := Tryz.func160.trans (congrArg some (by kernel_rfl))
  f338 := Tryz.func161.trans (congrArg some (by kernel_rfl))
  t0 := Tryz.underlying0
  a0 := Tryz.isAgg0
  z0 := Tryz.sizeOf0
  v0 := Tryz.zeroValue0
  t2 := Tryz.underlying2
  a2 := Tryz.isAgg2
  z2 := Tryz.sizeOf2
  v2 := Tryz.zeroValue2
  t3 := Tryz.underlying3
  a3 := Tryz.isAgg3
  z3 := Tryz.sizeOf3
  v3 := Tryz.zeroValue3
  t4 := Tryz.underlying4
  a4 := Tryz.isAgg4
  z4 := Tryz.sizeOf4
  v4 := Tryz.zeroValue4
  t5 := Tryz.underlying5
  a5 := Tryz.isAgg5
  z5 := Tryz.sizeOf5
  v5 := Tryz.zeroValue5
  t9 := Tryz.underlying9
  a9 := Tryz.isAgg9
  z9 := Tryz.sizeOf9
  v9 := Tryz.zeroValue9
  t20 := Tryz.underlying20
  a20 := Tryz.isAgg20
  z20 := Tryz.sizeOf20
  v20 := Tryz.zeroValue20
  t37 := Tryz.underlying111
  a37 := Tryz.isAgg111
  z37 := Tryz.sizeOf111
  v37 := Tryz.zeroValue111
  t46 := Tryz.underlying165
  a46 := Tryz.isAgg165
  z46 := Tryz.sizeOf165
  v46 := Tryz.zeroValue165
  t51 := Tryz.underlying172
  a51 := Tryz.isAgg172
  z51 := Tryz.sizeOf172
  v51 := Tryz.zeroValue172
  t53 := Tryz.underlying156
  a53 := Tryz.isAgg156
  z53 := Tryz.sizeOf156
  v53 := Tryz.zeroValue156
  t171 := Tryz.underlying155
  a171 := Tryz.isAgg155
  z171 := Tryz.sizeOf155
  v171 := Tryz.zeroValue155
  t173 := Tryz.underlying159
  a173 := Tryz.isAgg159
  z173 := Tryz.sizeOf159
  v173 := Tryz.zeroValue159
  t212 := Tryz.underlying171
  a212 := Tryz.isAgg171
  z212 := Tryz.sizeOf171
  v212 := Tryz.zeroValue171
  t213 := Tryz.underlying173
  a213 := Tryz.isAgg173
  z213 := Tryz.sizeOf173
  t232 := Tryz.underlying185
  a232 := Tryz.isAgg185
  z232 := Tryz.sizeOf185
  v232 := Tryz.zeroValue185
  t233 := Tryz.underlying186
  a233 := Tryz.isAgg186
  z233 := Tryz.sizeOf186
  v233 := Tryz.zeroValue186
  g17 := by kernel_rfl
  g18 := by kernel_rfl
  g19 := by kernel_rfl
  i0 := by kernel_rfl
  i2 := by kernel_rfl
  i3 := by kernel_rfl
  i4 := by kernel_rfl
  i5 := by kernel_rfl
  i9 := by kernel_rfl
  i20 := by kernel_rfl
  i37 := by kernel_rfl
  i46 := by kernel_rfl
  i51 := by kernel_rfl
  i53 := by kernel_rfl
  i171 := by kernel_rfl
  i173 := by kernel_rfl
  i212 := by kernel_rfl
  i232 := by kernel_rfl
  i233 := by kernel_rfl
  m17 := by kernel_rfl
  m18 := by kernel_rfl
  m19 := by kernel_rfl }
def Tryz.laysC174_ren : Go.Shelf.Ren := ⟨fun | 174 => 116 | 247 => 134 | 245 => 135 | 287 => 145 | 279 => 146 | 280 => 147 | 281 => 148 | 282 => 149 | 321 => 155 | 322 => 156 | 316 => 157 | 171 => 159 | 205 => 158 | 243 => 162 | 246 => 123 | 283 => 136 | 284 => 137 | 285 => 138 | 286 => 139 | 129 => 151 | 317 => 150 | 318 => 152 | 319 => 153 | 320 => 154 | 337 => 160 | 338 => 161 | n => n, fun | 9 => 9 | 3 => 3 | 2 => 2 | 75 => 115 | 85 => 145 | 4 => 4 | 167 => 162 | 5 => 5 | 53 => 156 | 175 => 163 | 46 => 165 | 168 => 166 | 37 => 111 | 0 => 0 | 210 => 179 | 21 => 21 | 127 => 134 | 145 => 184 | 143 => 182 | 171 => 155 | 173 => 159 | 212 => 171 | 51 => 172 | 20 => 20 | 213 => 173 | 232 => 185 | 233 => 186 | 80 => 60 | n => n, fun | 15 => 2 | 16 => 3 | 17 => 1 | 18 => 4 | 19 => 5 | n => n⟩
theorem Tryz.laysC174 : Go.Proofs.LaysC.n174 Tryz.prog Tryz.laysC174_ren := {
  mixed := by kernel_rfl
  f129 := Tryz.func151.trans (congrArg some (by kernel_rfl))
  f171 := Tryz.func159.trans (congrArg some (by kernel_rfl))
  f174 := Tryz.func116.trans (congrArg some (by kernel_rfl))
  f205 := Tryz.func158.trans (congrArg some (by kernel_rfl))
  f243 := Tryz.func162.trans (congrArg some (by kernel_rfl))
  f245 := Tryz.func135.trans (congrArg some (by kernel_rfl))
  f246 := Tryz.func123.trans (congrArg some (by kernel_rfl))
  f247 := Tryz.func134.trans (congrArg some (by kernel_rfl))
  f279 := Tryz.func146.trans (congrArg some (by kernel_rfl))
  f280 := Tryz.func147.trans (congrArg some (by kernel_rfl))
  f281 := Tryz.func148.trans (congrArg some (by kernel_rfl))
  f282 := Tryz.func149.trans (congrArg some (by kernel_rfl))
  f283 := Tryz.func136.trans (congrArg some (by kernel_rfl))
  f284 := Tryz.func137.trans (congrArg some (by kernel_rfl))
  f285 := Tryz.func138.trans (congrArg some (by kernel_rfl))
  f286 := Tryz.func139.trans (congrArg some (by kernel_rfl))
  f287 := Tryz.func145.trans (congrArg some (by kernel_rfl))
  f316 := Tryz.func157.trans (congrArg some (by kernel_rfl))
  f317 := Tryz.func150.trans (congrArg some (by kernel_rfl))
  f318 := Tryz.func152.trans (congrArg some (by kernel_rfl))
  f319 := Tryz.func153.trans (congrArg some (by kernel_rfl))
  f320 := Tryz.func154.trans (congrArg some (by kernel_rfl))
  f321 := Tryz.func155.trans (congrArg some (by kernel_rfl))
  f322 := Tryz.func156.trans (congrArg some (by kernel_rfl))
  f337 := Tryz.func160.trans (congrArg some (by kernel_rfl))
  f338 := Tryz.func161.trans (congrArg some (by kernel_rfl))
  t0 := Tryz.underlying0
  a0 := Tryz.isAgg0
  z0 := Tryz.sizeOf0
  v0 := Tryz.zeroValue0
  t2 := Tryz.underlying2
  a2 := Tryz.isAgg2
  z2 := Tryz.sizeOf2
  v2 := Tryz.zeroValue2
  t3 := Tryz.underlying3
  a3 := Tryz.isAgg3
  z3 := Tryz.sizeOf3
  v3 := Tryz.zeroValue3
  t4 := Tryz.underlying4
  a4 := Tryz.isAgg4
  z4 := Tryz.sizeOf4
  v4 := Tryz.zeroValue4
  t5 := Tryz.underlying5
  a5 := Tryz.isAgg5
  z5 := Tryz.sizeOf5
  v5 := Tryz.zeroValue5
  t9 := Tryz.underlying9
  a9 := Tryz.isAgg9
  z9 := Tryz.sizeOf9
  v9 := Tryz.zeroValue9
  t20 := Tryz.underlying20
  a20 := Tryz.isAgg20
  z20 := Tryz.sizeOf20
  v20 := Tryz.zeroValue20
  t21 := Tryz.underlying21
  a21 := Tryz.isAgg21
  z21 := Tryz.sizeOf21
  v21 := Tryz.zeroValue21
  t37 := Tryz.underlying111
  a37 := Tryz.isAgg111
  z37 := Tryz.sizeOf111
  v37 := Tryz.zeroValue111
  t46 := Tryz.underlying165
  a46 := Tryz.isAgg165
  z46 := Tryz.sizeOf165
  v46 := Tryz.zeroValue165
  t51 := Tryz.underlying172
  a51 := Tryz.isAgg172
  z51 := Tryz.sizeOf172
  v51 := Tryz.zeroValue172
  t53 := Tryz.underlying156
  a53 := Tryz.isAgg156
  z53 := Tryz.sizeOf156
  v53 := Tryz.zeroValue156
  t75 := Tryz.underlying115
  a75 := Tryz.isAgg115
  z75 := Tryz.sizeOf115
  v75 := Tryz.zeroValue115
  t85 := Tryz.underlying145
  a85 := Tryz.isAgg145
  z85 := Tryz.sizeOf145
  v85 := Tryz.zeroValue145
  t127 := Tryz.underlying134
  a127 := Tryz.isAgg134
  z127 := Tryz.sizeOf134
  v127 := Tryz.zeroValue134
  t143 := Tryz.underlying182
  a143 := Tryz.isAgg182
  z143 := Tryz.sizeOf182
  v143 := Tryz.zeroValue182
  t145 := Tryz.underlying184
  a145 := Tryz.isAgg184
  z145 := Tryz.sizeOf184
  v145 := Tryz.zeroValue184
  t167 := Tryz.underlying162
  a167 := Tryz.isAgg162
  z167 := Tryz.sizeOf162
  v167 := Tryz.zeroValue162
  t168 := Tryz.underlying166
  a168 := Tryz.isAgg166
  z168 := Tryz.sizeOf166
  v168 := Tryz.zeroValue166
  t171 := Tryz.underlying155
  a171 := Tryz.isAgg155
  z171 := Tryz.sizeOf155
  v171 := Tryz.zeroValue155
  t173 := Tryz.underlying159
  a173 := Tryz.isAgg159
  z173 := Tryz.sizeOf159
  v173 := Tryz.zeroValue159
  t175 := Tryz.underlying163
  a175 := Tryz.isAgg163
  z175 := Tryz.sizeOf163
  v175 := Tryz.zeroValue163
  t210 := Tryz.underlying179
  a210 := Tryz.isAgg179
  z210 := Tryz.sizeOf179
  v210 := Tryz.zeroValue179
  t212 := Tryz.underlying171
  a212 := Tryz.isAgg171
  z212 := Tryz.sizeOf171
  v212 := Tryz.zeroValue171
  t213 := Tryz.underlying173
  a213 := Tryz.isAgg173
  z213 := Tryz.sizeOf173
  t232 := Tryz.underlying185
  a232 := Tryz.isAgg185
  z232 := Tryz.sizeOf185
  v232 := Tryz.zeroValue185
  t233 := Tryz.underlying186
  a233 := Tryz.isAgg186
  z233 := Tryz.sizeOf186
  v233 := Tryz.zeroValue186
  g15 := by kernel_rfl
  g16 := by kernel_rfl
  g17 := by kernel_rfl
  g18 := by kernel_rfl
  g19 := by kernel_rfl
  t80 := Tryz.underlying60
  a80 := Tryz.isAgg60
  z80 := Tryz.sizeOf60
  v80 := Tryz.zeroValue60
  i0 := by kernel_rfl
  i2 := by kernel_rfl
  i3 := by kernel_rfl
  i4 := by kernel_rfl
  i5 := by kernel_rfl
  i9 := by kernel_rfl
  i20 := by kernel_rfl
  i21 := by kernel_rfl
  i37 := by kernel_rfl
  i46 := by kernel_rfl
  i51 := by kernel_rfl
  i53 := by kernel_rfl
  i75 := by kernel_rfl
  i80 := by kernel_rfl
  i85 := by kernel_rfl
  i127 := by kernel_rfl
  i143 := by kernel_rfl
  i145 := by kernel_rfl
  i167 := by kernel_rfl
  i168 := by kernel_rfl
  i171 := by kernel_rfl
  i173 := by kernel_rfl
  i175 := by kernel_rfl
  i210 := by kernel_rfl
  i212 := by kernel_rfl
  i232 := by kernel_rfl
  i233 := by kernel_rfl
  m15 := by kernel_rfl
  m16 := by kernel_rfl
  m17 := by kernel_rfl
  m18 := by kernel_rfl
  m19 := by kernel_rfl
  c0 := by kernel_rfl
  c2 := by kernel_rfl
  c3 := by kernel_rfl
  c4 := by kernel_rfl
  c5 := by kernel_rfl
  c9 := by kernel_rfl
  c20 := by kernel_rfl
  c21 := by kernel_rfl
  c37 := by kernel_rfl
  c46 := by kernel_rfl
  c51 := by kernel_rfl
  c53 := by kernel_rfl
  c75 := by kernel_rfl
  c80 := by kernel_rfl
  c85 := by kernel_rfl
  c127 := by kernel_rfl
  c143 := by kernel_rfl
  c145 := by kernel_rfl
  c167 := by kernel_rfl
  c168 := by kernel_rfl
  c171 := by kernel_rfl
  c173 := by kernel_rfl
  c175 := by kernel_rfl
  c210 := by kernel_rfl
  c212 := by kernel_rfl
  c213 := by kernel_rfl
  c232 := by kernel_rfl
  c233 := by kernel_rfl }
open Go.RowKit Go.Sort Go.Lib in
/-- strconv.FormatInt: "FormatInt returns the string representation of i in the given base": AT BASE 10: i's decimal numeral, for every int64. (LAID: no walk: one application.) -/
theorem Tryz.strconv_FormatInt_10 (n : Int) (h0 : -9223372036854775808 ≤ n) (h1 : n ≤ 9223372036854775807) (w : World) (htab : Lib.TabIs Tryz.prog w "internal/strconv.uint64pow10" .u64 Lib.pow10Tab) :
    Calls Tryz.prog 96 #[.int .i64 n, .int .i64 10] w fun e w' => e = .returned (.string ⟨(Lib.itoa n).toArray⟩) ∧ ∃ k os, w' = grow (w.drewN k) os := Any.strconv_FormatInt_10 Tryz.laysM173 n h0 h1 w htab
open Go.RowKit in
/-- strconv.ParseInt(s, 10, 64), AT EVERY STRING THAT SPELLS AN int64 ('Lib.parseIntB 64 s.data.toList = .ok v'): v, AND NO ERROR. (LAID: no walk: one application.) -/
theorem Tryz.strconv_ParseInt_10_at64_ok (s : ByteArray) (hmax : s.size ≤ 9223372036854775806) (v : Int) (h : Lib.parseIntB 64 s.data.toList = .ok v) (w : World) :
    Calls Tryz.prog 116 #[.string s, .int .i64 10, .int .i64 64] w fun e w' => e = .returned (.tuple #[.int .i64 v, .nilIface]) ∧ (w' = w ∨ ∃ t, w' = Lib.bytesWorld w 5 t) := Any.strconv_ParseInt_10_at64_ok Tryz.laysC174 s hmax v h w
end Go.Proofs

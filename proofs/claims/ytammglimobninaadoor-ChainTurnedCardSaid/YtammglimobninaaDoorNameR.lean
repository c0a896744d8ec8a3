/-
  Contracts: the reference's Name answers as nameB says.
-/
import Derived.Test.YtammglimobninaaDoorName
namespace Go.Proofs.YtammglimobninaaDoor.Nm
open Go.RowKit

theorem byte_cases (c : Int) : (97 ≤ c ∧ c ≤ 122) ∨ (48 ≤ c ∧ c ≤ 57) ∨ c = 95 ∨ c < 48 ∨ (57 < c ∧ c < 95) ∨ (95 < c ∧ c < 97) ∨ 122 < c := by omega
theorem low_no (c : Int) (h : c < 48 ∨ (57 < c ∧ c < 95) ∨ (95 < c ∧ c < 97) ∨ 122 < c) : lowB c = false := by
  simp only [lowB, letB, digB, Bool.or_eq_false_iff, Bool.and_eq_false_iff, decide_eq_false_iff_not, beq_eq_false_iff_ne]
  omega
theorem sz_ne (s : ByteArray) (h : 0 < s.size) : ((s.size : Int) == 0) = false := by
  rw [beq_eq_false_iff_ne]; omega

theorem refname_first (s : ByteArray) (w : World) (hs : s.size ≤ maxLen) (h : s.toList.isEmpty = true ∨ 16 < s.size ∨ wordB s = true) :
    Calls Tryd.prog 35 #[.string s] w fun e w' => e = .returned (.bool false) ∧ w = w' := by
  unfold maxLen at hs
  by_cases h0 : s.size = 0
  · have h0b : ((s.size : Int) == 0) = true := by simp [h0]
    clear h0
    go_enter Tryd.func35, Tryd.ntmps35
    go_wp2_with fail
    go_ret
    exact ⟨rfl, rfl⟩
  · have h0b : ((s.size : Int) == 0) = false := by simp [h0]
    have h0c : 0 < s.size := by omega
    clear h0
    by_cases h1 : 16 < s.size
    · go_enter Tryd.func35, Tryd.ntmps35
      go_wp2_with fail
      go_ret
      exact ⟨rfl, rfl⟩
    · have hw : wordB s = true := by
        rcases h with h | h | h
        · rw [ByteArray.toList_eq] at h
          obtain ⟨⟨l⟩⟩ := s
          match l, h with
          | [], _ => exact absurd h0c (Nat.lt_irrefl 0)
        · exact absurd h h1
        · exact h
      clear h
      unfold wordB at hw
      by_cases hn : s.toList = [110, 111, 116]
      · have hn1 : (s.toList == [110, 111, 116]) = true := by simp [hn]
        clear hn hw
        go_enter Tryd.func35, Tryd.ntmps35
        go_wp2_with fail
        go_ret
        exact ⟨rfl, rfl⟩
      · have hn1 : (s.toList == [110, 111, 116]) = false := by simp [hn]
        have hn2 : (s.toList == [115, 97, 121, 115]) = true := by rw [hn1] at hw; simpa using hw
        clear hn hw
        go_enter Tryd.func35, Tryd.ntmps35
        go_wp2_with fail
        go_ret
        exact ⟨rfl, rfl⟩

set_option maxHeartbeats 2000000 in
theorem refname_loop (s : ByteArray) (w : World) (hs : s.size ≤ maxLen) (h0 : s.toList.isEmpty = false) (h1 : s.size ≤ 16) (hw : wordB s = false) :
    Calls Tryd.prog 35 #[.string s] w fun e w' => e = .returned (.bool (letB (hdB s) && allB s)) ∧ w = w' := by
  unfold maxLen at hs
  have hp := npos_of s h0
  have h0b := sz_ne s hp
  unfold wordB at hw
  have hn1 : (s.toList == [110, 111, 116]) = false := by rw [Bool.or_eq_false_iff] at hw; exact hw.1
  have hn2 : (s.toList == [115, 97, 121, 115]) = false := by rw [Bool.or_eq_false_iff] at hw; exact hw.2
  clear hw
  go_enter Tryd.func35, Tryd.ntmps35
  go_wp2_with fail
  go_loop [3] (fun i => ∃ k : Nat, k ≤ s.size ∧ i = .int .i64 k ∧ AllTo s k ∧ (0 < k → letB (hdB s) = true)) (fun i => s.size - (intOf i).toNat)
  case atStart => exact ⟨0, Nat.zero_le _, rfl, by unfold AllTo; simp, by omega⟩
  case round =>
    obtain ⟨k, hk, rfl, ha, hb⟩ := hrel
    have HA := Lib.hid ha
    have HB := Lib.hid hb
    clear ha hb
    by_cases hlt : k < s.size
    · by_cases hkz : k = 0
      · subst hkz
        have HE := Lib.hid (hd_eq s hp)
        rcases byte_cases (s[0].toNat : Int) with ⟨l1, l2⟩ | ⟨l1, l2⟩ | l1 | l1 | ⟨l1, l2⟩ | ⟨l1, l2⟩ | l1
        · have HL := Lib.hid (show letB (s[0].toNat : Int) = true by simp [letB, l1, l2])
          go_wp2_with fail
          go_round
          case rel => exact ⟨1, by omega, by go_num, allTo_snoc s 0 hlt HA.out (by simp [lowB, HL.out]), fun _ => by rw [← HE.out]; exact HL.out⟩
          case measure => simp [intOf]; omega
        · have HL := Lib.hid (show letB (hdB s) = false by rw [← HE.out]; simp only [letB, Bool.and_eq_false_iff, decide_eq_false_iff_not]; omega)
          have l1b : ((s[0].toNat : Int) == 95) = false := by simp; omega
          go_wp2_with fail
          go_ret
          exact ⟨by rw [HL.out]; rfl, rfl⟩
        · have HL := Lib.hid (show letB (hdB s) = false by rw [← HE.out]; simp only [letB, Bool.and_eq_false_iff, decide_eq_false_iff_not]; omega)
          have l1b : ((s[0].toNat : Int) == 95) = true := by simp [l1]
          have g1 : (48 : Int) ≤ (s[0].toNat : Int) := by omega
          have g2 : (s[0].toNat : Int) < 97 := by omega
          have g3 : (57 : Int) < (s[0].toNat : Int) := by omega
          clear l1
          go_wp2_with fail
          go_ret
          exact ⟨by rw [HL.out]; rfl, rfl⟩
        · have HL := Lib.hid (show letB (hdB s) = false by rw [← HE.out]; simp only [letB, Bool.and_eq_false_iff, decide_eq_false_iff_not]; omega)
          have l1b : ((s[0].toNat : Int) == 95) = false := by simp; omega
          go_wp2_with fail
          go_ret
          exact ⟨by rw [HL.out]; rfl, rfl⟩
        · have HL := Lib.hid (show letB (hdB s) = false by rw [← HE.out]; simp only [letB, Bool.and_eq_false_iff, decide_eq_false_iff_not]; omega)
          have l1b : ((s[0].toNat : Int) == 95) = false := by simp; omega
          go_wp2_with fail
          go_ret
          exact ⟨by rw [HL.out]; rfl, rfl⟩
        · have HL := Lib.hid (show letB (hdB s) = false by rw [← HE.out]; simp only [letB, Bool.and_eq_false_iff, decide_eq_false_iff_not]; omega)
          have l1b : ((s[0].toNat : Int) == 95) = false := by simp; omega
          go_wp2_with fail
          go_ret
          exact ⟨by rw [HL.out]; rfl, rfl⟩
        · have HL := Lib.hid (show letB (hdB s) = false by rw [← HE.out]; simp only [letB, Bool.and_eq_false_iff, decide_eq_false_iff_not]; omega)
          have l1b : ((s[0].toNat : Int) == 95) = false := by simp; omega
          have l1c : decide ((s[0].toNat : Int) ≤ 122) = false := by rw [decide_eq_false_iff_not]; omega
          go_wp2_with fail
          go_ret
          exact ⟨by rw [HL.out]; rfl, rfl⟩
      · have hkp : 0 < k := by omega
        clear hkz
        have HB2 := Lib.hid (HB.out hkp)
        rcases byte_cases (s[k].toNat : Int) with ⟨l1, l2⟩ | ⟨l1, l2⟩ | l1 | l1 | ⟨l1, l2⟩ | ⟨l1, l2⟩ | l1
        · have HL := Lib.hid (show lowB (s[k].toNat : Int) = true by simp [lowB, letB, l1, l2])
          go_wp2_with fail
          go_round
          case rel => exact ⟨k + 1, by omega, by go_num, allTo_snoc s k hlt HA.out HL.out, fun _ => HB2.out⟩
          case measure => simp [intOf]; omega
        · have HL := Lib.hid (show lowB (s[k].toNat : Int) = true by simp [lowB, digB, l1, l2])
          go_wp2_with fail
          go_round
          case rel => exact ⟨k + 1, by omega, by go_num, allTo_snoc s k hlt HA.out HL.out, fun _ => HB2.out⟩
          case measure => simp [intOf]; omega
        · have HL := Lib.hid (show lowB (s[k].toNat : Int) = true by simp [lowB, l1])
          have l1b : ((s[k].toNat : Int) == 95) = true := by simp [l1]
          have g1 : (48 : Int) ≤ (s[k].toNat : Int) := by omega
          have g2 : (s[k].toNat : Int) < 97 := by omega
          have g3 : (57 : Int) < (s[k].toNat : Int) := by omega
          clear l1
          go_wp2_with fail
          go_round
          case rel => exact ⟨k + 1, by omega, by go_num, allTo_snoc s k hlt HA.out HL.out, fun _ => HB2.out⟩
          case measure => simp [intOf]; omega
        · have HN := Lib.hid (all_no s k hlt (low_no _ (by omega)))
          have l1b : ((s[k].toNat : Int) == 95) = false := by simp; omega
          go_wp2_with fail
          go_ret
          exact ⟨by rw [HN.out, Bool.and_false]; rfl, rfl⟩
        · have HN := Lib.hid (all_no s k hlt (low_no _ (by omega)))
          have l1b : ((s[k].toNat : Int) == 95) = false := by simp; omega
          go_wp2_with fail
          go_ret
          exact ⟨by rw [HN.out, Bool.and_false]; rfl, rfl⟩
        · have HN := Lib.hid (all_no s k hlt (low_no _ (by omega)))
          have l1b : ((s[k].toNat : Int) == 95) = false := by simp; omega
          go_wp2_with fail
          go_ret
          exact ⟨by rw [HN.out, Bool.and_false]; rfl, rfl⟩
        · have HN := Lib.hid (all_no s k hlt (low_no _ (by omega)))
          have l1b : ((s[k].toNat : Int) == 95) = false := by simp; omega
          have l1c : decide ((s[k].toNat : Int) ≤ 122) = false := by rw [decide_eq_false_iff_not]; omega
          go_wp2_with fail
          go_ret
          exact ⟨by rw [HN.out, Bool.and_false]; rfl, rfl⟩
    · go_wp2_with fail
      go_ret
      obtain rfl : k = s.size := by omega
      exact ⟨by rw [allTo_size s HA.out, HB.out hp]; rfl, rfl⟩

theorem refname_any (s : ByteArray) (w : World) (hs : s.size ≤ maxLen) :
    Calls Tryd.prog 35 #[.string s] w fun e w' => e = .returned (.bool (nameB s)) ∧ w = w' := by
  by_cases h : s.toList.isEmpty = true ∨ 16 < s.size ∨ wordB s = true
  · have e : nameB s = false := by
      unfold nameB
      rcases h with h | h | h
      · simp [h]
      · have : ¬ s.size ≤ 16 := by omega
        simp [this]
      · simp [h]
    rw [e]; exact refname_first s w hs h
  · simp only [not_or, Bool.not_eq_true, Nat.not_lt] at h
    obtain ⟨h0, h1, h2⟩ := h
    have e : nameB s = (letB (hdB s) && allB s) := by unfold nameB; simp [h0, h1, h2]
    rw [e]; exact refname_loop s w hs h0 h1 h2
end Go.Proofs.YtammglimobninaaDoor.Nm

/-
  Contracts: the reference's bytes and Compare answer as the order of YtmfaallipfhajaaOrd.
-/
import Derived.Test.YtmfaallipfhajaaCmp
import Derived.Test.YtmfaallipfhajaaVls
namespace Go.Proofs.Ytmfaallipfhajaa
open Go.RowKit

theorem drop_cons (s : ByteArray) (k : Nat) (h : k < s.size) : s.data.toList.drop k = s[k] :: s.data.toList.drop (k + 1) := by
  rw [List.drop_eq_getElem_cons (by simpa using h)]; rfl
theorem cmp_step (a b : ByteArray) (k : Nat) (h1 : k < a.size) (h2 : k < b.size) : cmpL (a.data.toList.drop k) (b.data.toList.drop k) = lexI (cmpI a[k].toNat b[k].toNat) (cmpL (a.data.toList.drop (k + 1)) (b.data.toList.drop (k + 1))) := by
  rw [drop_cons a k h1, drop_cons b k h2, cmpL]
theorem drop_end (s : ByteArray) (k : Nat) (h : s.size ≤ k) : s.data.toList.drop k = [] := List.drop_eq_nil_of_le (by simpa using h)
theorem cmpL_nil_cons (l : List UInt8) (h : l ≠ []) : cmpL [] l = -1 := by cases l with
  | nil => exact absurd rfl h
  | cons => rfl
theorem cmpL_cons_nil (l : List UInt8) (h : l ≠ []) : cmpL l [] = 1 := by cases l with
  | nil => exact absurd rfl h
  | cons => rfl
theorem drop_ne (s : ByteArray) (k : Nat) (h : k < s.size) : s.data.toList.drop k ≠ [] := by rw [drop_cons s k h]; exact List.cons_ne_nil _ _

theorem cmpI_lt (a b : Int) (h : a < b) : cmpI a b = -1 := by unfold cmpI; rw [if_pos h]
theorem cmpI_gt (a b : Int) (h : b < a) : cmpI a b = 1 := by unfold cmpI; rw [if_neg (by omega), if_pos h]

set_option maxHeartbeats 2000000 in
set_option maxRecDepth 100000 in
theorem refbytes_any (a b : ByteArray) (w : World) (ha : a.size ≤ maxLen) (_hb : b.size ≤ maxLen) :
    Calls Try.prog 35 #[.string a, .string b] w fun e w' => e = .returned (.int .i64 (cmpS a b)) ∧ Below w.heap.size w w' := by
  unfold maxLen at ha
  go_enter Try.func35, Try.ntmps35
  go_wp2_with fail
  go_loopw [5] (fun i wr => ∃ k : Nat, k ≤ a.size ∧ k ≤ b.size ∧ i = .int .i64 k ∧ cmpS a b = cmpL (a.data.toList.drop k) (b.data.toList.drop k) ∧ Below w.heap.size w wr) (fun i _ => a.size - (intOf i).toNat)
  case atStart => exact ⟨0, Nat.zero_le _, Nat.zero_le _, rfl, rfl, Below.refl _ _⟩
  case round =>
    obtain ⟨k, hk1, hk2, rfl, he, hbw⟩ := hrel
    have HE := Lib.hid he
    have HB := Lib.hid hbw
    clear he hbw
    by_cases h1 : k < a.size
    · by_cases h2 : k < b.size
      · have hkn : (0 : Int) ≤ (k : Int) := by omega
        rcases Nat.lt_trichotomy a[k].toNat b[k].toNat with h | h | h
        · have HC := Lib.hid (show cmpS a b = -1 by rw [HE.out, cmp_step a b k h1 h2, cmpI_lt _ _ (by omega)]; rfl)
          have hd : decide (a[k].toNat < b[k].toNat) = true := by simpa using h
          go_wp2_with fail
          go_quiet (fail)
          go_wp2_with fail
          go_ret
          exact ⟨by rw [HC.out]; rfl, below_drewN' HB.out _⟩
        · have HC := Lib.hid (show cmpS a b = cmpL (a.data.toList.drop (k + 1)) (b.data.toList.drop (k + 1)) by rw [HE.out, cmp_step a b k h1 h2, (cmpI_zero _ _).2 (by omega)]; rfl)
          have hd : decide (a[k].toNat < b[k].toNat) = false := by simp; omega
          have hd2 : decide (b[k].toNat < a[k].toNat) = false := by simp; omega
          clear h
          go_wp2_with fail
          go_quiet (fail)
          go_wp2_with fail
          go_quiet (fail)
          go_wp2_with fail
          refine ⟨⟨k + 1, by omega, by omega, by go_num, HC.out, by first | exact below_drewN' HB.out _ | exact below_drewN' (below_drewN' HB.out _) _⟩, by simp [intOf]; omega⟩
        · have HC := Lib.hid (show cmpS a b = 1 by rw [HE.out, cmp_step a b k h1 h2, cmpI_gt _ _ (by omega)]; rfl)
          have hd : decide (a[k].toNat < b[k].toNat) = false := by simp; omega
          have hd2 : decide (b[k].toNat < a[k].toNat) = true := by simpa using h
          go_wp2_with fail
          go_quiet (fail)
          go_wp2_with fail
          go_quiet (fail)
          go_wp2_with fail
          go_ret
          exact ⟨by rw [HC.out]; rfl, by first | exact below_drewN' HB.out _ | exact below_drewN' (below_drewN' HB.out _) _⟩
      · have HC := Lib.hid (show cmpS a b = 1 by rw [HE.out, drop_end b k (by omega), cmpL_cons_nil _ (drop_ne a k h1)])
        have h3 : b.size < a.size := by omega
        go_wp2_with fail
        go_ret
        exact ⟨by rw [HC.out]; rfl, HB.out⟩
    · by_cases h2 : k < b.size
      · have HC := Lib.hid (show cmpS a b = -1 by rw [HE.out, drop_end a k (by omega), cmpL_nil_cons _ (drop_ne b k h2)])
        have h3 : a.size < b.size := by omega
        go_wp2_with fail
        go_ret
        exact ⟨by rw [HC.out]; rfl, HB.out⟩
      · have HC := Lib.hid (show cmpS a b = 0 by rw [HE.out, drop_end a k (by omega), drop_end b k (by omega)]; rfl)
        have h3 : ¬ a.size < b.size := by omega
        have h4 : ¬ b.size < a.size := by omega
        go_wp2_with fail
        go_ret
        exact ⟨by rw [HC.out]; rfl, HB.out⟩

theorem sz_pos' (s : ByteArray) (h : s.toList.isEmpty = false) : 0 < s.size := pos_of_ne s h
theorem cmpS_empty (a b : ByteArray) (ha : a.toList.isEmpty = true) (hb : b.toList.isEmpty = false) : cmpS a b = -1 := by
  rw [ByteArray.toList_eq] at ha hb
  unfold cmpS
  rw [List.isEmpty_iff.1 ha]
  exact cmpL_nil_cons _ (by intro e; rw [e] at hb; cases hb)
theorem cmpS_empty' (a b : ByteArray) (ha : a.toList.isEmpty = false) (hb : b.toList.isEmpty = true) : cmpS a b = 1 := by
  rw [ByteArray.toList_eq] at ha hb
  unfold cmpS
  rw [List.isEmpty_iff.1 hb]
  exact cmpL_cons_nil _ (by intro e; rw [e] at ha; cases ha)
end Go.Proofs.Ytmfaallipfhajaa

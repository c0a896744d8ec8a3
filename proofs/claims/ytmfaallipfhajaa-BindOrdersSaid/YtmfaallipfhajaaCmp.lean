/-
  Contracts: value.against at texts and numbers, value.Compare: the order of YtmfaallipfhajaaOrd.
-/
import Derived.Test.YtmfaallipfhajaaBas
import Derived.Test.YtmfaallipfhajaaOrd
namespace Go.Proofs.Ytmfaallipfhajaa
open Go.RowKit

def cmpS (a b : ByteArray) : Int := cmpL a.data.toList b.data.toList
theorem cmpS_lt (a b : ByteArray) : Op.bytesLess a.toList b.toList = decide (cmpS a b = -1) := by
  rw [cmpL_less, ByteArray.toList_eq, ByteArray.toList_eq]; rfl
theorem cmpS_eq (a b : ByteArray) : (a.toList == b.toList) = decide (cmpS a b = 0) := by
  unfold cmpS
  rw [ByteArray.toList_eq, ByteArray.toList_eq, Bool.eq_iff_iff]; simp [cmpL_zero]

set_option maxHeartbeats 400000 in
theorem againstS_any (a b : ByteArray) (w : World) :
    Calls Try.prog 33 #[.string a, .string b] w fun e w' => e = .returned (.int .i64 (cmpS a b)) ∧ w = w' := by
  rcases cmpL_tri a.data.toList b.data.toList with h | h | h
  · have h1 : Op.bytesLess a.toList b.toList = true := by rw [cmpS_lt]; unfold cmpS; simp [h]
    have h3 := Lib.hid (show cmpS a b = -1 from h)
    clear h
    go_enter Try.func33, Try.ntmps33
    go_wp2
    go_ret
    exact ⟨by rw [h3.out]; rfl, rfl⟩
  · have h1 : Op.bytesLess a.toList b.toList = false := by rw [cmpS_lt]; unfold cmpS; simp [h]
    have h2 : (a.toList == b.toList) = true := by rw [cmpS_eq]; unfold cmpS; simp [h]
    have h3 := Lib.hid (show cmpS a b = 0 from h)
    clear h
    go_enter Try.func33, Try.ntmps33
    go_wp2
    go_ret
    exact ⟨by rw [h3.out]; rfl, rfl⟩
  · have h1 : Op.bytesLess a.toList b.toList = false := by rw [cmpS_lt]; unfold cmpS; simp [h]
    have h2 : (a.toList == b.toList) = false := by rw [cmpS_eq]; unfold cmpS; simp [h]
    have h3 := Lib.hid (show cmpS a b = 1 from h)
    clear h
    go_enter Try.func33, Try.ntmps33
    go_wp2
    go_ret
    exact ⟨by rw [h3.out]; rfl, rfl⟩

set_option maxHeartbeats 400000 in
theorem againstI_any (a b : Int) (w : World) :
    Calls Try.prog 34 #[.int .i64 a, .int .i64 b] w fun e w' => e = .returned (.int .i64 (cmpI a b)) ∧ w = w' := by
  by_cases h : a < b
  · have h3 := Lib.hid (show cmpI a b = -1 by unfold cmpI; simp [h])
    go_enter Try.func34, Try.ntmps34
    go_wp2
    go_ret
    exact ⟨by rw [h3.out]; rfl, rfl⟩
  · by_cases k : b < a
    · have h3 := Lib.hid (show cmpI a b = 1 by unfold cmpI; simp [h, k])
      go_enter Try.func34, Try.ntmps34
      go_wp2
      go_ret
      exact ⟨by rw [h3.out]; rfl, rfl⟩
    · have h3 := Lib.hid (show cmpI a b = 0 by unfold cmpI; simp [h, k])
      go_enter Try.func34, Try.ntmps34
      go_wp2
      go_ret
      exact ⟨by rw [h3.out]; rfl, rfl⟩

def cmpW (s : ByteArray) (n : Int) (t : ByteArray) (m : Int) : Int := cmpV s.data.toList n t.data.toList m
theorem cmpW_def (s : ByteArray) (n : Int) (t : ByteArray) (m : Int) : cmpW s n t m = lexI (cmpS s t) (cmpI n m) := rfl

set_option maxHeartbeats 400000 in
theorem compare_any (s t : ByteArray) (n m : Int) (w : World) :
    Calls Try.prog 26 #[.agg #[.string s, .int .i64 n], .agg #[.string t, .int .i64 m]] w fun e w' => e = .returned (.int .i64 (cmpW s n t m)) ∧ Below w.heap.size w w' := by
  by_cases h : cmpS s t = 0
  · have h1 : (cmpS s t != 0) = false := by simp [h]
    have h3 := Lib.hid (show cmpW s n t m = cmpI n m by rw [cmpW_def]; simp [lexI, h])
    clear h
    go_enter Try.func26, Try.ntmps26
    go_wp2_with (first
      | (go_at_call 33; refine (againstS_any _ _ _).mono ?_; rintro e w' ⟨rfl, rfl⟩)
      | (go_at_call 34; refine (againstI_any _ _ _).mono ?_; rintro e w' ⟨rfl, rfl⟩))
    go_ret
    exact ⟨by rw [h3.out]; rfl, below2 _ _ _⟩
  · have h1 : (cmpS s t != 0) = true := by simp [h]
    have h3 := Lib.hid (show cmpW s n t m = cmpS s t by rw [cmpW_def]; simp [lexI, h])
    clear h
    go_enter Try.func26, Try.ntmps26
    go_wp2_with (first
      | (go_at_call 33; refine (againstS_any _ _ _).mono ?_; rintro e w' ⟨rfl, rfl⟩)
      | (go_at_call 34; refine (againstI_any _ _ _).mono ?_; rintro e w' ⟨rfl, rfl⟩))
    go_ret
    exact ⟨by rw [h3.out]; rfl, below2 _ _ _⟩
end Go.Proofs.Ytmfaallipfhajaa

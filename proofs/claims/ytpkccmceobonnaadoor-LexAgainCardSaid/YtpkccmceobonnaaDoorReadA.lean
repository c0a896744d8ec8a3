/-
  Contract: the reference's Read, whole.
-/
import Derived.Test.YtpkccmceobonnaaDoorReadR0
import Derived.Test.YtpkccmceobonnaaDoorReadR1
namespace Go.Proofs.YtpkccmceobonnaaDoor
open Go.RowKit

set_option maxHeartbeats 1000000 in
set_option maxRecDepth 100000 in
theorem refread_bad (s : ByteArray) (w : World) (hm : s.size ≤ maxLen) (hn : nameB s = false) (hr : readN s = none) (h : s.size = 0 ∨ 20 < s.size ∨ (s.size = 1 ∧ s.data.toList[0]? = some 45)) :
    Calls Tryd.prog 23 #[.string s] w fun e w' => e = .returned (readV s) ∧ Below w.heap.size w w' := by
  have HR := Lib.hid (show readV s = .tuple #[.agg #[.string ⟨#[]⟩, .int .i64 0], .bool false] by unfold readV; rw [hn, hr]; rfl)
  have HNM := Lib.hid (show ∀ wx, Calls Tryd.prog 22 #[.string s] wx fun e w' => e = .returned (.bool false) ∧ wx = w' from fun wx => hn ▸ refname_any s wx hm)
  clear hm hn hr
  rcases h with h | h | ⟨h, h45⟩
  · have q0 : ¬ 0 < s.size := by omega
    have q1 : ((s.size : Int) == 0) = true := by rw [beq_iff_eq]; omega
    clear h
    go_enter Tryd.func23, Tryd.ntmps23
    go_wp2_with (go_at_call 22; refine (HNM.out _).mono ?_; rintro e w' ⟨rfl, rfl⟩)
    refine bodyPost_ret (v := .tuple #[.agg #[.string ⟨#[]⟩, .int .i64 0], .bool false]) (by simp [results, Tryd.results23, go_sem]) rfl ⟨by rw [HR.out], ?_⟩
    exact (Below.refl _ _).alloc (Nat.le_refl _) _
  · have q0 : 0 < s.size := by omega
    have q1 : ((s.size : Int) == 0) = false := by rw [beq_eq_false_iff_ne]; omega
    have q3 : ((s.size : Int) == 1) = false := by rw [beq_eq_false_iff_ne]; omega
    cases g : (s[0].toNat == 45)
    all_goals
      go_enter Tryd.func23, Tryd.ntmps23
      go_wp2_with (go_at_call 22; refine (HNM.out _).mono ?_; rintro e w' ⟨rfl, rfl⟩)
      refine bodyPost_ret (v := .tuple #[.agg #[.string ⟨#[]⟩, .int .i64 0], .bool false]) (by simp [results, Tryd.results23, go_sem]) rfl ⟨by rw [HR.out], ?_⟩
      exact (Below.refl _ _).alloc (Nat.le_refl _) _
  · have q0 : 0 < s.size := by omega
    have q1 : ((s.size : Int) == 1) = true := by rw [beq_iff_eq]; omega
    have g : (s[0].toNat == 45) = true := by
      have e : s.data.toList[0]? = some s[0] := by rw [List.getElem?_eq_getElem (by simp; omega)]; rfl
      rw [e] at h45; rw [Option.some.inj h45]; rfl
    clear h45 h
    go_enter Tryd.func23, Tryd.ntmps23
    go_wp2_with (go_at_call 22; refine (HNM.out _).mono ?_; rintro e w' ⟨rfl, rfl⟩)
    refine bodyPost_ret (v := .tuple #[.agg #[.string ⟨#[]⟩, .int .i64 0], .bool false]) (by simp [results, Tryd.results23, go_sem]) rfl ⟨by rw [HR.out], ?_⟩
    exact (Below.refl _ _).alloc (Nat.le_refl _) _

set_option maxHeartbeats 1000000 in
theorem refread_name (s : ByteArray) (w : World) (hm : s.size ≤ maxLen) (hn : nameB s = true) :
    Calls Tryd.prog 23 #[.string s] w fun e w' => e = .returned (readV s) ∧ Below w.heap.size w w' := by
  have HR := Lib.hid (show readV s = .tuple #[.agg #[.string s, .int .i64 0], .bool true] by simp [readV, hn])
  have HNM := Lib.hid (show ∀ wx, Calls Tryd.prog 22 #[.string s] wx fun e w' => e = .returned (.bool true) ∧ wx = w' from fun wx => hn ▸ refname_any s wx hm)
  clear hm hn
  go_enter Tryd.func23, Tryd.ntmps23
  go_wp2_with (go_at_call 22; refine (HNM.out _).mono ?_; rintro e w' ⟨rfl, rfl⟩)
  refine bodyPost_ret (v := .tuple #[.agg #[.string s, .int .i64 0], .bool true]) (by simp [results, Tryd.results23, go_sem]) rfl ⟨by rw [HR.out], ?_⟩
  exact (Below.refl _ _).alloc (Nat.le_refl _) _

theorem refread_any (s : ByteArray) (w : World) (hm : s.size ≤ maxLen) :
    Calls Tryd.prog 23 #[.string s] w fun e w' => e = .returned (readV s) ∧ Below w.heap.size w w' := by
  by_cases hn : nameB s = true
  · exact refread_name s w hm hn
  have hn : nameB s = false := by simpa using hn
  by_cases hb : s.size = 0 ∨ 20 < s.size ∨ (s.size = 1 ∧ s.data.toList[0]? = some 45)
  · refine refread_bad s w hm hn (readN_none s fun m a b c => ?_) hb
    obtain ⟨h1, h2, _⟩ := shape s m a b c
    rcases hb with h | h | ⟨h, h45⟩
    · omega
    · omega
    · have : atB s = 1 := by unfold atB; rw [if_pos h45]
      omega
  · have hp : 0 < s.size := by omega
    have e : s.data.toList[0]? = some s[0] := by rw [List.getElem?_eq_getElem (by simp; omega)]; rfl
    by_cases hh : s[0].toNat = 45
    · have h45 : s.data.toList[0]? = some 45 := by rw [e, show s[0] = 45 from UInt8.toNat_inj.1 hh]
      exact refread_1 s w (by omega) (by have : ¬ s.size = 1 := fun h => hb (.inr (.inr ⟨h, h45⟩)); omega) hn hh
    · exact refread_0 s w (by omega) hp hn hh
end Go.Proofs.YtpkccmceobonnaaDoor

/-
  Contracts: value.Good and the reference's Good answer as goodB says.
-/
import Derived.Test.YtdoadclblloddaaNameR
namespace Go.Proofs.Ytdoadclblloddaa
open Go.RowKit

def goodB (s : ByteArray) (n : Int) : Bool := s.toList.isEmpty || (n == 0 && nameB s)

theorem bcell {W w1 : World} (hb : Below W.heap.size W w1) : (∀ b o, b < W.heap.size → w1.cell? ⟨b, o, none⟩ = W.cell? ⟨b, o, none⟩) ∧ (∀ b o, b < W.heap.size → w1.frozen? ⟨b, o, none⟩ = W.frozen? ⟨b, o, none⟩) :=
  ⟨fun b o h => hb.cell (p := ⟨b, o, none⟩) h, fun b o h => hb.frozen (p := ⟨b, o, none⟩) h⟩

set_option maxHeartbeats 400000 in
theorem good_any (s : ByteArray) (n : Int) (w : World) (hs : s.size ≤ maxLen) :
    Calls Try.prog 20 #[.agg #[.string s, .int .i64 n]] w fun e w' => e = .returned (.bool (goodB s n)) ∧ Below w.heap.size w w' := by
  by_cases h0 : s.toList.isEmpty = true
  · go_enter Try.func20, Try.ntmps20
    go_wp2_with fail
    go_ret
    exact ⟨by simp [goodB, h0], (Below.refl _ _).alloc (Nat.le_refl _) _⟩
  · have h0 : s.toList.isEmpty = false := by simpa using h0
    by_cases hn : (n == 0) = true
    · go_enter Try.func20, Try.ntmps20
      go_wp2_with (go_at_call 25; refine (name_any _ _ hs).mono ?_; rintro e w' ⟨rfl, rfl⟩)
      go_ret
      exact ⟨by simp [goodB, h0, hn], (Below.refl _ _).alloc (Nat.le_refl _) _⟩
    · have hn : (n == 0) = false := by simpa using hn
      go_enter Try.func20, Try.ntmps20
      go_wp2_with fail
      go_ret
      exact ⟨by simp [goodB, h0, hn], (Below.refl _ _).alloc (Nat.le_refl _) _⟩

theorem sz_eq (s : ByteArray) : ((s.size : Int) == 0) = s.toList.isEmpty := by
  rw [ByteArray.toList_eq]
  obtain ⟨⟨l⟩⟩ := s
  cases l with
  | nil => rfl
  | cons c r =>
    show (((r.length + 1 : Nat) : Int) == 0) = false
    rw [beq_eq_false_iff_ne]; omega

set_option maxHeartbeats 400000 in
theorem refgood_any (s : ByteArray) (n : Int) (w : World) (hs : s.size ≤ maxLen) :
    Calls Try.prog 19 #[.agg #[.string s, .int .i64 n]] w fun e w' => e = .returned (.bool (goodB s n)) ∧ Below w.heap.size w w' := by
  by_cases h0 : s.toList.isEmpty = true
  · have h1 : ((s.size : Int) == 0) = true := by rw [sz_eq, h0]
    go_enter Try.func19, Try.ntmps19
    go_wp2_with fail
    go_ret
    exact ⟨by simp [goodB, h0], (Below.refl _ _).alloc (Nat.le_refl _) _⟩
  · have h0 : s.toList.isEmpty = false := by simpa using h0
    have h1 : ((s.size : Int) == 0) = false := by rw [sz_eq, h0]
    by_cases hn : nameB s = true
    · go_enter Try.func19, Try.ntmps19
      go_wp2_with (go_at_call 24; refine (refname_any _ _ hs).mono ?_; rintro e w' ⟨rfl, rfl⟩)
      go_ret
      exact ⟨by simp [goodB, h0, hn], (Below.refl _ _).alloc (Nat.le_refl _) _⟩
    · have hn : nameB s = false := by simpa using hn
      go_enter Try.func19, Try.ntmps19
      go_wp2_with (go_at_call 24; refine (refname_any _ _ hs).mono ?_; rintro e w' ⟨rfl, rfl⟩)
      go_ret
      exact ⟨by simp [goodB, h0, hn], (Below.refl _ _).alloc (Nat.le_refl _) _⟩
end Go.Proofs.Ytdoadclblloddaa

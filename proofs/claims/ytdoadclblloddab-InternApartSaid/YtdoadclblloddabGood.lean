/-
  Contracts: value.Good and the reference's Good answer as goodB says.
-/
import Derived.Test.YtdoadclblloddabName
namespace Go.Proofs.Ytdoadclblloddab
open Go.RowKit

def goodB (s : ByteArray) (n : Int) : Bool := s.toList.isEmpty || (n == 0 && nameB s)

theorem bcell {W w1 : World} (hb : Below W.heap.size W w1) : (∀ b o, b < W.heap.size → w1.cell? ⟨b, o, none⟩ = W.cell? ⟨b, o, none⟩) ∧ (∀ b o, b < W.heap.size → w1.frozen? ⟨b, o, none⟩ = W.frozen? ⟨b, o, none⟩) :=
  ⟨fun b o h => hb.cell (p := ⟨b, o, none⟩) h, fun b o h => hb.frozen (p := ⟨b, o, none⟩) h⟩

set_option maxHeartbeats 400000 in
theorem good_any (s : ByteArray) (n : Int) (w : World) (hs : s.size ≤ maxLen) :
    Calls Try.prog 15 #[.agg #[.string s, .int .i64 n]] w fun e w' => e = .returned (.bool (goodB s n)) ∧ Below w.heap.size w w' := by
  by_cases h0 : s.toList.isEmpty = true
  · go_enter Try.func15, Try.ntmps15
    go_wp2_with fail
    go_ret
    exact ⟨by simp [goodB, h0], (Below.refl _ _).alloc (Nat.le_refl _) _⟩
  · have h0 : s.toList.isEmpty = false := by simpa using h0
    by_cases hn : (n == 0) = true
    · go_enter Try.func15, Try.ntmps15
      go_wp2_with (go_at_call 19; refine (name_any _ _ hs).mono ?_; rintro e w' ⟨rfl, rfl⟩)
      go_ret
      exact ⟨by simp [goodB, h0, hn], (Below.refl _ _).alloc (Nat.le_refl _) _⟩
    · have hn : (n == 0) = false := by simpa using hn
      go_enter Try.func15, Try.ntmps15
      go_wp2_with fail
      go_ret
      exact ⟨by simp [goodB, h0, hn], (Below.refl _ _).alloc (Nat.le_refl _) _⟩

end Go.Proofs.Ytdoadclblloddab

/-
  Contracts: value.Good and the reference's Good answer as goodB says.
-/
import Derived.Test.YtpkccmceobonnaaDoorNameR
namespace Go.Proofs.YtpkccmceobonnaaDoor
open Go.RowKit

def goodB (s : ByteArray) (n : Int) : Bool := s.toList.isEmpty || (n == 0 && nameB s)

theorem bcell {W w1 : World} (hb : Below W.heap.size W w1) : (∀ b o, b < W.heap.size → w1.cell? ⟨b, o, none⟩ = W.cell? ⟨b, o, none⟩) ∧ (∀ b o, b < W.heap.size → w1.frozen? ⟨b, o, none⟩ = W.frozen? ⟨b, o, none⟩) :=
  ⟨fun b o h => hb.cell (p := ⟨b, o, none⟩) h, fun b o h => hb.frozen (p := ⟨b, o, none⟩) h⟩

theorem sz_eq (s : ByteArray) : ((s.size : Int) == 0) = s.toList.isEmpty := by
  rw [ByteArray.toList_eq]
  obtain ⟨⟨l⟩⟩ := s
  cases l with
  | nil => rfl
  | cons c r =>
    show (((r.length + 1 : Nat) : Int) == 0) = false
    rw [beq_eq_false_iff_ne]; omega

end Go.Proofs.YtpkccmceobonnaaDoor

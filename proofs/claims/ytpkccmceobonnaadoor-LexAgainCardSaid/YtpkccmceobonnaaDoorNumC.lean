/-
  Contract: the reference's Number of the least number.
-/
import Derived.Test.YtpkccmceobonnaaDoorNum
namespace Go.Proofs.YtpkccmceobonnaaDoor
open Go.RowKit

set_option maxHeartbeats 1000000 in
set_option maxRecDepth 100000 in
theorem number_least (n : Int) (w : World) (g0 : (n == -9223372036854775808) = true) :
    Calls Tryd.prog 27 #[.int .i64 n] w fun e w' => e = .returned (.string ⟨#[45, 57, 50, 50, 51, 51, 55, 50, 48, 51, 54, 56, 53, 52, 55, 55, 53, 56, 48, 56]⟩) ∧ Below w.heap.size w w' := by
  go_enter Tryd.func27, Tryd.ntmps27
  go_wp2_with fail
  go_ret
  exact ⟨rfl, Below.refl _ _⟩
end Go.Proofs.YtpkccmceobonnaaDoor

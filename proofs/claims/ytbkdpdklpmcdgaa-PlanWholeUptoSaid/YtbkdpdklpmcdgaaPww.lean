/-
  The walk of mandatelaw13.PlanWhole: it answers true.
-/
import Derived.Test.YtbkdpdklpmcdgaaPwo
import Derived.Test.YtbkdpdklpmcdgaaPwn
import Derived.Test.YtbkdpdklpmcdgaaPwf
import Derived.Test.YtbkdpdklpmcdgaaPwg
set_option linter.unusedVariables false
set_option linter.unusedSimpArgs false
namespace Go.Proofs.Ytbkdpdklpmcdgaa
open Go.Maps Go.ChangeMaps Go.WideMaps Go.RowKit

theorem whole_walk (N : Nat) (hN : N ≤ 1048576) (r : Rl) (k : Int) (w : World) (hr : r.Arg w N) :
    Calls Try.prog 5 #[r.agg, .int .i64 k] w fun e w' => e = .returned (.bool true) ∧ Below w.heap.size w w' := by
  by_cases h30 : 30 < r.body.length
  · exact whole_far N hN r k w hr h30
  · have h30' : r.body.length ≤ 30 := by omega
    cases hF : fromS r.body k with
    | some L => exact whole_from N hN r k w hr h30' L hF (from_whole hF)
    | none =>
      cases hG : goesS r.body [] with
      | some L => exact whole_order N hN r k w hr h30' L hF hG (order_whole hG)
      | none => exact whole_none N hN r k w hr h30' hF hG
end Go.Proofs.Ytbkdpdklpmcdgaa

/-
  Contract: fixed().
-/
import Derived.Test.YtbkdpdklpmcdgaaGeD
import Derived.Test.YtbkdpdklpmcdgaaRows
set_option linter.unusedVariables false
set_option linter.unusedSimpArgs false
namespace Go.Proofs.Ytbkdpdklpmcdgaa
open Go.Ge Go.RowKit
theorem fixed_true : saysTrue ((lev Try.prog (drawF Try.prog) 20).call 6 [] ⟨.leaf, 0⟩) = true := by kernel_rfl
theorem fixed_any (w : World) : Calls Try.prog 6 #[] w fun e w' => e = .returned (.bool true) ∧ Below w.heap.size w w' := ground fixed_true w
end Go.Proofs.Ytbkdpdklpmcdgaa

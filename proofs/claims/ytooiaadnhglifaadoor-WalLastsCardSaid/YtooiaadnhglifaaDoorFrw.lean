/-
  What every statement of this seat needs: what the listed variables give ('Env'), the start that meets the condition.
-/
import Derived.Test.YtooiaadnhglifaaDoorKnw
import Derived.Test.YtooiaadnhglifaaDoorTie
import Derived.Test.YtooiaadnhglifaaDoorCards
import Derived.ProofKit
import Derived.LaidMore
import Derived.OpenShut
import Derived.ShutString
import Derived.Stop.Joined
import Derived.Stop.LaidErr
import Derived.SevenTiedAt
import Derived.Lib.LaidTab
set_option linter.unusedVariables false
set_option linter.unusedSimpArgs false
namespace Go.Proofs.YtooiaadnhglifaaDoor
open Go.ChangeShapes Go.WideShapes Go.ChangeAt Go.WideMaps Go.WideElems Go.RowKit
open Go.ChangeMaps (open_string shut_string)

theorem laidOut : laidOutB Tryd.prog = true := by kernel_rfl
theorem own : ownKnob Tryd.prog.godebug = none := by kernel_rfl
def laid2 : List (String × DataW Unit) := [("mandate/sha.firsts", Rows.laid_mandate_sha_firsts), ("mandate/sha.constants", Rows.laid_mandate_sha_constants)]
def intsS (l : List UInt32) : List Int := l.map fun x => (x.toNat : Int)
theorem tab_cells {W : World} {name : String} {l : List UInt32} {g : Nat} (ht : Lib.TabIs Tryd.prog W name .u32 (intsS l)) (hg : Tryd.prog.globalNamed name = some g) : ∀ i v, (cells32 l)[i]? = some v → W.cell? ⟨g, i, none⟩ = some v := by
  intro j v hv
  obtain ⟨hj, rfl⟩ := List.getElem?_eq_some_iff.1 hv
  have hj' : j < l.length := by simpa [cells32] using hj
  rw [ht.cell hg j (by unfold intsS; rw [List.length_map]; exact hj')]
  simp [cells32, intsS, List.getD_eq_getElem?_getD, List.getElem?_map, List.getElem?_eq_getElem hj']
theorem env_of_laid {W : World} (h : laidMetH Tryd.prog laid2 W) : Env W := by
  rw [MakeChecks.laidMetH_plain _ _ _ (by kernel_rfl)] at h
  have ht1 : Lib.TabIs Tryd.prog W "mandate/sha.firsts" .u32 (intsS firstS.l) := Lib.tabIs_of_head (g := 0) (t := 89) (e := 88) (n := 8) (rest := [("mandate/sha.constants", Rows.laid_mandate_sha_constants)]) (by kernel_rfl) (by kernel_rfl) Tryd.underlying89 Tryd.underlying88 (by kernel_rfl) (by kernel_rfl) h
  have ht2 : Lib.TabIs Tryd.prog W "mandate/sha.constants" .u32 (intsS roundsS) := Lib.tabIs_of_head (g := 1) (t := 98) (e := 88) (n := 64) (rest := []) (by kernel_rfl) (by kernel_rfl) Tryd.underlying98 Tryd.underlying88 (by kernel_rfl) (by kernel_rfl) h.tail
  exact ⟨tab_cells ht1 (by kernel_rfl), tab_cells ht2 (by kernel_rfl)⟩
theorem door_met (os : Os) (args : Array Value) : laidMetH Tryd.prog laid2 ((World.doorLaid Tryd.prog 400 os).forCall (fun _ _ => 0) ⟨#[], args, []⟩).memory :=
  laidMetH_of_parts3 (fuel := 8) (laidMet_of_run' 8 (by kernel_rfl) (by kernel_rfl)) (by kernel_rfl) (by kernel_rfl)
end Go.Proofs.YtooiaadnhglifaaDoor

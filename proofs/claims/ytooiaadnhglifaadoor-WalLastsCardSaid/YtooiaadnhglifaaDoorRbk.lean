/-
  Contracts: the reference's constant.
-/
import Derived.Test.YtooiaadnhglifaaDoorTkn
set_option linter.unusedVariables false
set_option linter.unusedSimpArgs false
namespace Go.Proofs.YtooiaadnhglifaaDoor
open Go.RowKit

theorem wpList_build_as {P : Program} {ops : Array Oper} {rest : List Oper} {o : Oper} {a : Act} {w : World} {Q : Exit → Act → World → Prop} (hg : o.guard = none) (t : TypeId) (parts : Array (Nat × Operand)) (ho : o.op = .build t parts)
    (cs : Array Value) (hf : P.built t (parts.map fun (i, x) => (i, a.eval x)).toList = some cs)
    (h : wpList P ops Q rest (a.put o.dst (.agg cs)) w) : wpList P ops Q (o :: rest) a w :=
  wpList_build hg t parts ho (by rw [hf]; rfl) (by rw [hf]; exact h)

set_option maxRecDepth 100000 in
set_option maxHeartbeats 1000000 in
theorem const_any (k : Nat) (hk : k < 64) (w : World) :
    Calls Tryd.prog 67 #[.int .i64 k] w fun e w' => e = .returned (W32 (roundsS.getD k 0)) ∧ Below w.heap.size w w' := by
  have hc := fun c => (show Bk ((w.alloc (.cells c 98)).setRow w.heap.size (cells32 roundsS).toArray) w.heap.size 98 (cells32 roundsS).toArray by rw [World.setRow_alloc_new]; exact Bk.new w _ _).cell k (W32 (roundsS.getD k 0)) (by unfold cells32; rw [List.toList_toArray, List.getElem?_map, List.getD_eq_getElem?_getD, List.getElem?_eq_getElem (by rw [roundsS_len]; exact hk)]; rfl)
  have HB := Lib.hid (fun c => below_setRow (below1 w (.cells c 98)) (Nat.le_refl _) (cells32 roundsS).toArray)
  have w3 : (0 : Int) ≤ (k : Int) := by omega
  have w4 : (k : Int) < 64 := by omega
  have HC := Lib.hid hc
  clear hc
  go_enter Tryd.func67, Tryd.ntmps67
  go_upto_region 2 with (first
    | (refine wpList_build_as rfl 98 _ rfl (cells32 roundsS).toArray (by kernel_rfl) ?_)
    | (refine wpList_store_row rfl 98 _ _ rfl _ _ rfl rfl _ _ (Bk.new _ _ _) (by kernel_rfl) (by kernel_rfl) (cells32_one _) ?_))
  change Code.wp _ _ _ _ ((w.alloc (.cells (schC [] 0).toArray 98)).setRow w.heap.size (cells32 roundsS).toArray)
  have x := HC.out (schC [] 0).toArray
  have HB' := Lib.hid (HB.out (schC [] 0).toArray)
  generalize (w.alloc (.cells (schC [] 0).toArray 98)).setRow w.heap.size (cells32 roundsS).toArray = W1 at *
  go_wp2
  go_ret
  exact ⟨rfl, HB'.out⟩
end Go.Proofs.YtooiaadnhglifaaDoor

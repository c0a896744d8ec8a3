/-
  The chapter's example: what the functions answer there, plain.
-/
import Derived.Test.YtkgcloggnnjioaaDoorRefJ
import Derived.Test.YtkgcloggnnjioaaDoorBuild
import Derived.Test.YtkgcloggnnjioaaDoorPairs
import Derived.Test.YtkgcloggnnjioaaDoorSameP
namespace Go.Proofs.YtkgcloggnnjioaaDoor
open Go.RowKit

/-- the example's order -/
def U3 : List Nat := [7, 6, 4]
theorem u3_small : Small U3 := by intro m hm; unfold U3 at hm; simp at hm; omega
theorem u3_ord : OrdM U3 := by
  refine ⟨by decide, by decide, fun a ha => ?_⟩
  rw [codeA_iff U3 u3_small (by decide) a ha]
  have ha' : a = 0 ∨ a = 1 ∨ a = 2 := by have : U3.length = 3 := rfl; omega
  unfold HoldsC
  rcases ha' with rfl | rfl | rfl <;> decide
theorem u3_closed : closedM 3 (natP [(0, 1), (1, 2)]) = U3 := by decide
theorem c2_closed : closedM 2 (natP [(0, 1), (1, 0)]) = [3, 3] := by decide
theorem c2_not : ¬ OrdM [3, 3] := by
  intro h
  exact (h.2.2 0 (by decide)).2.2.1 1 (by unfold has; decide) (by decide) (by unfold has; decide)
theorem u3_join : joinV U3 0 2 = .tuple #[.int .i64 2, .bool true] := by
  have h : joinR U3 ((0 : Nat) : Int) ((2 : Nat) : Int) = some 2 := (joinR_find u3_ord (by decide) (by decide)).trans (by decide)
  exact joinV_some h
theorem u3_pairs : pairsR U3 = [(0, 1), (1, 2)] := by
  rw [show pairsR U3 = pairsM U3 from if_pos u3_ord]; decide
theorem u3_at1 : atB U3 0 2 = true := by
  have := atB_nat u3_ord (i := 0) (j := 2) (by decide) (by decide)
  exact this.trans (by decide)
theorem u3_at2 : atB U3 2 0 = false := by
  have := atB_nat u3_ord (i := 2) (j := 0) (by decide) (by decide)
  exact this.trans (by decide)
theorem u3_above : aboveM U3 1 = 6 := by
  have h := labelsB1_of u3_ord (i := 1) (by decide)
  unfold aboveM
  rw [show ((1 : Nat) : Int) = 1 from rfl] at h
  rw [if_pos h]; decide
theorem u3_below : belowM U3 1 = 3 := by
  have h := labelsB1_of u3_ord (i := 1) (by decide)
  unfold belowM
  rw [show ((1 : Nat) : Int) = 1 from rfl] at h
  rw [if_pos h]; decide
theorem bits10 : bitsOf 10 = [1, 3] := by decide

/-- the example's order lies in block g, made by the call -/
structure GG (w : World) (g : Nat) (W : World) : Prop where
  row : Row W g U3
  below : Below w.heap.size w W
  base : w.heap.size ≤ g
theorem GG.step {w W W' : World} {g : Nat} (h : GG w g W) (hb : Below W.heap.size W W') : GG w g W' :=
  ⟨World.rowIs.of_block h.row (hb.block g (World.rowIs.lt h.row)), h.below.trans (hb.mono h.below.size), h.base⟩
theorem GG.alloc {w W : World} {g : Nat} (h : GG w g W) (o : Obj) : GG w g (W.alloc o) := h.step ((Below.refl _ W).alloc (Nat.le_refl _) o)
theorem GG.us {w W : World} {g : Nat} (h : GG w g W) : Us W W.heap.size (some ⟨g, 0, none⟩) U3 := Row.us h.row (World.rowIs.lt h.row)
theorem GG.tab {w W : World} {g : Nat} (h : GG w g W) (hT : Tab w) (hg : 0 < w.heap.size) : Tab W := hT.below h.below hg
theorem GG.pos {w W : World} {g : Nat} (h : GG w g W) (hg : 0 < w.heap.size) : 0 < W.heap.size := by have := h.below.size; omega

theorem build_3 (W : World) (k : Nat) (hk : k < W.heap.size) (c0 : W.heap[k]? = some (.cells #[.int .i64 0, .int .i64 1, .int .i64 1, .int .i64 2] 44 (0, 0))) (hT : Tab W) (hg : 0 < W.heap.size) :
    Calls Tryd.prog 12 #[.int .i64 3, .slice (some ⟨k, 0, none⟩) 2 2] W fun e W' => ∃ g, e = .returned (.tuple #[.slice (some ⟨g, 0, none⟩) 3 3, .int .i64 0]) ∧ GG W g W' := by
  refine (build_in 3 [(0, 1), (1, 2)] (some ⟨k, 0, none⟩) 2 W (by decide) (by decide) (by decide) (.inr ⟨k, 0, rfl, hk, fun i hi => ?_⟩) hT hg).mono ?_
  · have : i = 0 ∨ i = 1 := by simp at hi; omega
    rcases this with rfl | rfl <;> simp [World.cell?, c0]
  · rintro e W' ⟨h | h | h, hb⟩
    · exact absurd h.1 (by decide)
    · obtain ⟨_, _, g, e1, e2, e3⟩ := h
      rw [u3_closed] at e3
      exact ⟨g, e1, e3, hb, e2⟩
    · have := h.2.1
      rw [show (((3 : Nat))) = 3 from rfl, u3_closed] at this
      exact absurd u3_ord this
theorem build_2 (W : World) (k : Nat) (hk : k < W.heap.size) (c0 : W.heap[k]? = some (.cells #[.int .i64 0, .int .i64 1, .int .i64 1, .int .i64 0] 44 (0, 0))) (hT : Tab W) (hg : 0 < W.heap.size) :
    Calls Tryd.prog 12 #[.int .i64 2, .slice (some ⟨k, 0, none⟩) 2 2] W fun e W' => e = .returned (.tuple #[.slice none 0 0, .int .i64 9]) ∧ Below W.heap.size W W' := by
  refine (build_in 2 [(0, 1), (1, 0)] (some ⟨k, 0, none⟩) 2 W (by decide) (by decide) (by decide) (.inr ⟨k, 0, rfl, hk, fun i hi => ?_⟩) hT hg).mono ?_
  · have : i = 0 ∨ i = 1 := by simp at hi; omega
    rcases this with rfl | rfl <;> simp [World.cell?, c0]
  · rintro e W' ⟨h | h | h, hb⟩
    · exact absurd h.1 (by decide)
    · have := h.2.1
      rw [c2_closed] at this
      exact absurd this c2_not
    · exact ⟨h.2.2, hb⟩
end Go.Proofs.YtkgcloggnnjioaaDoor

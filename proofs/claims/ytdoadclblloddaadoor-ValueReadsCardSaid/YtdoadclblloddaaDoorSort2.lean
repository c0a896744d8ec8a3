/-
  Contracts: value.Sort at two tuples, as far as mandatelaw01.fixed needs it.
-/
import Derived.Test.YtdoadclblloddaaDoorText
import Derived.RegionTactic
import Derived.ChangeAlike
import Derived.Deep.RegionWith
import Derived.Deep.RegionHeld3
namespace Go.Proofs.YtdoadclblloddaaDoor
open Go.RowKit Go.Sort

def Tp.sl (t : Tp) : Value := .slice t.ptr t.args.length t.cap
/-- element i of a row of tuples is t -/
structure At (w : World) (b o : Nat) (t : Tp) : Prop where
  c0 : w.cell? ⟨b, o, none⟩ = some (.string t.pred)
  c1 : w.cell? ⟨b, o + 1, none⟩ = some (.slice t.ptr t.args.length t.cap)

set_option maxHeartbeats 1000000 in
theorem ahead_any (b off n c i j : Nat) (x y : Tp) (w : World) (hi : i < n) (hj : j < n) (hn : n ≤ maxLen) (ax : At w b (off + i * 2) x) (ay : At w b (off + j * 2) y) (ix : x.In w) (iy : y.In w) :
    Calls Tryd.prog 44 #[.slice (some ⟨b, off, none⟩) n c, .int .i64 i, .int .i64 j] w fun e w' => e = .returned (.bool (decide (cmpT x y < 0))) ∧ Below w.heap.size w w' := by
  have hn2 := hn
  unfold maxLen at hn2
  obtain ⟨x0, x1⟩ := ax
  obtain ⟨y0, y1⟩ := ay
  have IX := Lib.hid ix
  have IY := Lib.hid iy
  clear ix iy
  go_enter Tryd.func44, Tryd.ntmps44
  go_wp2_with fail
  go_region_with (go_at_call 25; refine (order_any x y _ (IX.out.grow (Below.refl _ _).drew) (IY.out.grow (Below.refl _ _).drew)).mono ?_; rintro e w1 ⟨rfl, hb⟩)
  all_goals
    go_wp2_with fail
    go_ret
    exact ⟨rfl, ((Below.refl _ w).drew).trans hb⟩
end Go.Proofs.YtdoadclblloddaaDoor

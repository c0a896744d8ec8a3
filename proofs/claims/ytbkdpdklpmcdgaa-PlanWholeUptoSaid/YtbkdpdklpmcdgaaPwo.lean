/-
  The walk of mandatelaw13.PlanWhole, way O. (Made by tools/mk_pwh.py.)
-/
import Derived.Test.YtbkdpdklpmcdgaaPwt
set_option linter.unusedVariables false
set_option linter.unusedSimpArgs false
namespace Go.Proofs.Ytbkdpdklpmcdgaa
open Go.Maps Go.ChangeMaps Go.WideMaps Go.RowKit

set_option maxHeartbeats 32000000 in
set_option maxRecDepth 100000 in
theorem whole_far (N : Nat) (hN : N ≤ 1048576) (r : Rl) (k : Int) (w : World) (hr : r.Arg w N) (h30 : 30 < r.body.length) :
    Calls Try.prog 5 #[r.agg, .int .i64 k] w fun e w' => e = .returned (.bool true) ∧ Below w.heap.size w w' := by
  have HI := Lib.hid (show LX w r (w.alloc (.cells #[.int .u8 r.head.kind, .string r.head.pred, .slice r.head.ptr r.head.args.length r.head.cap, .slice r.ptr r.body.length r.cap] 27)) from ⟨below1 w _, Bk0.new w _ _⟩)
  have HF := Lib.hid (fun X => fixed_any X)
  have hbl : r.body.length ≤ 1048576 := Nat.le_trans hr.len hN
  clear hr
  unfold Rl.agg
  obtain ⟨⟨kd, pr, p, cp, args⟩, rq, rc, body⟩ := r
  simp only at HI hbl h30 ⊢
  go_enter Try.func5, Try.ntmps5
  go_wp2_with fail
  refine (HF.out _).mono ?_
  rintro e w1 ⟨rfl, hb1⟩
  have HI1 := Lib.hid (HI.out.on hb1)
  obtain ⟨z0, z1, z2, z3⟩ := HI1.out.x.four
  have hA1 : (30 : Int) < (body.length : Int) := by omega
  go_wp2_with fail
  go_ret
  exact ⟨rfl, HI1.out.b⟩
end Go.Proofs.Ytbkdpdklpmcdgaa

/-
  The walk of mandatelaw13.PlanWhole, way C. (Made by tools/mk_pwh.py.)
-/
import Derived.Test.YtbkdpdklpmcdgaaPwt
set_option linter.unusedVariables false
set_option linter.unusedSimpArgs false
namespace Go.Proofs.Ytbkdpdklpmcdgaa
open Go.Maps Go.ChangeMaps Go.WideMaps Go.RowKit

set_option maxHeartbeats 32000000 in
set_option maxRecDepth 100000 in
theorem whole_none (N : Nat) (hN : N ≤ 1048576) (r : Rl) (k : Int) (w : World) (hr : r.Arg w N) (h30 : r.body.length ≤ 30) (hF : fromS r.body k = none) (hG : goesS r.body [] = none) :
    Calls Try.prog 5 #[r.agg, .int .i64 k] w fun e w' => e = .returned (.bool true) ∧ Below w.heap.size w w' := by
  have HI := Lib.hid (show LX w r (w.alloc (.cells #[.int .u8 r.head.kind, .string r.head.pred, .slice r.head.ptr r.head.args.length r.head.cap, .slice r.ptr r.body.length r.cap] 27)) from ⟨below1 w _, Bk0.new w _ _⟩)
  have HF := Lib.hid (fun X => fixed_any X)
  have hbl : r.body.length ≤ 1048576 := Nat.le_trans hr.len hN
  have HCR := Lib.hid (fun X (h : LX w r X) => copyrule_any N hN r X (hr.grow h.b))
  have HPF := Lib.hid (fun (d : Rl) (X : World) (hd : d.Arg X N) (he : d.body.map Fl.bare = r.body.map Fl.bare) => fromS_bare he k ▸ pfrom_any N hN d k X hd (by have := len_bare he; omega))
  have HPO := Lib.hid (fun (d : Rl) (X : World) (hd : d.Arg X N) (he : d.body.map Fl.bare = r.body.map Fl.bare) => goesS_bare he [] ▸ porder_any N hN d X hd (by have := len_bare he; omega))
  rw [hF] at HPF
  rw [hG] at HPO
  clear hr hF hG
  unfold PlanC at HPF HPO
  unfold Rl.agg at HCR ⊢
  obtain ⟨⟨kd, pr, p, cp, args⟩, rq, rc, body⟩ := r
  simp only [Option.getD_none, Option.isSome_none, List.length_nil] at HI HCR HPF HPO hbl h30 ⊢
  go_enter Try.func5, Try.ntmps5
  go_wp2_with fail
  refine (HF.out _).mono ?_
  rintro e w1 ⟨rfl, hb1⟩
  have HI1 := Lib.hid (HI.out.on hb1)
  obtain ⟨z0, z1, z2, z3⟩ := HI1.out.x.four
  clear hb1 HF HI
  have hA1 : ¬ (30 : Int) < (body.length : Int) := by omega
  go_wp2_with fail
  refine (HCR.out _ HI1.out).mono ?_
  rintro e w2 ⟨d, rfl, hda, _, hdb, hb2⟩
  have HI2 := Lib.hid (HI1.out.on hb2)
  have HC := Lib.hid (HPF.out d w2 hda hdb)
  clear hda hdb hb2 z0 z1 z2 z3 HI1 HPF
  go_wp2_with fail
  refine (HC.out).mono ?_
  rintro e w3 ⟨q3, c3, rfl, _, hb3⟩
  have HI3 := Lib.hid (HI2.out.on hb3)
  clear hb3 HC HI2
  obtain ⟨z0, z1, z2, z3⟩ := HI3.out.x.four
  go_wp2_with fail
  refine (HCR.out _ HI3.out).mono ?_
  rintro e w4 ⟨d, rfl, hda, _, hdb, hb4⟩
  have HI4 := Lib.hid (HI3.out.on hb4)
  have HC := Lib.hid (HPO.out d w4 hda hdb)
  clear hda hdb hb4 z0 z1 z2 z3 HI3 HCR HPO
  go_wp2_with fail
  refine (HC.out).mono ?_
  rintro e W3 ⟨ql, c, rfl, _, hb3⟩
  have HI3 := Lib.hid (HI4.out.on hb3)
  clear hb3 HC HI4
  go_wp2_with fail
  go_ret
  exact ⟨rfl, HI3.out.b⟩
end Go.Proofs.Ytbkdpdklpmcdgaa

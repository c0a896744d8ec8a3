/-
  The walk of ChainNil.
-/
import Derived.Test.YtmaonifhimgcjaaDoorCnl
import Derived.Test.YtmaonifhimgcjaaDoorCba
import Derived.Test.YtmaonifhimgcjaaDoorOpc
set_option linter.unusedVariables false
set_option linter.unusedSimpArgs false
namespace Go.Proofs.YtmaonifhimgcjaaDoor
open Go.RowKit

theorem Env3.tab {w : World} (h : Env3 w) : Tab w := fun j hj => by
  refine h.deb j _ ?_
  unfold deB
  rw [List.getElem?_map, List.getElem?_eq_getElem hj]
  simp [List.getD_eq_getElem?_getD, List.getElem?_eq_getElem hj]
set_option maxRecDepth 100000 in
theorem put_nil (label : Int) (e : En) (hk : e.Ok) (w : World) : Calls Tryd.prog 23 #[.pointer none, .int .i64 label, .agg e.cells.toArray] w fun r w' => r = .returned (.int .i64 1) ∧ Below w.heap.size w w' := by
  have HS := Lib.hid (En.size hk)
  have HE := Lib.hid (Eb.start w e)
  go_enter Tryd.func23, Tryd.ntmps23
  go_upto_region 1 with (fail)
  generalize w.alloc (.cells e.cells.toArray 24) = WA at *
  go_wp2_with (go_at_call 46; refine (at_nil _ _).mono ?_; rintro r w1 ⟨rfl, rfl⟩)
  go_ret
  exact ⟨rfl, HE.out.bel⟩

set_option maxRecDepth 100000 in
set_option maxHeartbeats 2000000 in
theorem nil_walk (label : Int) (m : Nat) (hm : m < 18446744073709551616) (e : En) (hk : e.Ok) (w : World) (hE : Env3 w) :
    Calls Tryd.prog 10 #[.int .i64 label, .int .u64 m, .agg e.cells.toArray] w fun r w' => r = .returned (.bool true) ∧ Below w.heap.size w w' := by
  have HS := Lib.hid (En.size hk)
  have HK := Lib.hid hk
  have HM := Lib.hid hm
  have HE := Lib.hid hE
  have HEB := Lib.hid (Eb.start w e)
  clear hk hm hE
  go_enter Tryd.func10, Tryd.ntmps10
  go_upto_region 1 with (fail)
  generalize w.alloc (.cells e.cells.toArray 24) = WA at *
  go_upto_region 4 with (go_at_call 13; refine (fixed_any _ (HE.out.on HEB.out.bel)).mono ?_; rintro r w1 ⟨rfl, hb⟩; have HEB1 := Lib.hid (HEB.out.on (hb.mono HEB.out.size)); clear hb)
  go_upto_region 5 with (go_at_call 24; refine (head_nil _ _).mono ?_; rintro r w2 ⟨rfl, hb⟩; have HEB2 := Lib.hid (HEB1.out.on (hb.mono HEB1.out.size)); clear hb)
  go_wp2_with (first
    | (refine wpList_load_row rfl 24 _ rfl _ rfl _ _ _ _ HEB2.out.bk Tryd.underlying24 rfl (by rw [HS.out]; kernel_rfl) ?_)
    | (go_at_call 23; refine (put_nil _ e HK.out _).mono ?_; rintro r w3 ⟨rfl, hb⟩; have HEB3 := Lib.hid (HEB2.out.on (hb.mono HEB2.out.size)); clear hb)
    | (go_at_call 25; refine (len_nil _ _).mono ?_; rintro r w4 ⟨rfl, hb⟩; have HEB4 := Lib.hid (HEB3.out.on (hb.mono HEB3.out.size)); clear hb)
    | (go_at_call 26; refine (lines_nil m HM.out _ (HE.out.on HEB4.out.bel).tab (HE.out.on HEB4.out.bel).lt).mono ?_; rintro r w5 ⟨rfl, hb⟩; have HEB5 := Lib.hid (HEB4.out.on (hb.mono HEB4.out.size)); clear hb))
  go_ret
  exact ⟨by rfl, HEB5.out.bel⟩
open Go.ChangeShapes Go.WideShapes Go.ChangeAt Go.WideMaps Go.WideElems Go.RowKit Go.Joins Go.Deep
theorem nil_walk_int (label : Int) (n : Int) (hn : (Lit.int .u64 n).wf = true) (e : En) (hk : e.Ok) (w : World) (hE : Env3 w) :
    Calls Tryd.prog 10 #[.int .i64 label, .int .u64 n, .agg e.cells.toArray] w fun r w' => r = .returned (.bool true) ∧ Below w.heap.size w w' := by
  have h2 := (Lit.wf_int_iff _ _).1 hn
  have h3 : IntKind.min .u64 = 0 := by decide
  have h4 : IntKind.max .u64 = 18446744073709551615 := by decide
  rw [h3, h4] at h2
  obtain ⟨m, rfl⟩ : ∃ m : Nat, n = (m : Int) := ⟨n.toNat, by omega⟩
  exact nil_walk label m (by omega) e hk w hE
end Go.Proofs.YtmaonifhimgcjaaDoor

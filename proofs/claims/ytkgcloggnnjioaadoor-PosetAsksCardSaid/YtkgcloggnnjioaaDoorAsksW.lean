/-
  The walk of mandatelaw04.PosetAsks.
-/
import Derived.Test.YtkgcloggnnjioaaDoorFixed
import Derived.Test.YtkgcloggnnjioaaDoorCopy
import Derived.Test.YtkgcloggnnjioaaDoorRefJ
namespace Go.Proofs.YtkgcloggnnjioaaDoor
open Go.RowKit

theorem joinV_form (ms : List Nat) (a b : Int) : ∃ (x : Int) (y : Bool), joinV ms a b = .tuple #[.int .i64 x, .bool y] := by
  cases h : joinR ms a b with
  | some c => exact ⟨c, true, joinV_some h⟩
  | none => exact ⟨0, false, joinV_none h⟩

set_option maxRecDepth 100000 in
set_option maxHeartbeats 4000000 in
theorem asks_walk (ms : List Nat) (p : Option Addr) (c : Nat) (a b : Int) (w : World) (hz : ms.length * 8 ≤ 140737488355328) (hs : Small ms) (hp : Us w w.heap.size p ms) (hT : Tab w) (hg : 0 < w.heap.size) :
    Calls Tryd.prog 5 #[.slice p ms.length c, .int .i64 a, .int .i64 b] w fun e W' => e = .returned (.bool true) ∧ Below w.heap.size w W' := by
  have hzl : ms.length ≤ maxLen := by unfold maxLen; omega
  have HP := Lib.hid hp
  have HT := Lib.hid hT
  have HS := Lib.hid hs
  have HZ := Lib.hid hzl
  obtain ⟨x, y, hv⟩ := joinV_form ms a b
  have HV := Lib.hid hv
  have HA1 := Lib.hid ((Below.refl w.heap.size w).alloc (Nat.le_refl _) (.cells #[] 36))
  have HK := Lib.hid (World.alloc_heap_new w (.cells #[] 36))
  have HP1 := Lib.hid (HP.out.below HA1.out (Nat.le_refl _))
  clear hp hT hs hzl hv
  go_enter Tryd.func5, Tryd.ntmps5
  go_wp2_with (at_builtin; refine wpList_copyM (by rfl) (.tmp 12) (.tmp 13) rfl w.heap.size rfl HK.out p ms c rfl HP1.out hz ?_)
  intro g cap W2 _ hus hb2
  have hB2 := HA1.out.trans hb2
  have HB2 := Lib.hid hB2
  have HU := Lib.hid hus
  have HJ := join_any ms (some ⟨g, 0, none⟩) cap a b W2 HZ.out HS.out hus (HT.out.below hB2 hg) (by have := hB2.size; omega)
  rw [HV.out] at HJ
  have HJ := Lib.hid HJ
  clear hb2 hB2 hus
  go_wp2_with fail
  refine HJ.out.mono ?_
  rintro e W3 ⟨rfl, hb3⟩
  have hB3 := HB2.out.trans (hb3.mono HB2.out.size)
  have HU3 := Lib.hid ((HU.out.below hb3 (Nat.le_refl _)).up hb3.size)
  have HB3 := Lib.hid hB3
  have HQ := rjoin_any ms p c a b W3 HZ.out HS.out ((HP.out.below hB3 (Nat.le_refl _)).up hB3.size)
  rw [HV.out] at HQ
  have HQ := Lib.hid HQ
  have HF := Lib.hid (fixed_any W3 (HT.out.below hB3 hg) (by have := hB3.size; omega))
  clear hb3 hB3 HJ HU
  go_wp2_with (first | (go_at_call 18; refine HQ.out.mono ?_; rintro e w' ⟨rfl, rfl⟩))
  refine HF.out.mono ?_
  rintro e W4 ⟨rfl, hb4⟩
  have hB4 := HB3.out.trans (hb4.mono HB3.out.size)
  have hu4 := (HU3.out.below hb4 (Nat.le_refl _)).up hb4.size
  have HU4 := Lib.hid hu4
  have HB4 := Lib.hid hB4
  have HAT := Lib.hid (at_any ms (some ⟨g, 0, none⟩) cap a b W4 HZ.out HS.out hu4 (HT.out.below hB4 hg) (by have := hB4.size; omega))
  clear hb4 hB4 HU3 HQ HF hu4
  generalize hr : atB ms a b = r at *
  have HRT := Lib.hid (show ∀ W5, Below w.heap.size w W5 → Calls Tryd.prog 20 #[.slice p ms.length c, .int .i64 a, .int .i64 b] W5 fun e w' => e = .returned (.bool r) ∧ W5 = w' from fun W5 h => hr ▸ rat_any ms p c a b W5 HZ.out HS.out ((HP.out.below h (Nat.le_refl _)).up h.size))
  clear hr
  go_wp2_with fail
  refine HAT.out.mono ?_
  rintro e W5 ⟨rfl, hb5⟩
  have hB5 := HB4.out.trans (hb5.mono HB4.out.size)
  have hu5 := (HU4.out.below hb5 (Nat.le_refl _)).up hb5.size
  have HU5 := Lib.hid hu5
  have HB5 := Lib.hid hB5
  have HRT5 := Lib.hid (HRT.out W5 hB5)
  have HAB := Lib.hid (above_any ms (some ⟨g, 0, none⟩) cap a W5 HZ.out HS.out hu5 (HT.out.below hB5 hg) (by have := hB5.size; omega))
  clear hb5 hB5 HU4 HAT HRT hu5
  generalize hr : aboveM ms a = r2 at *
  have HRA := Lib.hid (show ∀ W5, Below w.heap.size w W5 → Calls Tryd.prog 22 #[.slice p ms.length c, .int .i64 a] W5 fun e w' => e = .returned (.int .u64 (r2 : Nat)) ∧ W5 = w' from fun W5 h => hr ▸ rabove_any ms p c a W5 HZ.out HS.out ((HP.out.below h (Nat.le_refl _)).up h.size))
  clear hr
  go_wp2_with (go_at_call 20; refine HRT5.out.mono ?_; rintro e w' ⟨rfl, rfl⟩)
  refine HAB.out.mono ?_
  rintro e W6 ⟨rfl, hb6⟩
  have hB6 := HB5.out.trans (hb6.mono HB5.out.size)
  have hu6 := (HU5.out.below hb6 (Nat.le_refl _)).up hb6.size
  have HB6 := Lib.hid hB6
  have HRA6 := Lib.hid (HRA.out W6 hB6)
  have HBL := Lib.hid (below_any ms (some ⟨g, 0, none⟩) cap a W6 HZ.out HS.out hu6 (HT.out.below hB6 hg) (by have := hB6.size; omega))
  clear hb6 hB6 HU5 HAB HRA HRT5 hu6
  generalize hr : belowM ms a = r3 at *
  have HRB := Lib.hid (show ∀ W5, Below w.heap.size w W5 → Calls Tryd.prog 24 #[.slice p ms.length c, .int .i64 a] W5 fun e w' => e = .returned (.int .u64 (r3 : Nat)) ∧ W5 = w' from fun W5 h => hr ▸ rbelow_any ms p c a W5 HZ.out HS.out ((HP.out.below h (Nat.le_refl _)).up h.size))
  clear hr
  go_wp2_with (go_at_call 22; refine HRA6.out.mono ?_; rintro e w' ⟨rfl, rfl⟩)
  refine HBL.out.mono ?_
  rintro e W7 ⟨rfl, hb7⟩
  have hB7 := HB6.out.trans (hb7.mono HB6.out.size)
  have HB7 := Lib.hid hB7
  have HRB7 := Lib.hid (HRB.out W7 hB7)
  clear hb7 hB7 HBL HRB HRA6
  go_wp2_with (go_at_call 24; refine HRB7.out.mono ?_; rintro e w' ⟨rfl, rfl⟩)
  go_ret
  exact ⟨rfl, HB7.out⟩
end Go.Proofs.YtkgcloggnnjioaaDoor

/-
  The walk of mandatelaw04.PosetBuilds.
-/
import Derived.Test.YtkgcloggnnjioaaDoorFixed
import Derived.Test.YtkgcloggnnjioaaDoorCopy
import Derived.Test.YtkgcloggnnjioaaDoorBAns
namespace Go.Proofs.YtkgcloggnnjioaaDoor
open Go.RowKit

set_option maxRecDepth 100000 in
set_option maxHeartbeats 2000000 in
theorem builds_walk (n : Int) (ps : List (Int × Int)) (p : Option Addr) (c : Nat) (w : World) (hz : ps.length ≤ maxLen) (hp : Ps w w.heap.size p ps) (hT : Tab w) (hg : 0 < w.heap.size) :
    Calls Tryd.prog 3 #[.int .i64 n, .slice p ps.length c] w fun e W' => e = .returned (.bool true) ∧ Below w.heap.size w W' := by
  have HF := Lib.hid (fixed_any w hT hg)
  have HP := Lib.hid hp
  have HT := Lib.hid hT
  have HZ := Lib.hid hz
  unfold maxLen at hz
  clear hp hT
  by_cases hlong : 500 < ps.length
  · go_enter Tryd.func3, Tryd.ntmps3
    go_wp2_with fail
    refine HF.out.mono ?_
    rintro e W1 ⟨rfl, hb⟩
    have HB1 := Lib.hid hb
    clear hb
    go_wp2_with fail
    go_ret
    exact ⟨rfl, HB1.out⟩
  · go_enter Tryd.func3, Tryd.ntmps3
    go_wp2_with fail
    refine HF.out.mono ?_
    rintro e W1 ⟨rfl, hb⟩
    have HB1 := Lib.hid hb
    have HA1 := Lib.hid ((hb.alloc hb.size (.cells #[] 44)))
    have HK := Lib.hid (World.alloc_heap_new W1 (.cells #[] 44))
    have HP1 := Lib.hid (HP.out.below HA1.out (Nat.le_refl _))
    have hz16 : ps.length * 16 ≤ 140737488355328 := by omega
    clear hb
    go_wp2_with (at_builtin; refine wpList_copyP (by rfl) (.tmp 16) (.tmp 17) rfl W1.heap.size rfl HK.out p ps c rfl HP1.out hz16 ?_)
    intro g cap W2 _ hps hb2 _
    have hB2 := HA1.out.trans (hb2.mono HB1.out.size)
    have HB2 := Lib.hid hB2
    have HR := Lib.hid (build_all n ps (some ⟨g, 0, none⟩) cap W2 HZ.out hps (HT.out.below hB2 hg) (by have := hB2.size; omega))
    clear hb2 hB2 hps
    go_wp2_with fail
    refine HR.out.mono ?_
    rintro e W3 ⟨⟨q, cq, rfl, hus⟩, hb3⟩
    have hB3 := HB2.out.trans (hb3.mono HB2.out.size)
    have HB3 := Lib.hid hB3
    have HUS := Lib.hid hus
    have HQ := Lib.hid (rbuild_all n ps p c W3 HZ.out ((HP.out.below hB3 (Nat.le_refl _)).up hB3.size))
    have HL := Lib.hid (ansM_len n ps)
    clear hb3 hB3 hus HR
    generalize hE : ansE n ps = er at *
    go_wp2_with fail
    refine HQ.out.mono ?_
    rintro e W4 ⟨⟨r, cr, rfl, hus4⟩, hb4⟩
    rw [hE]
    have hB4 := HB3.out.trans (hb4.mono HB3.out.size)
    have HB4 := Lib.hid hB4
    have hMM := masks_any q r (ansM n ps) (ansM n ps) cq cr W4 ((HUS.out.below hb4 (Nat.le_refl _)).up hb4.size) hus4 (by have := HL.out; unfold maxLen; omega) (by have := HL.out; unfold maxLen; omega)
    rw [show decide (ansM n ps = ansM n ps) = true by simp] at hMM
    have HMM := Lib.hid hMM
    clear hb4 hB4 hus4 HQ hE hMM
    generalize (ansM n ps).length = len at *
    go_wp2_with fail
    refine HMM.out.mono ?_
    rintro e W5 ⟨rfl, hb5⟩
    have HB5 := Lib.hid (HB4.out.trans (hb5.mono HB4.out.size))
    clear hb5
    go_wp2_with fail
    go_ret
    exact ⟨rfl, HB5.out⟩
end Go.Proofs.YtkgcloggnnjioaaDoor

/-
  The walk of mandatelaw04.PosetRight.
-/
import Derived.Test.YtkgcloggnnjioaaDoorFixed
import Derived.Test.YtkgcloggnnjioaaDoorCopy
import Derived.Test.YtkgcloggnnjioaaDoorRefA
namespace Go.Proofs.YtkgcloggnnjioaaDoor
open Go.RowKit

set_option maxRecDepth 100000 in
set_option maxHeartbeats 2000000 in
theorem right_walk (ms : List Nat) (p : Option Addr) (c : Nat) (w : World) (hz : ms.length * 8 ≤ 140737488355328) (hs : Small ms) (hp : Us w w.heap.size p ms) (hT : Tab w) (hg : 0 < w.heap.size) :
    Calls Tryd.prog 4 #[.slice p ms.length c] w fun e W' => e = .returned (.bool true) ∧ Below w.heap.size w W' := by
  have HF := Lib.hid (fixed_any w hT hg)
  have hzl : ms.length ≤ maxLen := by unfold maxLen; omega
  have HP := Lib.hid hp
  have HT := Lib.hid hT
  have HS := Lib.hid hs
  have HZ := Lib.hid hzl
  clear hp hT hs hzl
  go_enter Tryd.func4, Tryd.ntmps4
  go_wp2_with fail
  refine HF.out.mono ?_
  rintro e W1 ⟨rfl, hb⟩
  have HB1 := Lib.hid hb
  have HA1 := Lib.hid ((hb.alloc hb.size (.cells #[] 36)))
  have HK := Lib.hid (World.alloc_heap_new W1 (.cells #[] 36))
  have HP1 := Lib.hid (HP.out.below HA1.out (Nat.le_refl _))
  clear hb
  go_wp2_with (at_builtin; refine wpList_copyM (by rfl) (.tmp 5) (.tmp 6) rfl W1.heap.size rfl HK.out p ms c rfl HP1.out hz ?_)
  intro g cap W2 _ hus hb2
  have hB2 := HA1.out.trans (hb2.mono HB1.out.size)
  have HB2 := Lib.hid hB2
  have HR := Lib.hid (right_any ms (some ⟨g, 0, none⟩) cap W2 HZ.out HS.out hus (HT.out.below hB2 hg) (by have := hB2.size; omega))
  clear hb2 hB2 hus
  cases ho : ordB ms
  all_goals
    rw [ho] at HR
    go_wp2_with fail
    refine HR.out.mono ?_
    rintro e W3 ⟨rfl, hb3⟩
    have hB3 := HB2.out.trans (hb3.mono HB2.out.size)
    have HB3 := Lib.hid hB3
    have HQ := rright_any ms p c W3 HZ.out HS.out ((HP.out.below hB3 (Nat.le_refl _)).up hB3.size)
    rw [ho] at HQ
    have HQ := Lib.hid HQ
    clear hb3 hB3
    go_wp2_with (go_at_call 16; refine HQ.out.mono ?_; rintro e w' ⟨rfl, rfl⟩)
    go_ret
    exact ⟨rfl, HB3.out⟩
end Go.Proofs.YtkgcloggnnjioaaDoor

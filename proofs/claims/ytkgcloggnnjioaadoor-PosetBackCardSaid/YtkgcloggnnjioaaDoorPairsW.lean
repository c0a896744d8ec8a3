/-
  The walk of mandatelaw04.PosetPairs.
-/
import Derived.Test.YtkgcloggnnjioaaDoorFixed
import Derived.Test.YtkgcloggnnjioaaDoorCopy
import Derived.Test.YtkgcloggnnjioaaDoorRefP
namespace Go.Proofs.YtkgcloggnnjioaaDoor
open Go.RowKit

theorem rpairs_any (ms : List Nat) (p : Option Addr) (c : Nat) (w : World) (hz : ms.length ≤ maxLen) (hs : Small ms) (hp : Us w w.heap.size p ms) :
    Calls Tryd.prog 27 #[.slice p ms.length c] w fun e W' => (∃ v, e = .returned v ∧ W'.ownsRow w.heap.size 44 2 v (pairsR ms).length (cellsP (pairsR ms))) ∧ Below w.heap.size w W' := by
  by_cases ho : OrdM ms
  · have e : pairsR ms = pairsM ms := if_pos ho
    rw [e]
    exact rpairs_yes ms p c w hs hp ho
  · have e : pairsR ms = [] := if_neg ho
    rw [e]
    have HR := rright_any ms p c w hz hs hp
    rw [ordB_false ho] at HR
    have HR := Lib.hid HR
    clear hs hp ho e
    go_enter Tryd.func27, Tryd.ntmps27
    go_wp2_with (go_at_call 16; refine HR.out.mono ?_; rintro e w' ⟨rfl, rfl⟩)
    go_ret
    exact ⟨⟨_, rfl, World.ownsRow_nil _ _ _ _⟩, Below.refl _ _⟩
theorem ups_len (ps : List (Nat × Nat)) : (ups ps).length = ps.length := by unfold ups; simp
theorem pairsR_len (ms : List Nat) : (pairsR ms).length ≤ 4096 := by
  by_cases ho : OrdM ms
  · rw [show pairsR ms = pairsM ms from if_pos ho]
    exact pairs_len ms _ ho.2.1
  · rw [show pairsR ms = [] from if_neg ho]; simp

set_option maxRecDepth 100000 in
set_option maxHeartbeats 2000000 in
theorem pairs_walk (ms : List Nat) (p : Option Addr) (c : Nat) (w : World) (hz : ms.length * 8 ≤ 140737488355328) (hs : Small ms) (hp : Us w w.heap.size p ms) (hT : Tab w) (hg : 0 < w.heap.size) :
    Calls Tryd.prog 6 #[.slice p ms.length c] w fun e W' => e = .returned (.bool true) ∧ Below w.heap.size w W' := by
  have HF := Lib.hid (fixed_any w hT hg)
  have hzl : ms.length ≤ maxLen := by unfold maxLen; omega
  have HP := Lib.hid hp
  have HT := Lib.hid hT
  have HS := Lib.hid hs
  have HZ := Lib.hid hzl
  clear hp hT hs hzl
  go_enter Tryd.func6, Tryd.ntmps6
  go_wp2_with fail
  refine HF.out.mono ?_
  rintro e W1 ⟨rfl, hb⟩
  have HB1 := Lib.hid hb
  have HA1 := Lib.hid ((hb.alloc hb.size (.cells #[] 36)))
  have HK := Lib.hid (World.alloc_heap_new W1 (.cells #[] 36))
  have HP1 := Lib.hid (HP.out.below HA1.out (Nat.le_refl _))
  clear hb
  go_wp2_with (at_builtin; refine wpList_copyM (by rfl) (.tmp 5) (.tmp 6) rfl W1.heap.size rfl HK.out p ms c rfl HP1.out hz ?_)
  intro g cap W2 _ hus hb2
  have hB2 := HA1.out.trans (hb2.mono HB1.out.size)
  have HB2 := Lib.hid hB2
  have HR := Lib.hid (pairs_any ms (some ⟨g, 0, none⟩) cap W2 HZ.out HS.out hus (HT.out.below hB2 hg) (by have := hB2.size; omega))
  clear hb2 hB2 hus
  go_wp2_with fail
  refine HR.out.mono ?_
  rintro e W3 ⟨⟨v, rfl, hown⟩, hb3⟩
  have hB3 := HB2.out.trans (hb3.mono HB2.out.size)
  have hl := ups_len (pairsR ms)
  obtain ⟨q, cq, rfl, hps⟩ := own_psv (ps := ups (pairsR ms)) (by rw [hl, cellsI_ups]; exact hown)
  rw [hl]
  have HB3 := Lib.hid hB3
  have HPS := Lib.hid hps
  have HQ := Lib.hid (rpairs_any ms p c W3 HZ.out HS.out ((HP.out.below hB3 (Nat.le_refl _)).up hB3.size))
  clear hb3 hB3 hown hps HR hl
  go_wp2_with fail
  refine HQ.out.mono ?_
  rintro e W4 ⟨⟨v, rfl, hown⟩, hb4⟩
  have hB4 := HB3.out.trans (hb4.mono HB3.out.size)
  have hl := ups_len (pairsR ms)
  obtain ⟨r, cr, rfl, hps2⟩ := own_psv (ps := ups (pairsR ms)) (by rw [hl, cellsI_ups]; exact hown)
  have hps1 := (HPS.out.below hb4 (Nat.le_refl _)).up hb4.size
  have hL := pairsR_len ms
  have HSA := same_any q r (ups (pairsR ms)) (ups (pairsR ms)) cq cr W4 hps1 hps2 (by rw [hl]; unfold maxLen; omega) (by rw [hl]; unfold maxLen; omega)
  rw [hl, show decide (ups (pairsR ms) = ups (pairsR ms)) = true by simp] at HSA
  have HSA := Lib.hid HSA
  have HB4 := Lib.hid hB4
  rw [hl]
  clear hb4 hB4 hown hps1 hps2 HQ HPS hl
  go_wp2_with fail
  refine HSA.out.mono ?_
  rintro e W5 ⟨rfl, hb5⟩
  have HB5 := Lib.hid (HB4.out.trans (hb5.mono HB4.out.size))
  clear hb5
  go_wp2_with fail
  go_ret
  exact ⟨rfl, HB5.out⟩
end Go.Proofs.YtkgcloggnnjioaaDoor

/-
  Contract: chain.allGood.
-/
import Derived.Test.YtammglimobninaaDoorHri
set_option linter.unusedVariables false
set_option linter.unusedSimpArgs false
namespace Go.Proofs.YtammglimobninaaDoor
open Go.RowKit Nm

def enZ : En := ⟨ByteArray.empty, 0, ByteArray.empty, List.replicate 32 0, rfl⟩
theorem En.one (e : En) : e.cells.toArray.all (·.oneCell') = true := all_oneCell_toArray (by
  intro v hv
  simp only [En.cells, List.mem_cons] at hv
  rcases hv with rfl | rfl | rfl | hv
  · rfl
  · rfl
  · rfl
  · obtain ⟨x, _, rfl⟩ := List.mem_map.1 hv; rfl)
theorem En.asize (e : En) : e.cells.toArray.size = 35 := by rw [List.size_toArray, En.length]

set_option maxRecDepth 100000 in
set_option maxHeartbeats 1000000 in
theorem allgood_any (q : Option Addr) (l : List En) (c : Nat) (w : World) (hL : Ens w q l) (hn : l.length ≤ 9223372036854775807) :
    Calls Tryd.prog 37 #[.slice q l.length c] w fun r w' => r = .returned (.bool (l.all goodB)) ∧ Below w.heap.size w w' := by
  have HL := Lib.hid hL
  clear hL
  go_enter Tryd.func37, Tryd.ntmps37
  go_wp2_with fail
  go_loopw [7] (fun i wr => ∃ k : Nat, k ≤ l.length ∧ i = .int .i64 k ∧ Hid ((l.take k).all goodB = true) ∧ Below w.heap.size w wr) (fun i _ => l.length - (intOf i).toNat)
  case atStart => exact ⟨0, by omega, rfl, Lib.hid rfl, Below.refl _ _⟩
  case round =>
    obtain ⟨k, hk, rfl, HG, hb⟩ := hrel
    have HB := Lib.hid hb
    clear hb
    have w3 : (0 : Int) ≤ (k : Int) := by omega
    by_cases hlt : k < l.length
    · have w4 : (k : Int) < (l.length : Int) := by omega
      have HLW := Lib.hid (HL.out.on HB.out)
      obtain ⟨b, off, rfl, hbl, hr⟩ := HLW.out.at k hlt
      have HR := Lib.hid (show (wr.alloc (.cells enZ.cells.toArray 24)).rangeAt b (off + k * 35) (l[k]).cells from fun j v hv => by rw [(below1 wr _).cell (p := ⟨b, off + k * 35 + j, none⟩) hbl]; exact hr j v hv)
      have HR0 := Lib.hid hr
      have HK := Lib.hid (HL.out.ok l[k] (List.getElem_mem hlt))
      have HT := Lib.hid (List.take_succ_eq_append_getElem hlt)
      have HA := Lib.hid (show goodB l[k] = false → l.all goodB = false from fun h => by
        rw [Bool.eq_false_iff]; intro hh
        have := List.all_eq_true.1 hh _ (List.getElem_mem hlt)
        rw [h] at this; cases this)
      clear hr
      generalize l[k] = e at *
      go_upto_region 4 with (first
        | (refine wpList_load_mid rfl 24 _ rfl b (off + k * 35) rfl _ _ HR0.out Tryd.underlying24 rfl (by rw [En.length]; kernel_rfl) ?_)
        | (refine wpList_store_row rfl 24 _ _ rfl _ _ rfl rfl _ _ (Bk.new _ _ _) (by rw [En.asize]; kernel_rfl) (by rw [En.asize]; rfl) (En.one _) ?_))
      rw [World.setRow_alloc_new]
      have HBK := Lib.hid (Bk.new wr 24 e.cells.toArray)
      have HBW := Lib.hid (HB.out.trans ((below1 wr (.cells e.cells.toArray 24)).mono HB.out.size))
      generalize wr.alloc (.cells e.cells.toArray 24) = WX at *
      (try simp only [Act.put])
      clear HR HR0
      rcases Bool.eq_false_or_eq_true (goodB e) with h1 | h1
      · go_wp2_with (first
          | (refine wpList_load_row rfl 24 _ rfl _ rfl _ _ _ _ HBK.out Tryd.underlying24 rfl (by rw [En.asize]; kernel_rfl) ?_)
          | (go_at_call 14; refine (good_any e HK.out _).mono ?_; rw [h1]; rintro r w2 ⟨rfl, hb⟩; have HB2 := Lib.hid (HBW.out.trans (hb.mono HBW.out.size)); clear hb))
        go_roundw
        case rel => exact ⟨k + 1, by omega, by go_num, Lib.hid (by rw [HT.out, List.all_append, HG.out]; simp [h1]), HB2.out⟩
        case measure => simp [intOf]; omega
      · go_wp2_with (first
          | (refine wpList_load_row rfl 24 _ rfl _ rfl _ _ _ _ HBK.out Tryd.underlying24 rfl (by rw [En.asize]; kernel_rfl) ?_)
          | (go_at_call 14; refine (good_any e HK.out _).mono ?_; rw [h1]; rintro r w2 ⟨rfl, hb⟩; have HB2 := Lib.hid (HBW.out.trans (hb.mono HBW.out.size)); clear hb))
        go_ret
        exact ⟨by rw [HA.out h1]; rfl, HB2.out⟩
    · obtain rfl : k = l.length := by omega
      have hG := HG.out
      rw [List.take_length] at hG
      have HG := Lib.hid hG
      clear hG
      obtain ⟨wq, rfl⟩ : ∃ wq : World, wq = wr := ⟨_, rfl⟩
      go_wp2_with fail
      go_ret
      exact ⟨by rw [HG.out]; rfl, HB.out⟩
end Go.Proofs.YtammglimobninaaDoor

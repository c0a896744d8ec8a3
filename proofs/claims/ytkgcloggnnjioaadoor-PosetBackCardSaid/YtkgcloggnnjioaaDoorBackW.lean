/-
  The walk of mandatelaw04.PosetBack.
-/
import Derived.Test.YtkgcloggnnjioaaDoorFixed
import Derived.Test.YtkgcloggnnjioaaDoorBackA
import Derived.Deep.RegionHeld3
import Derived.Deep.DeepCutAuto
import Derived.Deep.Slices
namespace Go.Proofs.YtkgcloggnnjioaaDoor
open Go.RowKit

theorem own_psc {w : World} {base : Nat} {v : Value} {ps : List (Int × Int)} (h : w.ownsRow base 44 2 v ps.length (cellsI ps)) : ∃ p cap, v = .slice p ps.length cap ∧ ps.length ≤ cap ∧ cap ≤ maxLen ∧ Ps w w.heap.size p ps := by
  rcases h.2 with ⟨rfl, h0⟩ | ⟨g, cap, cur, rfl, hb, hg, h1, h2, _⟩
  · exact ⟨none, 0, by rw [h0], by omega, by unfold maxLen; omega, .inl (List.length_eq_zero_iff.1 h0)⟩
  · exact ⟨_, cap, rfl, h1, h2, own_ps h (Array.getElem?_eq_some_iff.1 hg).1⟩

theorem but_all {ms : List Nat} (hs : Small ms) (ho : OrdM ms) (i : Nat) (hi : i < (ups (pairsM ms)).length) :
    ansE ms.length ((ups (pairsM ms)).take i ++ (ups (pairsM ms)).drop (i + 1)) = 0 ∧ ansM ms.length ((ups (pairsM ms)).take i ++ (ups (pairsM ms)).drop (i + 1)) ≠ ms := by
  have h := but_ans hs ho (i := i) (by rwa [ups_len] at hi)
  have e : ups (butP ms i) = (ups (pairsM ms)).take i ++ (ups (pairsM ms)).drop (i + 1) := by
    unfold ups butP
    rw [List.map_append, List.map_take, List.map_drop]
  rwa [e] at h
/-- what the law's loop knows -/
structure KI (w : World) (q : Option Addr) (ms : List Nat) (l : Option Addr) (L : List (Int × Int)) (W : World) : Prop where
  us : Us W W.heap.size q ms
  ls : Ps W W.heap.size l L
  below : Below w.heap.size w W
theorem KI.step {w W W' : World} {q l : Option Addr} {ms : List Nat} {L : List (Int × Int)} (h : KI w q ms l L W) (hb : Below W.heap.size W W') : KI w q ms l L W' :=
  ⟨(h.us.below hb (Nat.le_refl _)).up hb.size, (h.ls.below hb (Nat.le_refl _)).up hb.size, h.below.trans (hb.mono h.below.size)⟩
theorem KI.drew {w W : World} {q l : Option Addr} {ms : List Nat} {L : List (Int × Int)} (h : KI w q ms l L W) : KI w q ms l L W.drew := h.step (Below.refl _ W).drew

set_option maxRecDepth 100000 in
set_option maxHeartbeats 16000000 in
theorem back_walk (n : Int) (ps : List (Int × Int)) (p : Option Addr) (c : Nat) (w : World) (hz : ps.length ≤ maxLen) (hp : Ps w w.heap.size p ps) (hT : Tab w) (hg : 0 < w.heap.size) :
    Calls Tryd.prog 8 #[.int .i64 n, .slice p ps.length c] w fun e W' => e = .returned (.bool true) ∧ Below w.heap.size w W' := by
  have HF := Lib.hid (fixed_any w hT hg)
  have HP := Lib.hid hp
  have HT := Lib.hid hT
  have HZ := Lib.hid hz
  unfold maxLen at hz
  clear hp hT
  go_enter Tryd.func8, Tryd.ntmps8
  go_wp2_with fail
  refine HF.out.mono ?_
  rintro e W1 ⟨rfl, hb⟩
  have HB1 := Lib.hid hb
  clear hb HF
  by_cases hlong : 500 < ps.length
  · go_wp2_with fail
    go_ret
    exact ⟨rfl, HB1.out⟩
  · have HA1 := Lib.hid ((HB1.out.alloc HB1.out.size (.cells #[] 44)))
    have HK := Lib.hid (World.alloc_heap_new W1 (.cells #[] 44))
    have HP1 := Lib.hid (HP.out.below HA1.out (Nat.le_refl _))
    have hz16 : ps.length * 16 ≤ 140737488355328 := by omega
    have d500 : decide (500 < (ps.length : Int)) = false := by simp; omega
    go_wp2_with (at_builtin; refine wpList_copyP (by rfl) (.tmp 22) (.tmp 23) rfl W1.heap.size rfl HK.out p ps c rfl HP1.out hz16 ?_)
    intro g cap W2 _ hps hb2 _
    have hB2 := HA1.out.trans (hb2.mono HB1.out.size)
    have HB2 := Lib.hid hB2
    have HR := Lib.hid (build_all n ps (some ⟨g, 0, none⟩) cap W2 HZ.out hps (HT.out.below hB2 hg) (by have := hB2.size; omega))
    clear hb2 hB2 hps HP1 HK HA1
    go_wp2_with fail
    refine HR.out.mono ?_
    rintro e W3 ⟨⟨q, cq, rfl, hus⟩, hb3⟩
    have hB3 := HB2.out.trans (hb3.mono HB2.out.size)
    have HB3 := Lib.hid hB3
    have HUS := Lib.hid hus
    clear hb3 hB3 hus HR
    by_cases hE : ansE n ps = 0
    · obtain ⟨m, rfl, h1, h2, hk, ho, hM⟩ := ansM_ord hE
      have HAT := Lib.hid (fun i (hi : i < ps.length) => back_at hk ho hi)
      have hlen : (closedM m (natP ps)).length = m := closedM_len _ _
      have HS := Lib.hid (small_closedM h2 (natP_lt hk))
      rw [hE, hM]
      rw [hM] at HUS
      generalize closedM m (natP ps) = ms at *
      subst hlen
      have HPR := Lib.hid (pairs_any ms q cq W3 (by unfold maxLen; omega) HS.out HUS.out (HT.out.below HB3.out hg) (by have := HB3.out.size; omega))
      rw [show pairsR ms = pairsM ms from if_pos ho] at HPR
      have HO := Lib.hid ho
      clear ho hE hM hk
      go_wp2_with fail
      refine HPR.out.mono ?_
      rintro e W4 ⟨⟨v, rfl, hown⟩, hb4⟩
      have hl := ups_len (pairsM ms)
      obtain ⟨l, cl, rfl, hcl, hcm, hls⟩ := own_psc (ps := ups (pairsM ms)) (by rw [hl, cellsI_ups]; exact hown)
      have HL := Lib.hid (show (ups (pairsM ms)).length ≤ 4096 from hl ▸ pairs_len ms _ h2)
      have HAG := Lib.hid (again_ans HS.out HO.out)
      have HBUT := Lib.hid (fun i (hi : i < (ups (pairsM ms)).length) => but_all HS.out HO.out i hi)
      clear hown
      generalize ups (pairsM ms) = L at *
      clear hl
      have HKI := Lib.hid (show KI w q ms l L W4 from ⟨(HUS.out.below hb4 (Nat.le_refl _)).up hb4.size, hls, HB3.out.trans (hb4.mono HB3.out.size)⟩)
      clear hb4 hls HPR HUS HB3
      have HX := Lib.hid (HKI.out.step ((Below.refl _ W4).alloc (Nat.le_refl _) (.cells #[] 44)))
      have HK := Lib.hid (World.alloc_heap_new W4 (.cells #[] 44))
      have hz16l : L.length * 16 ≤ 140737488355328 := by have := HL.out; omega
      go_wp2_with (at_builtin; refine wpList_copyP (by rfl) (.tmp 37) (.tmp 38) rfl W4.heap.size rfl HK.out l L cl rfl HX.out.ls hz16l ?_)
      intro g2 cap2 W5 _ hps5 hb5 _
      have hK5 : KI w q ms l L W5 := HKI.out.step (((Below.refl _ W4).alloc (Nat.le_refl _) (.cells #[] 44)).trans hb5)
      have HK5 := Lib.hid hK5
      have HR2 := build_all ms.length L (some ⟨g2, 0, none⟩) cap2 W5 (by have := HL.out; unfold maxLen; omega) hps5 (HT.out.below hK5.below hg) (by have := hK5.below.size; omega)
      unfold BAns at HR2
      rw [HAG.out.1, HAG.out.2] at HR2
      have HR2 := Lib.hid HR2
      clear hK5 hps5 hb5 HX HK HKI HAG
      go_wp2_with fail
      refine HR2.out.mono ?_
      rintro e W6 ⟨⟨r, cr, rfl, hus6⟩, hb6⟩
      have hK6 : KI w q ms l L W6 := HK5.out.step hb6
      have HK6 := Lib.hid hK6
      have HMM := masks_any q r ms ms cq cr W6 hK6.us hus6 (by unfold maxLen; omega) (by unfold maxLen; omega)
      rw [show decide (ms = ms) = true by simp] at HMM
      have HMM := Lib.hid HMM
      clear hK6 hus6 hb6 HR2 HK5
      go_wp2_with fail
      refine HMM.out.mono ?_
      rintro e W7 ⟨rfl, hb7⟩
      have hK7 : KI w q ms l L W7 := HK6.out.step hb7
      have HK7 := Lib.hid hK7
      have HRR := right_any ms q cq W7 (by unfold maxLen; omega) HS.out hK7.us (HT.out.below hK7.below hg) (by have := hK7.below.size; omega)
      rw [ordB_true HO.out] at HRR
      have HRR := Lib.hid HRR
      clear hK7 hb7 HMM HK6
      go_wp2_with fail
      refine HRR.out.mono ?_
      rintro e W8 ⟨rfl, hb8⟩
      have HK8 := Lib.hid (HK7.out.step hb8)
      clear hb8 HRR HK7
      go_wp2_with fail
      have HL1 := Lib.hid (show L.length ≤ 9223372036854775807 by have := HL.out; omega)
      have HHI := Lib.hid (show w.heap.size ≤ W8.heap.size from HK8.out.below.size)
      go_loopw [10] (fun v wr => ∃ i : Nat, i ≤ L.length ∧ v = .int .i64 i ∧ Hid (KI w q ms l L wr)) (fun v _ => L.length - (intOf v).toNat)
      case atStart => exact ⟨0, Nat.zero_le _, rfl, HK8⟩
      case round =>
        clear HK8
        obtain ⟨i, hi, rfl, HI⟩ := hrel
        by_cases hin : i < L.length ∧ i < 20
        · obtain ⟨hlt, h20⟩ := hin
          · obtain ⟨bl, off, rfl, _⟩ := HI.out.ls.at i hlt
            have HX := Lib.hid (HI.out.step ((Below.refl _ wr).alloc (Nat.le_refl _) (.cells #[] 44)))
            have HK := Lib.hid (World.alloc_heap_new wr (.cells #[] 44))
            have hti : (L.take i).length = i := by rw [List.length_take]; omega
            go_wp2_with (at_builtin; refine wpList_copyP (by rfl) (.tmp 66) (.tmp 69) rfl wr.heap.size rfl HK.out (some ⟨bl, off, none⟩) (L.take i) cl (by rw [hti]; rfl) (HX.out.ls.take i) (by rw [hti]; omega) ?_)
            intro g3 cap3 W9 _ _ hb9 hown9
            have hK9 : KI w q ms (some ⟨bl, off, none⟩) L W9 := HI.out.step (((Below.refl _ wr).alloc (Nat.le_refl _) (.cells #[] 44)).trans hb9)
            have HB9 := Lib.hid (((Below.refl _ wr).alloc (Nat.le_refl _) (.cells #[] 44)).trans hb9)
            have HSZ := Lib.hid (show wr.heap.size ≤ W9.heap.size by have := hb9.size; simp at this; omega)
            have HOW := Lib.hid hown9
            have hdi : (L.drop (i + 1)).length = L.length - (i + 1) := List.length_drop
            have HLD := Lib.hid (hK9.ls.drop (i + 1))
            have HLE := Lib.hid (show ∀ pp, cl = i + 1 → Ps W9 W9.heap.size pp (L.drop (i + 1)) from fun pp h => .inl (List.drop_eq_nil_of_le (by omega)))
            clear hK9 hb9 hown9 HX HK
            have HLL := Lib.hid (show i + (L.length - (i + 1)) = (L.take i ++ L.drop (i + 1)).length from by rw [List.length_append, hti, hdi])
            have HBI := Lib.hid (HBUT.out i hlt)
            have HLS := Lib.hid (show (L.take i ++ L.drop (i + 1)).length ≤ 4096 from by have := HL.out; rw [List.length_append, hti, hdi]; omega)
            have hOW : W9.ownsRow wr.heap.size 44 2 (.slice (some ⟨g3, 0, none⟩) i cap3) (L.take i).length (cellsI (L.take i)) := by rw [hti]; exact HOW.out
            have HOW := Lib.hid hOW
            have HRM := Lib.hid (show ((L.take i).length + (L.drop (i + 1)).length) * 16 ≤ 140737488355328 from by rw [hti, hdi]; omega)
            have HDI := Lib.hid hdi
            clear hOW hdi
            have hway : (cl = i + 1) = True ∨ (cl = i + 1) = False := by by_cases h : cl = i + 1 <;> simp [h]
            rcases hway with hc | hc
            all_goals
              go_wp2_with (at_builtin; first | refine wpList_catP (by rfl) (.tmp 71) (.tmp 75) rfl wr.heap.size (.slice (some ⟨g3, 0, none⟩) i cap3) (L.take i) rfl HOW.out HSZ.out (some ⟨bl, off, none⟩) (L.drop (i + 1)) (cl - (i + 1)) (by rw [HDI.out]; rfl) (HLE.out (some ⟨bl, off, none⟩) (of_eq_true hc)) HRM.out ?_ | refine wpList_catP (by rfl) (.tmp 71) (.tmp 75) rfl wr.heap.size (.slice (some ⟨g3, 0, none⟩) i cap3) (L.take i) rfl HOW.out HSZ.out (some ⟨bl, off + (i + 1) * 2, none⟩) (L.drop (i + 1)) (cl - (i + 1)) (by rw [HDI.out]; rfl) HLD.out HRM.out ?_)
              intro v' W10 hown10 hb10
              have hK10 := HI.out.step (HB9.out.trans hb10)
              have HK10 := Lib.hid hK10
              have hown11 : W10.ownsRow wr.heap.size 44 2 v' (L.take i ++ L.drop (i + 1)).length (cellsI (L.take i ++ L.drop (i + 1))) := by rw [← HLL.out]; exact hown10
              clear hown10 hb10 HB9 HOW HSZ HLD HLE HRM HDI HI hti HLL
              generalize L.take i ++ L.drop (i + 1) = LL at *
              obtain ⟨l3, c3, rfl, _, _, hps10⟩ := own_psc hown11
              have HR3 := build_all ms.length LL l3 c3 W10 (by have := HLS.out; unfold maxLen; omega) hps10 (HT.out.below hK10.below hg) (by have := hK10.below.size; omega)
              unfold BAns at HR3
              rw [HBI.out.1] at HR3
              have HR3 := Lib.hid HR3
              have HML := Lib.hid (ansM_len ms.length LL)
              have HNE := Lib.hid HBI.out.2
              clear hown11 hps10 hK10 HBI HLS
              generalize ansM ms.length LL = mm at *
              go_wp2_with fail
              refine HR3.out.mono ?_
              rintro e W11 ⟨⟨r3, cr3, rfl, hus11⟩, hb11⟩
              have hK11 := HK10.out.step hb11
              have HK11 := Lib.hid hK11
              have HM3 := masks_any q r3 ms mm cq cr3 W11 hK11.us hus11 (by unfold maxLen; omega) (by have := HML.out; unfold maxLen; omega)
              rw [show decide (ms = mm) = false from decide_eq_false (fun h => HNE.out h.symm)] at HM3
              have HM3 := Lib.hid HM3
              clear hK11 hus11 hb11 HR3 HK10
              go_wp2_with fail
              refine HM3.out.mono ?_
              rintro e W12 ⟨rfl, hb12⟩
              have HK12 := Lib.hid (HK11.out.step hb12)
              clear hb12 HM3 HK11
              go_wp2_with fail
              go_roundw
              case rel => exact ⟨i + 1, by omega, by go_num, HK12⟩
              case measure => simp [intOf]; omega
        · have hway : i = L.length ∨ (i < L.length ∧ decide (i < 20) = false ∧ decide ((i : Int) < 20) = false ∧ ¬ i < 20 ∧ ¬ ((i : Int) < 20)) := by
            simp only [decide_eq_false_iff_not]; omega
          have HBE := Lib.hid HI.out.below
          clear hin
          have HATF := Lib.hid (show ∀ (X : World) (j : Nat) (hj : j < ps.length), KI w q ms l L X → Calls Tryd.prog 19 #[.slice q ms.length cq, .int .i64 ps[j].1, .int .i64 ps[j].2] X fun e W' => e = .returned (.bool true) ∧ KI w q ms l L W' from fun X j hj hk => by
            have := at_any ms q cq ps[j].1 ps[j].2 X (by unfold maxLen; omega) HS.out hk.us (HT.out.below hk.below hg) (by have := hk.below.size; omega)
            rw [HAT.out j hj] at this
            exact this.mono fun e W' ⟨h1, h2⟩ => ⟨h1, hk.step h2⟩)
          rcases hway with rfl | ⟨hlt, d20, d21, d22, d23⟩
          all_goals
            go_wp2_with fail
            go_loopw [14] (fun v wr => ∃ j : Nat, j ≤ ps.length ∧ v = .int .i64 j ∧ Hid (KI w q ms l L wr)) (fun v _ => ps.length - (intOf v).toNat)
            case atStart => exact ⟨0, Nat.zero_le _, rfl, HI⟩
            case round =>
              clear HI HBE
              obtain ⟨j, hj, rfl, HI⟩ := hrel
              by_cases hjl : j < ps.length
              · obtain ⟨b2, off2, rfl, hb2, x0, x1⟩ := (HP.out.below HI.out.below (Nat.le_refl _)).at j hjl
                have HAJ := Lib.hid (HATF.out · j hjl)
                have HPC := Lib.hid (show ∀ X, Below w.heap.size w X → X.cell? ⟨b2, off2 + j * 2, none⟩ = some (.int .i64 ps[j].1) ∧ X.cell? ⟨b2, off2 + j * 2 + 1, none⟩ = some (.int .i64 ps[j].2) from fun X hX => by
                  obtain ⟨b3, off3, e, _, z0, z1⟩ := (HP.out.below hX (Nat.le_refl _)).at j hjl
                  injection e with e; injection e with e1 e2; subst e1; subst e2
                  exact ⟨z0, z1⟩)
                generalize ps[j].1 = k1 at *
                generalize ps[j].2 = k2 at *
                have HID := Lib.hid HI.out.drew
                go_wp2_with fail
                go_cut [108] (fun s wx => s = .bool false ∧ Hid (KI w q ms l L wx))
                case first =>
                  go_region_held3 (fun w' => w'.cell? ⟨b2, off2 + j * 2, none⟩ = some (.int .i64 k1) ∧ w'.cell? ⟨b2, off2 + j * 2 + 1, none⟩ = some (.int .i64 k2) ∧ Hid (KI w q ms l L w'))
                    (first
                      | (go_split_ands; exact ⟨(HPC.out _ hbn.below).1, (HPC.out _ hbn.below).2, Lib.hid hbn⟩)
                      | go_keep)
                    (first
                      | (go_at_call 19; refine (HAJ.out _ HID.out).mono ?_; rintro e wn ⟨rfl, hbn⟩))
                  all_goals
                    go_wp2_with fail
                    go_meet
                    exact ⟨rfl, Lib.hid hbn⟩
                case rest =>
                  obtain ⟨rfl, HI2⟩ := hcut
                  clear HI HID x0 x1
                  go_wp2_with fail
                  go_roundw
                  case rel => exact ⟨j + 1, by omega, by go_num, HI2⟩
                  case measure => simp [intOf]; omega
              · obtain rfl : j = ps.length := by omega
                go_wp2_with fail
                go_ret
                exact ⟨rfl, HI.out.below⟩
    · have e1 : (ansE n ps != 0) = true := by simpa using hE
      have hM : ansM n ps = [] := if_neg hE
      rw [hM]
      generalize ansE n ps = er at *
      clear hE hM HUS
      go_wp2_with fail
      go_ret
      exact ⟨rfl, HB3.out⟩
end Go.Proofs.YtkgcloggnnjioaaDoor

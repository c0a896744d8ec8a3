/-
  The walk of mandatelaw04.PosetLeast.
-/
import Derived.Test.YtkgcloggnnjioaaDoorLeastA
import Derived.Deep.RegionHeld3
import Derived.Deep.DeepCutAuto
import Derived.Deep.LoopGhost
namespace Go.Proofs.YtkgcloggnnjioaaDoor
open Go.RowKit

theorem Tryd.info4p : (Tryd.prog.info? 4).map (fun i => (i.zero, i.size, i.bytes)) = some (some (.bool false), 1, 1) := by kernel_rfl

set_option maxRecDepth 100000 in
set_option maxHeartbeats 16000000 in
theorem least_walk (n : Int) (p : Option Addr) (ps : List (Int × Int)) (c : Nat) (a b : Int) (w : World) (hz : ps.length ≤ maxLen) (hp : Ps w w.heap.size p ps) (hT : Tab w) (hg : 0 < w.heap.size) :
    Calls Tryd.prog 10 #[.agg #[.int .i64 n, .slice p ps.length c, .int .i64 a, .int .i64 b]] w fun e W' => e = .returned (.bool true) ∧ Below w.heap.size w W' := by
  have HP := Lib.hid hp
  have HT := Lib.hid hT
  have HZ := Lib.hid hz
  unfold maxLen at hz
  have hb0 := (Below.refl w.heap.size w).alloc (Nat.le_refl _) (.cells #[.int .i64 n, .slice p ps.length c, .int .i64 a, .int .i64 b] 49)
  have HI0 := Lib.hid (show LI w n p ps c a b (w.alloc (.cells #[.int .i64 n, .slice p ps.length c, .int .i64 a, .int .i64 b] 49)) from ⟨World.alloc_heap_new w _, hb0⟩)
  have HF := Lib.hid (fixed_any _ (HT.out.below hb0 hg) (by simp))
  clear hp hT hb0
  go_enter Tryd.func10, Tryd.ntmps10
  go_wp2_with fail
  refine HF.out.mono ?_
  rintro e W1 ⟨rfl, hb⟩
  have HI1 := Lib.hid (HI0.out.step HI0.out.lt hb)
  clear hb HF HI0
  obtain ⟨y0, y1, y2, y3⟩ := HI1.out.cells
  by_cases hlong : 40 < ps.length
  · go_wp2_with fail
    go_ret
    exact ⟨rfl, HI1.out.below⟩
  · have HBD := Lib.hid (show ∀ (X : World) (g cap : Nat), LI w n p ps c a b X → Ps X X.heap.size (some ⟨g, 0, none⟩) ps → Calls Tryd.prog 12 #[.int .i64 n, .slice (some ⟨g, 0, none⟩) ps.length cap] X (BAns n ps X) from
      fun X g cap h hps => build_all n ps _ cap X HZ.out hps (HT.out.below h.below hg) (by have := h.lt; omega))
    have hz16 : ps.length * 16 ≤ 140737488355328 := by omega
    have d40 : decide (40 < (ps.length : Int)) = false := by simp; omega
    go_wp2_with fail
    go_cut [3, 4] (fun s3 s4 wx => ∃ q cq, s3 = .slice q (ansM n ps).length cq ∧ s4 = .int .i64 (ansE n ps) ∧ Hid (LI w n p ps c a b wx ∧ Us wx wx.heap.size q (ansM n ps)))
    case first =>
      have HID := Lib.hid HI1.out.drew
      have HIA1 := Lib.hid (HI1.out.alloc (.cells #[] 44)).drew
      have HIA2 := Lib.hid (HI1.out.drew.alloc (.cells #[] 44))
      have HK := Lib.hid (World.alloc_heap_new W1 (.cells #[] 44))
      have HLT := Lib.hid HI1.out.lt
      go_region_held3 (fun w' => w'.cell? ⟨w.heap.size, 0, none⟩ = some (.int .i64 n) ∧ w'.cell? ⟨w.heap.size, 1, none⟩ = some (.slice p ps.length c) ∧ Hid (LI w n p ps c a b w'))
        (first
          | (go_split_ands; exact ⟨hbn.cells.1, hbn.cells.2.1, Lib.hid hbn⟩)
          | (go_split_ands; exact ⟨HIA1.out.cells.1, HIA1.out.cells.2.1, HIA1⟩)
          | (go_split_ands; exact ⟨HIA2.out.cells.1, HIA2.out.cells.2.1, HIA2⟩)
          | go_keep)
        (first
          | (refine step_copyL rfl (.tmp 18) (.tmp 20) rfl W1.heap.size rfl HK.out n p ps c a b rfl HP.out (by first | exact HIA1.out | exact HIA2.out) HLT.out hz16 ?_; intro g cap wn hbn hps)
          | (go_at_call 12; refine (HBD.out _ _ _ hbn hps).mono ?_; rintro e wn2 ⟨⟨q, cq, rfl, hus⟩, hb3⟩; have hbn := LI.step hbn (LI.lt hbn) hb3))
      all_goals
        go_wp2_with fail
        go_meet
        exact ⟨q, cq, rfl, rfl, Lib.hid ⟨hbn, hus⟩⟩
    case rest =>
      obtain ⟨q, cq, rfl, rfl, HQ⟩ := hcut
      clear y0 y1 y2 y3
      obtain ⟨y0, y1, y2, y3⟩ := HQ.out.1.cells
      by_cases hE : ansE n ps = 0
      · obtain ⟨m, rfl, h1, h2, hk, ho, hM⟩ := ansM_ord hE
        rw [hE]
        by_cases hab : 0 ≤ a ∧ a < (m : Int) ∧ 0 ≤ b ∧ b < (m : Int)
        · obtain ⟨a', rfl⟩ : ∃ a' : Nat, a = a' := ⟨a.toNat, by omega⟩
          obtain ⟨b', rfl⟩ : ∃ b' : Nat, b = b' := ⟨b.toNat, by omega⟩
          have ha : a' < m := by omega
          have hb : b' < m := by omega
          have d1 : decide ((a' : Int) < 0) = false := by simp
          have d2 : decide ((m : Int) ≤ (a' : Int)) = false := by simp; omega
          have d2' : decide (m ≤ a') = false := by simp; omega
          have d3 : decide ((b' : Int) < 0) = false := by simp
          have d4 : decide ((m : Int) ≤ (b' : Int)) = false := by simp; omega
          have d4' : decide (m ≤ b') = false := by simp; omega
          have hmk := run_make_row' (P := Tryd.prog) 50 4 (.bool false) 1 Tryd.underlying50 Tryd.info4p rfl .i64 .i64 m (by omega) (by omega)
          have HPA := Lib.hid (show Ps w w.heap.size p (ups (natP ps)) from by rw [ups_natP hk]; exact HP.out)
          have HIN := Lib.hid (natP_lt hk)
          have hql : (natP ps).length = ps.length := natP_len ps
          rw [hM, closedM_len]
          have HU := Lib.hid (show Us wc wc.heap.size q (closedM m (natP ps)) from by have := HQ.out.2; rw [hM] at this; exact this)
          have HLI := Lib.hid HQ.out.1
          have HATF := Lib.hid (show ∀ (X : World) (g : Nat), g ≤ X.heap.size → LI w m p ps c a' b' X → Us X g q (closedM m (natP ps)) → Calls Tryd.prog 19 #[.slice q m cq, .int .i64 a', .int .i64 b'] X fun e W' => e = .returned (.bool ((closedM m (natP ps)).getD a' 0 |>.testBit b')) ∧ Below X.heap.size X W' from fun X g hgx hI hU => by
            have := at_any (closedM m (natP ps)) q cq a' b' X (by rw [closedM_len]; unfold maxLen; omega) (small_closedM h2 HIN.out) (hU.up hgx) (HT.out.below hI.below hg) (by have := hI.lt; omega)
            rw [closedM_len, atB_nat ho (by rw [closedM_len]; exact ha) (by rw [closedM_len]; exact hb)] at this
            exact this)
          have R0 : SRow (wc.alloc (.cells (madeCells #[.bool false] m) 4)) wc.heap.size (List.replicate m false) := by
            have h := World.rowIs_made wc (.bool false) m 4
            unfold SRow
            rw [List.length_replicate]
            refine h.congr fun i hi => ?_
            simp [hi]
          have rc := World.rowIs.cell (show (wc.alloc (.cells (madeCells #[.bool false] m) 4)).rowIs wc.heap.size 4 (List.replicate m false).length _ from R0) (i := a') (by simpa using ha)
          have rf := World.rowIs.frozen (show (wc.alloc (.cells (madeCells #[.bool false] m) 4)).rowIs wc.heap.size 4 (List.replicate m false).length _ from R0) a'
          have z2 := cellOn (.cells (madeCells #[.bool false] m) 4) y2
          have hset := World.setCell_alloc_at (w := wc) (madeCells #[.bool false] m) 4 wc.heap.size a' (.bool true) rfl
          have HR1 := Lib.hid (show SRow (wc.alloc (.cells ((madeCells #[.bool false] m).setIfInBounds a' (.bool true)) 4)) wc.heap.size ((List.replicate m false).set a' true) from by rw [← hset]; exact R0.set a')
          clear hset
          have HLA := Lib.hid (HLI.out.alloc (.cells ((madeCells #[.bool false] m).setIfInBounds a' (.bool true)) 4))
          have HWB := Lib.hid ((Below.refl wc.heap.size wc).alloc (Nat.le_refl _) (.cells ((madeCells #[.bool false] m).setIfInBounds a' (.bool true)) 4))
          have HQ0 := Lib.hid (show SQ m (natP ps) a' ((List.replicate m false).set a' true) ((List.replicate m false).set a' true) false 0 from
            ⟨by simp, by rw [getB_set, if_pos ⟨rfl, by simpa using ha⟩], fun x hx => by
              rw [getB_set] at hx
              by_cases e : a' = x
              · subst e; exact closedM_refl HIN.out ha
              · rw [if_neg (fun h => e h.1)] at hx
                rw [List.getD_eq_getElem?_getD, List.getElem?_replicate] at hx
                split at hx <;> simp at hx, fun _ => ⟨rfl, fun j _ h => absurd h (Nat.not_lt_zero j)⟩, fun h => by cases h⟩)
          clear R0 hM hE hk hab
          generalize natP ps = qs at *
          go_wp2_with fail
          have HUA := Lib.hid (HU.out.below HWB.out (Nat.le_refl _))
          have HGS := Lib.hid (HLI.out.lt)
          generalize (wc.alloc (.cells ((madeCells #[.bool false] m).setIfInBounds a' (.bool true)) 4)) = WS at *
          generalize wc.heap.size = gs at *
          generalize (List.replicate m false).set a' true = sb0 at *
          clear y0 y1 y2 y3 rc rf z2 hmk HQ HU HLI HWB wc
          have HB0 := Lib.hid (show gs < WS.heap.size from World.rowIs.lt HR1.out)
          go_loopg [6] (m - cntB sb0 + 1) (fun gk v wr => ∃ (sb : List Bool) (ag : Bool), v = .bool ag ∧ gk = m - cntB sb + (if ag = true then 1 else 0) ∧ Hid (LI w m p ps c a' b' wr ∧ SRow wr gs sb ∧ Us wr gs q (closedM m qs) ∧ SQ m qs a' sb sb false (if ag = true then 0 else qs.length)))
          case atStart => exact ⟨sb0, true, rfl, rfl, Lib.hid ⟨HLA.out, HR1.out, HUA.out, HQ0.out⟩⟩
          case round =>
            clear HLA HR1 HUA HQ0 HB0
            obtain ⟨sb, ag, rfl, rfl, HI⟩ := hrel
            obtain ⟨y0, y1, y2, y3⟩ := HI.out.1.cells
            cases ag with
            | true =>
              have HQ0 := Lib.hid (show SQ m qs a' sb sb false 0 from HI.out.2.2.2)
              have HML := Lib.hid (show ∀ l : List Bool, l.length = m → cntB l ≤ m from fun l h => h ▸ cntB_le l)
              go_wp2_with fail
              obtain ⟨wo, rfl⟩ : ∃ wo : World, wo = wr := ⟨_, rfl⟩
              go_loopw [6, 7] (fun v6 v7 wr => ∃ (i : Nat) (s1 : List Bool) (ag : Bool), i ≤ ps.length ∧ v7 = .int .i64 i ∧ v6 = .bool ag ∧ Hid (LI w m p ps c a' b' wr ∧ SRow wr gs s1 ∧ Us wr gs q (closedM m qs) ∧ SQ m qs a' sb s1 ag i)) (fun _ v7 _ => ps.length - (intOf v7).toNat)
              case atStart => exact ⟨0, sb, false, Nat.zero_le _, rfl, rfl, Lib.hid ⟨HI.out.1, HI.out.2.1, HI.out.2.2.1, HQ0.out⟩⟩
              case round =>
                clear HI HQ0 y0 y1 y2 y3
                obtain ⟨i, s1, ag, hi, rfl, rfl, HI⟩ := hrel
                obtain ⟨y0, y1, y2, y3⟩ := HI.out.1.cells
                by_cases hlt : i < ps.length
                · have hltq : i < qs.length := by omega
                  obtain ⟨pb, off, rfl, hbl, x0, x1⟩ := (HPA.out.below HI.out.1.below (Nat.le_refl _)).at i (by unfold ups; simpa using hltq)
                  simp only [ups, List.getElem_map] at x0 x1
                  have hin := HIN.out qs[i] (List.getElem_mem hltq)
                  have HNX := Lib.hid (show (s1.getD qs[i].1 false = true → s1.getD qs[i].2 false = true) → SQ m qs a' sb s1 ag (i + 1) from fun h => HI.out.2.2.2.next hltq h)
                  have HAD := Lib.hid (show s1.getD qs[i].1 false = true → s1.getD qs[i].2 false = false → SQ m qs a' sb (s1.set qs[i].2 true) true (i + 1) from fun h1 h2 => HI.out.2.2.2.add HIN.out hltq h1 h2)
                  generalize qs[i] = qq at *
                  obtain ⟨q1, q2⟩ := qq
                  obtain ⟨hq1, hq2⟩ := hin
                  dsimp only at hq1 hq2 x0 x1
                  have hsl := HI.out.2.2.2.len
                  have r1 := World.rowIs.cell (show wr.rowIs gs 4 s1.length (fun i => .bool (s1.getD i false)) from HI.out.2.1) (i := q1) (by omega)
                  have r2 := World.rowIs.cell (show wr.rowIs gs 4 s1.length (fun i => .bool (s1.getD i false)) from HI.out.2.1) (i := q2) (by omega)
                  have r2f := World.rowIs.frozen (show wr.rowIs gs 4 s1.length (fun i => .bool (s1.getD i false)) from HI.out.2.1) q2
                  have HSL := Lib.hid hsl
                  clear hsl
                  have d1 := cellOn (.cells #[.int .i64 q1, .int .i64 q2] 44) r1
                  have d2 := cellOn (.cells #[.int .i64 q1, .int .i64 q2] 44) r2
                  have d2f : (wr.alloc (.cells #[.int .i64 q1, .int .i64 q2] 44)).frozen? ⟨gs, q2, none⟩ = false := (frozen_kept r2 (World.grownBy_alloc _ _ none) (fun r e => by cases e)).trans r2f
                  have HGL := Lib.hid (show gs < wr.heap.size from World.rowIs.lt HI.out.2.1)
                  have HNEW := Lib.hid (show LI w m (some ⟨pb, off, none⟩) ps c a' b' (wr.alloc (.cells #[.int .i64 q1, .int .i64 q2] 44)) ∧ SRow (wr.alloc (.cells #[.int .i64 q1, .int .i64 q2] 44)) gs s1 ∧ Us (wr.alloc (.cells #[.int .i64 q1, .int .i64 q2] 44)) gs q (closedM m qs) from
                    ⟨HI.out.1.alloc _, World.rowIs.alloc HI.out.2.1 _, HI.out.2.2.1.below ((Below.refl gs wr).alloc (Nat.le_of_lt HGL.out) _) (Nat.le_refl _)⟩)
                  have HNES := Lib.hid (show LI w m (some ⟨pb, off, none⟩) ps c a' b' ((wr.alloc (.cells #[.int .i64 q1, .int .i64 q2] 44)).setCell ⟨gs, q2, none⟩ (.bool true)) ∧ SRow ((wr.alloc (.cells #[.int .i64 q1, .int .i64 q2] 44)).setCell ⟨gs, q2, none⟩ (.bool true)) gs (s1.set q2 true) ∧ Us ((wr.alloc (.cells #[.int .i64 q1, .int .i64 q2] 44)).setCell ⟨gs, q2, none⟩ (.bool true)) gs q (closedM m qs) from
                    ⟨HNEW.out.1.step HGS.out ((Below.refl gs _).setCell (Nat.le_refl _) _), HNEW.out.2.1.set q2, HNEW.out.2.2.below ((Below.refl gs _).setCell (Nat.le_refl _) _) (Nat.le_refl _)⟩)
                  clear r1 r2 r2f
                  cases hs1 : s1.getD q1 false with
                  | false =>
                    rw [hs1] at d1
                    have HS := Lib.hid (HNX.out (fun h => by dsimp only at h; rw [hs1] at h; cases h))
                    clear hs1
                    go_wp2_with fail
                    go_roundw
                    case rel => exact ⟨i + 1, s1, ag, by omega, by go_num, rfl, Lib.hid ⟨HNEW.out.1, HNEW.out.2.1, HNEW.out.2.2, HS.out⟩⟩
                    case measure => simp [intOf]; omega
                  | true =>
                    rw [hs1] at d1
                    cases hs2 : s1.getD q2 false with
                    | true =>
                      rw [hs2] at d2
                      have HS := Lib.hid (HNX.out (fun _ => hs2))
                      clear hs1 hs2
                      go_wp2_with fail
                      go_roundw
                      case rel => exact ⟨i + 1, s1, ag, by omega, by go_num, rfl, Lib.hid ⟨HNEW.out.1, HNEW.out.2.1, HNEW.out.2.2, HS.out⟩⟩
                      case measure => simp [intOf]; omega
                    | false =>
                      rw [hs2] at d2
                      have HS := Lib.hid (HAD.out hs1 hs2)
                      clear hs1 hs2
                      go_wp2_with fail
                      go_roundw
                      case rel => exact ⟨i + 1, s1.set q2 true, true, by omega, by go_num, rfl, Lib.hid ⟨HNES.out.1, HNES.out.2.1, HNES.out.2.2, HS.out⟩⟩
                      case measure => simp [intOf]; omega
                · obtain rfl : i = ps.length := by omega
                  have HML1 := Lib.hid (HML.out s1 HI.out.2.2.2.len)
                  have HRN := Lib.hid (show SQ m qs a' s1 s1 false (if ag = true then 0 else qs.length) from by
                    have h := HI.out.2.2.2
                    cases ag with
                    | false =>
                      have e := (h.same rfl).1
                      subst e
                      show SQ m qs a' s1 s1 false qs.length
                      rw [hql]
                      exact h
                    | true => exact ⟨h.len, h.start, h.right, fun _ => ⟨rfl, fun j _ hj => absurd hj (Nat.not_lt_zero j)⟩, fun e => by cases e⟩)
                  have HME := Lib.hid (show m - cntB s1 + (if ag = true then 1 else 0) < m - cntB sb + 1 from by
                    have h := HI.out.2.2.2
                    cases ag with
                    | false => rw [(h.same rfl).1]; simp
                    | true => have := h.more rfl; have := HML1.out; simp; omega)
                  go_wp2_with fail
                  go_roundg (m - cntB s1 + (if ag = true then 1 else 0))
                  case measure => exact HME.out
                  case rel => exact ⟨s1, ag, rfl, rfl, Lib.hid ⟨HI.out.1, HI.out.2.1, HI.out.2.2.1, HRN.out⟩⟩
            | false =>
              have HFIN := Lib.hid (HI.out.2.2.2.fin HIN.out b')
              have HSL := Lib.hid HI.out.2.2.2.len
              have r1 := World.rowIs.cell (show wr.rowIs gs 4 sb.length (fun i => .bool (sb.getD i false)) from HI.out.2.1) (i := b') (by rw [HSL.out]; exact hb)
              have hbit : ((closedM m qs).getD a' 0).testBit b' = sb.getD b' false := by
                have := HFIN.out
                unfold has at this
                rw [Bool.eq_iff_iff]; exact this.symm
              rw [hbit] at HATF
              generalize sb.getD b' false = sv at *
              have HKP := Lib.hid (show ∀ X W' : World, LI w m p ps c a' b' X → Us X gs q (closedM m qs) → gs < X.heap.size → X.cell? ⟨gs, b', none⟩ = some (.bool sv) → Below X.heap.size X W' → LI w m p ps c a' b' W' ∧ gs < W'.heap.size ∧ W'.cell? ⟨gs, b', none⟩ = some (.bool sv) from
                fun X W' h1 h2 h3 h4 h5 => ⟨h1.step h1.lt h5, Nat.lt_of_lt_of_le h3 h5.size, (h5.cell h3).trans h4⟩)
              have HIE := Lib.hid (show LI w m p ps c a' b' wr ∧ Us wr gs q (closedM m qs) ∧ gs < wr.heap.size from ⟨HI.out.1, HI.out.2.2.1, World.rowIs.lt HI.out.2.1⟩)
              clear HFIN HI
              have HIED := Lib.hid HIE.out.1.drew
              have HIEU := Lib.hid (HIE.out.2.1.below (Below.refl gs wr).drew (Nat.le_refl _))
              have HIES := Lib.hid (show gs < wr.drew.heap.size from HIE.out.2.2)
              go_wp2_with fail
              go_cut [2] (fun s2 wx => s2 = .bool true ∧ Hid (LI w m p ps c a' b' wx))
              case first =>
                go_region_held3 (fun w' => w'.cell? ⟨w.heap.size, 2, none⟩ = some (.int .i64 a') ∧ w'.cell? ⟨w.heap.size, 3, none⟩ = some (.int .i64 b') ∧ w'.cell? ⟨gs, b', none⟩ = some (.bool sv) ∧ Hid (LI w m p ps c a' b' w'))
                  (first
                    | (go_split_ands; exact ⟨hbn.cells.2.2.1, hbn.cells.2.2.2, hbc, Lib.hid hbn⟩)
                    | go_keep)
                  (first
                    | (go_at_call 19; refine (HATF.out _ gs (Nat.le_of_lt HIES.out) HIED.out HIEU.out).mono ?_; rintro e wn ⟨rfl, hb3⟩; obtain ⟨hbn, hbs, hbc⟩ := HKP.out _ _ HIED.out HIEU.out HIES.out (by go_split_ands; assumption) hb3))
                all_goals
                  go_wp2_with fail
                  go_meet
                  exact ⟨rfl, Lib.hid hbn⟩
              case rest =>
                obtain ⟨rfl, HI⟩ := hcut
                go_wp2_with fail
                go_ret
                exact ⟨rfl, HI.out.below⟩
        · have hway : (decide (a < 0) = true) ∨ (decide (a < 0) = false ∧ decide ((m : Int) ≤ a) = true) ∨ (decide (a < 0) = false ∧ decide ((m : Int) ≤ a) = false ∧ decide (b < 0) = true) ∨ (decide (a < 0) = false ∧ decide ((m : Int) ≤ a) = false ∧ decide (b < 0) = false ∧ decide ((m : Int) ≤ b) = true) := by
            simp only [decide_eq_true_eq, decide_eq_false_iff_not]; omega
          rcases hway with e1 | ⟨e1, e2⟩ | ⟨e1, e2, e3⟩ | ⟨e1, e2, e3, e4⟩
          all_goals
            go_wp2_with fail
            go_ret
            exact ⟨rfl, HQ.out.1.below⟩
      · have e1 : (ansE n ps != 0) = true := by simpa using hE
        clear hE
        generalize ansE n ps = er at *
        go_wp2_with fail
        go_ret
        exact ⟨rfl, HQ.out.1.below⟩
end Go.Proofs.YtkgcloggnnjioaaDoor

/-
  Joined of: RdrN, RdrO, ParW.
-/
import Derived.Test.YtnjdganikeganaaGreatDoorJa33
import Derived.Deep.CutBlock
import Derived.Deep.DeepCutAuto
import Derived.Deep.LoopGhost
import Derived.Test.YtnjdganikeganaaGreatDoorJa29
set_option linter.unusedVariables false
set_option linter.unusedSimpArgs false
/-
  Contract: the reference's Parse of a clause with a body.
-/
namespace Go.Proofs.YtnjdganikeganaaGreatDoor
open Go.RowKit

set_option maxHeartbeats 16000000 in
set_option maxRecDepth 100000 in
theorem refParse_body (s : ByteArray) (w : World) (hm : s.size ≤ 140737488351232) (hx : (allL s.data.toList).err = 0) (nm : ByteArray) (l : List Tm) (k1 : Nat) (hat : atomR s (allL s.data.toList).toks 0 = .ok ((nm, l), k1)) (hif : textAt s (allL s.data.toList).toks k1 = wdIf) :
    Calls Tryz.prog 12 #[.string s] w (ParsePost w (parseR s)) := by
  have HB := Lib.hid (below1 w)
  have HO := Lib.hid (show ∀ o, _ from fun o => ropen_any s (w.alloc o) hm)
  have HP := Lib.hid (show parseR s = wholeR s (allL s.data.toList).toks (clauseR s (allL s.data.toList).toks 0) by unfold parseR; rw [if_pos hx])
  generalize parseR s = R at *
  rw [hx] at HO
  generalize (allL s.data.toList).toks = ts at *
  generalize (allL s.data.toList).pl = pl at *
  have HAT := Lib.hid (show ∀ wx rb q c, Rr wx rb s q c ts 0 0 0 → Calls Tryz.prog 33 #[.pointer (some ⟨rb, 0, none⟩)] wx fun e w' => ∃ q' c', e = .returned (.tuple #[.string nm, .slice q' l.length c']) ∧ Hid (Tms w' w'.heap.size q' l) ∧ Hid (∀ b, q' = some b → wx.heap.size ≤ b.block) ∧ Only rb wx w' ∧ Rr w' rb s q c ts k1 0 0 from fun wx rb q c h => (ratom_any wx rb s q c ts 0 0 0 h).mono fun e w' ⟨nm', q', l', c', h1, ht, hf, h2, h3⟩ => by
    rcases h3 with ⟨k', _, h4, h5⟩ | ⟨k', n, p, h0, h4, _, h5⟩
    · rw [hat] at h4; cases h4
      exact ⟨q', c', h1, Lib.hid ht, Lib.hid hf, h2, h5⟩
    · have h6 := h4 rfl
      rw [hat] at h6; cases h6)
  have HTX := Lib.hid (show ∀ wx rb q c, Rr wx rb s q c ts k1 0 0 → Calls Tryz.prog 34 #[.pointer (some ⟨rb, 0, none⟩), .int .i64 0] wx fun e w' => e = .returned (.string (textAt s ts k1)) ∧ Below wx.heap.size wx w' from fun wx rb q c hx => rtext_any wx rb s q c ts k1 0 0 0 hx (by omega))
  have HCL := Lib.hid (show clauseR s ts 0 = match listL s ts 5 (k1 + 1) with
      | .error e => .error e
      | .ok (b, k2) => if textAt s ts k2 = wdDot then .ok (⟨⟨1, tmZ, nm, l⟩, b⟩, k2 + 1) else .error (6, placeAt s ts k2) by
    unfold clauseR; rw [hat]; simp only; rw [if_pos hif]; cases listL s ts 5 (k1 + 1) <;> rfl)
  generalize clauseR s ts 0 = SR at *
  have HEN := Lib.hid (show ∀ wx rb q c k er fr, Rr wx rb s q c ts k er fr → _ from fun wx rb q c k er fr hx' => rended_any wx rb s q c ts k er fr hx')
  have hk1 : k1 < ts.length := text_lt hif (by decide)
  have g5 := toList_beq_yes (l := [58, 45]) hif
  obtain ⟨i0, hi, hz0, hz1, hzb⟩ := info_parts infoLit
  generalize textAt s ts k1 = x at *
  clear hx hat hif
  go_enter Tryz.func12, Tryz.ntmps12
  go_wp2_with (first
    | (go_at_call 34; refine (HTX.out _ _ _ _ HR3.out).mono ?_; rintro e w3 ⟨rfl, hb3⟩; have HR4 := Lib.hid (HR3.out.on hb3); have HZ4 := Lib.hid (HZ3.out.on hb3); have HX4 := Lib.hid (HX3.out.on hb3); have HT4 := Lib.hid (HT3.out.grow hb3); have HW4 := Lib.hid (HW3.out.trans (hb3.mono HW3.out.size)); have hl3 := HX3.out.lt; have hs3 := hb3.size; have d2 := HR4.out.box.cell 2 _ rfl; have d2' := HR4.out.box.soft 2; have hl := HR4.out.src.len; have HR5 := Lib.hid (HR4.out.set 2 (.int .i64 ((k1 : Int) + 1)) (k1 + 1) 0 0 (by omega) (by simp)); clear hb3)
    | (go_at_call 33; refine (HAT.out _ _ _ _ (HR1.out.on (below1 w1 _))).mono ?_; rintro e w2 ⟨q', c', rfl, ht2, hf2, ho2, hr2⟩; go_loud (have hszq : w1.heap.size + 1 ≤ (w1.alloc (.cells #[.int .u8 1, .string ⟨#[]⟩, .string ⟨#[]⟩, .int .i64 0, .string ⟨#[]⟩, .slice none 0 0, .slice none 0 0] 31)).heap.size := (by simp); have HF2 := Lib.hid (show ∀ b, q' = some b → w1.heap.size + 1 ≤ b.block from fun b hb => Nat.le_trans hszq (hf2.out b hb)); have HX2 := Lib.hid ((Bk.new w1 31 #[.int .u8 1, .string ⟨#[]⟩, .string ⟨#[]⟩, .int .i64 0, .string ⟨#[]⟩, .slice none 0 0, .slice none 0 0]).only ho2 (Nat.ne_of_gt hlt)); have HZ2 := Lib.hid ((HZ1.out.on (below1 w1 _)).only ho2 (Nat.ne_of_lt hgw)); have HW2 := Lib.hid ((HB1.out.trans ((below1 w1 (.cells #[.int .u8 1, .string ⟨#[]⟩, .string ⟨#[]⟩, .int .i64 0, .string ⟨#[]⟩, .slice none 0 0, .slice none 0 0] 31)).mono HB1.out.size)).trans ((ho2.below (Nat.le_trans (Nat.le_of_lt hlt) (below1 w1 _).size)).mono (Nat.le_of_lt hgw))); obtain ⟨x0, x1, x2, x3, x4, x5, x6⟩ := HX2.out.seven; obtain ⟨f0, f1, f2, f3, f4, f5, f6⟩ := HX2.out.softs; have HR3 := Lib.hid ((hr2.on' (setB (B := rb + 1) (b := w1.heap.size) (by omega) 4 (.string nm))).on' (setB (B := rb + 1) (b := w1.heap.size) (by omega) 5 (.slice q' l.length c'))); have HX3 := Lib.hid ((HX2.out.set 4 (.string nm)).set 5 (.slice q' l.length c')); have HZ3 := Lib.hid ((HZ2.out.other (b' := w1.heap.size) (by omega) 4 (.string nm)).other (b' := w1.heap.size) (by omega) 5 (.slice q' l.length c')); have HW3 := Lib.hid ((HW2.out.trans (setB (B := w.heap.size) (b := w1.heap.size) (by omega) 4 (.string nm))).trans (setB (B := w.heap.size) (b := w1.heap.size) (by omega) 5 (.slice q' l.length c'))); have HT3 := Lib.hid ((((Above.refl (w1.heap.size + 1) w2).set (b := w1.heap.size) (by omega) 4 (.string nm)).set (b := w1.heap.size) (by omega) 5 (.slice q' l.length c')).rd ht2.out HF2.out (((setB (w := w2) (B := 0) (b := w1.heap.size) (Nat.zero_le _) 4 (.string nm)).trans (setB (w := w2.setCell ⟨w1.heap.size, 4, none⟩ (.string nm)) (B := 0) (b := w1.heap.size) (Nat.zero_le _) 5 (.slice q' l.length c'))).size)); have HTN := Lib.hid (show ∀ b, q' = some b → b.block ≠ rb from fun b hb => Nat.ne_of_gt (Nat.lt_of_lt_of_le hlt (Nat.le_trans (Nat.le_succ _) (HF2.out b hb)))); have d3 := HR3.out.box.cell 3 _ rfl; have d3' := hr2.box.cell 3 _ rfl; have hne : rb ≠ w1.heap.size := Nat.ne_of_lt hlt; clear ho2 hr2 ht2 hf2))
    | (go_at_call 32; refine (HO.out _).mono ?_; rintro e w1 ⟨rb, q, c, rfl, hge, hlt, hr1, hb1⟩; have HR1 := Lib.hid (hr1 trivial); have HZ1 := Lib.hid ((Bk.new w _ _).on hb1); have HB1 := Lib.hid ((HB.out _).trans (hb1.mono (HB.out _).size)); have hgw : w.heap.size < rb := Nat.lt_of_succ_le (by simpa using hge); clear hb1 hr1 hge))
  have HXW := Lib.hid (HX4.out.other (b' := rb) (Nat.ne_of_gt hlt) 2 (.int .i64 ((k1 : Int) + 1)))
  have HZW := Lib.hid (HZ4.out.other (b' := rb) (Nat.ne_of_lt hgw) 2 (.int .i64 ((k1 : Int) + 1)))
  have HWW := Lib.hid (HW4.out.trans (setB (b := rb) (Nat.le_of_lt hgw) 2 (.int .i64 ((k1 : Int) + 1))))
  have HTW := Lib.hid (rd_only HT4.out (Only.set rb w3 2 (.int .i64 ((k1 : Int) + 1))) HTN.out)
  have hcw : w1.heap.size < (w3.setCell ⟨rb, 2, none⟩ (.int .i64 ((k1 : Int) + 1))).heap.size := HXW.out.lt
  have HRW := HR5
  clear HR1 HX2 HZ1 HZ2 HZ3 HX3 HR3 HAT HTX HO HT3 HT4 HX4 HZ4 HW4 HW3 HW2 HR4 HR5 HB1 x0 x1 x2 x3 x4 x5 x6 f0 f1 f2 f3 f4 f5 f6 d3 d3' d2 d2' hl3 hs3 hszq
  generalize w3.setCell ⟨rb, 2, none⟩ (.int .i64 ((k1 : Int) + 1)) = wb at *
  have HJ := Lib.hid (show RJ wb wb.heap.size rb w1.heap.size (.int .u8 1) (.string ⟨#[]⟩) (.string ⟨#[]⟩) (.int .i64 0) (.string nm) (.slice q' l.length c') s q c ts (k1 + 1) 0 0 [] wb from ⟨⟨rfl, rfl, rfl⟩, fun g _ _ _ => rfl, HRW.out, ⟨.slice none 0 0, HXW.out, World.ownsRow_nil _ _ _ _, fun x hx => absurd hx (by simp)⟩, Nat.lt_trans hlt hcw, hcw, hlt, Nat.le_refl _⟩)
  go_cut [] (fun wx => ∃ (acc : List Lp) (kx : Nat) (ex fx : Int), 1 ≤ acc.length ∧ acc.length ≤ 6 ∧ Hid (LSt s ts k1 acc kx ex fx) ∧ Hid (RJ wb wb.heap.size rb w1.heap.size (.int .u8 1) (.string ⟨#[]⟩) (.string ⟨#[]⟩) (.int .i64 0) (.string nm) (.slice q' l.length c') s q c ts kx ex fx acc wx))
  case first =>
    have HLI := Lib.hid (RJ.lit HJ.out HXW.out)
    have x0 := HXW.out.cell 6 _ rfl
    have HB0 := Lib.hid (Below.refl wb.heap.size wb)
    have HB1 := Lib.hid (Below.drew (Below.refl wb.heap.size wb))
    have HL1 := Lib.hid (show ([] : List Lp).length + 1 ≤ maxLen by decide)
    have HL2 := Lib.hid (show (([] : List Lp).length + 1) * 88 ≤ 140737488355328 by decide)
    go_region_law (first
      | (refine step_append_lies _ rfl (.tmp 49) (.tmp 52) 29 rfl wb.heap.size 28 i0 _ 6 88 underLs hi hz0 hz1 hzb rfl (by omega) (.slice none 0 0) ([] : List Lp).length (flatE encL []) (by rfl) (own_below hox.out (below1 _ _)) ⟨wn.heap.size, 0, none⟩ 1 1 (encL (l2.at q2 c2)) (by rfl) (by rfl) (news_alloc _ _ _) (EL.one _) (by omega) HL1.out HL2.out (Nat.le_trans hai.out.hi (below1 _ _).size) _ rfl ?_; intro g cap w7 ho hgr hat hlt7; have HLP := Lib.hid (RJ.push (hai.out.on (below1 _ _)) (hbx.out.on (below1 _ _)) (fun x hx => (hfx.out x hx).keep (below1 wn _).size fun b _ hlt hne => ⟨(below1 wn _).block b hlt, hne⟩) (own_below hox.out (below1 _ _)) (hll.out.keep (below1 wn _).size fun b _ hlt hne => ⟨(below1 wn _).block b hlt, hne⟩) ho hgr hat); have c7 := HLP.out.2.1; have f7 := HLP.out.2.2)
      | (go_simp; go_at_call 35; refine (HLI.out _ (by first | exact HB1.out | exact HB0.out)).mono ?_; rintro e wn ⟨l2, q2, c2, k2, er2, fr2, rfl, hst, hll, hbx, hox, hfx, hai⟩; have y0 := hbx.out.cell 6 _ rfl; have y1 : ∀ o, (wn.alloc o).cell? ⟨w1.heap.size, 6, none⟩ = some (.slice none 0 0) := fun o => (hbx.out.on (below1 wn o)).cell 6 _ rfl))
    all_goals go_wp2_with fail
    all_goals go_meet
    all_goals exact ⟨[l2.at q2 c2], k2, er2, fr2, by simp, by simp, Lib.hid (LSt.first hst.out), Lib.hid HLP.out.1⟩
  case rest =>
    obtain ⟨acc0, kx0, ex0, fx0, hlo0, hhi0, HS0, HR0⟩ := hcut
    go_upto_block 0 with fail
    go_cut [] (fun wx => ∃ (acc : List Lp) (kx : Nat) (ex fx : Int), Hid (ESt s ts k1 acc kx ex fx) ∧ Hid (RJ wb wb.heap.size rb w1.heap.size (.int .u8 1) (.string ⟨#[]⟩) (.string ⟨#[]⟩) (.int .i64 0) (.string nm) (.slice q' l.length c') s q c ts kx ex fx acc wx))
    case first =>
      go_wp2_with fail
      go_loopg [] (7 - acc0.length) (fun g wx => ∃ (acc : List Lp) (kx : Nat) (ex fx : Int), g = 7 - acc.length ∧ 1 ≤ acc.length ∧ acc.length ≤ 6 ∧ Hid (LSt s ts k1 acc kx ex fx) ∧ Hid (RJ wb wb.heap.size rb w1.heap.size (.int .u8 1) (.string ⟨#[]⟩) (.string ⟨#[]⟩) (.int .i64 0) (.string nm) (.slice q' l.length c') s q c ts kx ex fx acc wx))
      case atStart => exact ⟨acc0, kx0, ex0, fx0, rfl, hlo0, hhi0, HS0, HR0⟩
      case round =>
        obtain ⟨acc, kx, ex, fx, rfl, hlo, hhi, HST, HRJ⟩ := hrel
        obtain ⟨v, hbk, how, hfar⟩ := HRJ.out.own
        obtain ⟨g, cap, hv, _, _⟩ := World.ownsRow.form how (by omega)
        subst hv
        have HBK := Lib.hid hbk
        clear hbk how hfar
        have x3 := HRJ.out.rr.box.cell 3 _ rfl
        have y6 := HBK.out.cell 6 _ rfl
        have hhr := HRJ.out.hi
        rcases HST.out with ⟨rfl, rfl, hmt⟩ | ⟨hne, herr⟩
        · have HMT := Lib.hid hmt
          have hkl := HRJ.out.rr.le
          have hsl := HRJ.out.rr.src.len
          have HTX := Lib.hid (rtext_any _ rb s q c ts kx 0 0 0 HRJ.out.rr (by omega))
          simp only [Nat.add_zero] at HTX
          clear hmt
          by_cases hcm : textAt s ts kx = comma
          · have HTC := Lib.hid (show Calls Tryz.prog 34 #[.pointer (some ⟨rb, 0, none⟩), .int .i64 0] _ fun e w' => e = .returned (.string ⟨#[44]⟩) ∧ Below _ _ w' from (HTX.out).mono fun e w' ⟨h1, h2⟩ => ⟨by rw [h1, hcm]; rfl, h2⟩)
            have hkx := comma_lt hcm
            by_cases hl6 : acc.length = 6
            · have hl6' : ((acc.length : Int) == 6) = true := by simp; omega
              have HF := Lib.hid (show ∀ wx, Rr wx rb s q c ts kx 0 0 → _ from fun wx hx => rfail_new wx rb s q c ts kx 0 2 hx)
              go_wp2_with (first
                | (go_at_call 36; refine (HF.out _ HJ8.out.rr).mono ?_; rintro e w9 ⟨rfl, hp9, ho9⟩; have HJ9 := Lib.hid (HJ8.out.step ho9 hp9))
                | (go_at_call 34; refine (HTC.out).mono ?_; rintro e w8 ⟨rfl, hb8⟩; have HJ8 := Lib.hid (HRJ.out.on hb8); have y8 := (HBK.out.on hb8).cell 6 _ rfl; clear hb8))
              go_meet
              exact ⟨acc, kx, 2, placeAt s ts kx, Lib.hid (LSt.over hl6 hcm HMT.out), HJ9⟩
            · have hl6' : ((acc.length : Int) == 6) = false := by simp; omega
              go_wp2_with (go_at_call 34; refine (HTC.out).mono ?_; rintro e w8 ⟨rfl, hb8⟩; have HJ8 := Lib.hid (HRJ.out.on hb8); have HBK8 := Lib.hid (HBK.out.on hb8); have y8 := HBK8.out.cell 6 _ rfl; have u2 := HJ8.out.rr.box.cell 2 _ rfl; have u2' := HJ8.out.rr.box.soft 2; clear hb8)
              have HJC := Lib.hid (HJ8.out.step (Only.set rb w8 2 (.int .i64 ((kx : Int) + 1))) (HJ8.out.rr.set 2 (.int .i64 ((kx : Int) + 1)) (kx + 1) 0 0 (by omega) (by simp)))
              have HBC := Lib.hid (HBK8.out.other (b' := rb) (Nat.ne_of_gt hlt) 2 (.int .i64 ((kx : Int) + 1)))
              clear HJ8 HBK8 HRJ HBK x3 y6 y8 u2 u2' HTC HTX HST
              generalize w8.setCell ⟨rb, 2, none⟩ (.int .i64 ((kx : Int) + 1)) = wc at *
              have HLI := Lib.hid (RJ.lit HJC.out HBC.out)
              have x6 := HBC.out.cell 6 _ rfl
              have HB0 := Lib.hid (Below.refl wc.heap.size wc)
              have HB1 := Lib.hid (Below.drew (Below.refl wc.heap.size wc))
              have HL1 := Lib.hid (show acc.length + 1 ≤ maxLen by unfold maxLen; omega)
              have HL2 := Lib.hid (show (acc.length + 1) * 88 ≤ 140737488355328 by omega)
              go_region_law (first
                | (refine step_append_lies _ rfl (.tmp 79) (.tmp 82) 29 rfl wb.heap.size 28 i0 _ 6 88 underLs hi hz0 hz1 hzb rfl (by omega) (.slice (some ⟨g, 0, none⟩) acc.length cap) acc.length (flatE encL acc) (by rfl) (own_below hox.out (below1 _ _)) ⟨wn.heap.size, 0, none⟩ 1 1 (encL (l2.at q2 c2)) (by rfl) (by rfl) (news_alloc _ _ _) (EL.one _) (by omega) HL1.out HL2.out (Nat.le_trans hai.out.hi (below1 _ _).size) _ rfl ?_; intro g7 cap7 w7 ho hgr hat hlt7; have HLP := Lib.hid (RJ.push (hai.out.on (below1 _ _)) (hbx.out.on (below1 _ _)) (fun x hx => (hfx.out x hx).keep (below1 wn _).size fun b _ hlt hne => ⟨(below1 wn _).block b hlt, hne⟩) (own_below hox.out (below1 _ _)) (hll.out.keep (below1 wn _).size fun b _ hlt hne => ⟨(below1 wn _).block b hlt, hne⟩) ho hgr hat); have c7 := HLP.out.2.1; have f7 := HLP.out.2.2)
                | (go_simp; go_at_call 35; refine (HLI.out _ (by first | exact HB1.out | exact HB0.out)).mono ?_; rintro e wn ⟨l2, q2, c2, k2, er2, fr2, rfl, hst, hll, hbx, hox, hfx, hai⟩; have y0 := hbx.out.cell 6 _ rfl; have y1 : ∀ o, (wn.alloc o).cell? ⟨w1.heap.size, 6, none⟩ = some (.slice (some ⟨g, 0, none⟩) acc.length cap) := fun o => (hbx.out.on (below1 wn o)).cell 6 _ rfl))
              all_goals go_wp2_with fail
              all_goals go_roundg (7 - (acc.length + 1))
              all_goals (first | (case measure => omega) | skip)
              all_goals exact ⟨acc ++ [l2.at q2 c2], k2, er2, fr2, by simp, by simp, by simp; omega, Lib.hid (LSt.push (by omega) hcm HMT.out hst.out), Lib.hid HLP.out.1⟩
          · have hq : ((textAt s ts kx).toList == [44]) = false := toList_beq (l := [44]) hcm
            go_wp2_with (go_at_call 34; refine (HTX.out).mono ?_; rintro e w8 ⟨rfl, hb8⟩; have HJ8 := Lib.hid (HRJ.out.on hb8); clear hb8)
            go_meet
            exact ⟨acc, kx, 0, 0, Lib.hid (LSt.stop hcm HMT.out), HJ8⟩
        · have g3 : (ex == 0) = false := by simpa using hne
          have HES := Lib.hid (show ESt s ts k1 acc kx ex fx from .inr ⟨hne, herr⟩)
          clear hne herr HST
          go_wp2_with fail
          go_meet
          exact ⟨acc, kx, ex, fx, HES, HRJ⟩
    case rest =>
      obtain ⟨acc, kx, ex, fx, HES, HRJ⟩ := hcut
      have HND := Lib.hid (rneed_est HCL.out acc kx ex fx HES.out wc rb q c HRJ.out.rr)
      go_wp2_with (first
        | (go_at_call 38; refine (HEN.out _ _ _ _ _ _ _ HJ5.out.rr).mono ?_; rintro e w4 ⟨rfl, ho4, hs4⟩; obtain ⟨k4, n0, p0, hr4, hd4⟩ := ended_sum HP.out HD5.out (fun k e f => Rr w4 rb s q c ts k e f) hs4; have HD4 := Lib.hid hd4; have HJ4 := Lib.hid (HJ5.out.step ho4 hr4); obtain ⟨c0, c1, c2, c3, c4⟩ := hr4.five; have HZ4 := Lib.hid (HJ4.out.keeps HZW.out (Nat.ne_of_lt hgw) (Nat.ne_of_lt (Nat.lt_trans hgw hlt))); obtain ⟨z0, z1, z2, z3, z4, z5, z6⟩ := HZ4.out.seven; obtain ⟨t0, t1, t2, t3, t4, t5, t6⟩ := HZ4.out.softs; obtain ⟨htm4, qb, cb, hbk4, hrd4, he4, hf4, hg4⟩ := HJ4.out.mem HTW.out (fun b hb => ⟨HTN.out b hb, Nat.ne_of_gt (HF2.out b hb)⟩); have HTM4 := Lib.hid htm4; have HRD4 := Lib.hid hrd4; have HE4 := Lib.hid he4; have HF4 := Lib.hid hf4; have HG4 := Lib.hid hg4; obtain ⟨y0, y1, y2, y3, y4, y5, y6⟩ := hbk4.seven; have HW4 := Lib.hid (HJ4.out.belowAt HWW.out (Nat.le_of_lt hgw) (Nat.le_of_lt (Nat.lt_trans hgw hlt))); clear ho4 hs4 hr4 hd4 htm4 hrd4 he4 hf4 hg4 hbk4)
        | (go_at_call 37; refine (HND.out).mono ?_; rintro e w5 ⟨rfl, ho5, k5, e5, f5, hr5, hd5⟩; have HD5 := Lib.hid hd5; have HJ5 := Lib.hid (HRJ.out.step ho5 hr5); clear ho5 hr5 hd5))
      · have he0 : n0 ≠ 0 := by simpa using (by assumption : (n0 != 0) = true)
        have HRE := Lib.hid ((HD4.out.resolve_left (fun h => he0 h.1)).2)
        clear HD4 HD5 HTM4 HRD4 HE4 HF4 HG4 y0 y1 y2 y3 y4 y5 y6 HJ4 HJ5 HND HES HRJ HEN HCL HXW HTW HTN HF2 c0 c1 c2
        have hne4 : w.heap.size ≠ rb := Nat.ne_of_lt hgw
        go_region_held3 (fun X => X.cell? ⟨rb, 3, none⟩ = some (.int .i64 n0) ∧ X.cell? ⟨rb, 4, none⟩ = some (.int .i64 p0)) (go_keep) (fail)
        go_wp2_with fail
        have HQ := load7 HZ4.out (.int .u8 0) (.string ⟨#[]⟩) (.string ⟨#[]⟩) (.int .i64 0) (.string ⟨#[]⟩) (.slice none 0 0) (.slice none 0 0)
        have HC := set7 (w := w4) (Nat.le_refl w.heap.size) (.int .u8 0) (.string ⟨#[]⟩) (.string ⟨#[]⟩) (.int .i64 0) (.string ⟨#[]⟩) (.slice none 0 0) (.slice none 0 0)
        generalize ((((((w4.setCell ⟨w.heap.size, 0, none⟩ (.int .u8 0)).setCell ⟨w.heap.size, 1, none⟩ (.string ⟨#[]⟩)).setCell ⟨w.heap.size, 2, none⟩ (.string ⟨#[]⟩)).setCell ⟨w.heap.size, 3, none⟩ (.int .i64 0)).setCell ⟨w.heap.size, 4, none⟩ (.string ⟨#[]⟩)).setCell ⟨w.heap.size, 5, none⟩ (.slice none 0 0)).setCell ⟨w.heap.size, 6, none⟩ (.slice none 0 0) = W6 at *
        obtain ⟨q0, q1, q2', q3, q4, q5, q6⟩ := (show Bk W6.drew w.heap.size _ _ from HQ).seven
        refine bodyPost_ret (v := .tuple #[kpZ.agg, .int .i64 p0, .int .i64 n0]) ?_ rfl ?_
        · simp [results, Tryz.results12, go_sem, q0, q1, q2', q3, q4, q5, q6, kpZ, lpZ, Kp.agg, tmZ]
        · rw [HRE.out]
          exact ⟨rfl, (HW4.out.trans HC).trans (below_drewN' (Below.refl w.heap.size W6) 1)⟩
      · have he0 : n0 = 0 := by simpa using (by assumption : (n0 != 0) = false)
        have HRE := Lib.hid ((HD4.out.resolve_right (fun h => h.1 he0)).2)
        obtain ⟨q0, q1, q2', q3, q4, q5, q6⟩ := (load7 HZ4.out (.int .u8 1) (.string ⟨#[]⟩) (.string ⟨#[]⟩) (.int .i64 0) (.string nm) (.slice q' l.length c') (.slice qb acc.length cb)).seven
        refine bodyPost_ret (v := .tuple #[(⟨⟨1, tmZ, nm, q', c', l⟩, qb, cb, acc⟩ : Kp).agg, .int .i64 0, .int .i64 0]) ?_ rfl ?_
        · simp [results, Tryz.results12, go_sem, q0, q1, q2', q3, q4, q5, q6, Kp.agg, tmZ]
        · rw [HRE.out]
          have hfar : ClFar (w.heap.size + 1) (⟨⟨1, tmZ, nm, q', c', l⟩, qb, cb, acc⟩ : Kp) :=
            ⟨fun b hb => Nat.le_trans (by omega) (HF2.out b hb), fun b hb => Nat.le_trans (by omega) (HF4.out b hb), fun x hx => (HG4.out x hx).imp id fun h b hb => Nat.le_trans (by omega) (h b hb)⟩
          have hmem : ClMem w4 (⟨⟨1, tmZ, nm, q', c', l⟩, qb, cb, acc⟩ : Kp) := ⟨HTM4.out, HRD4.out, HE4.out⟩
          exact ⟨⟨⟨1, tmZ, nm, q', c', l⟩, qb, cb, acc⟩, rfl, rfl, hmem.above hfar ((Above.refl (w.heap.size + 1) w4).set7 (b := w.heap.size) (by omega) _ _ _ _ _ _ _) (set7 (Nat.le_refl w.heap.size) _ _ _ _ _ _ _).size, hfar.mono (Nat.le_succ _), HW4.out.trans (set7 (Nat.le_refl _) _ _ _ _ _ _ _)⟩
end Go.Proofs.YtnjdganikeganaaGreatDoor

/-
  Contract: the reference's Parse, any text.
-/
namespace Go.Proofs.YtnjdganikeganaaGreatDoor
open Go.RowKit

theorem refParse_any (s : ByteArray) (w : World) (hm : s.size ≤ 140737488351232) :
    Calls Tryz.prog 12 #[.string s] w (ParsePost w (parseR s)) := by
  by_cases hx : (allL s.data.toList).err = 0
  · cases hat : atomR s (allL s.data.toList).toks 0 with
    | error np =>
      obtain ⟨n, p⟩ := np
      exact refParse_head s w hm hx n p hat
    | ok a =>
      obtain ⟨⟨nm, l⟩, k1⟩ := a
      by_cases hif : textAt s (allL s.data.toList).toks k1 = wdIf
      · exact refParse_body s w hm hx nm l k1 hat hif
      · exact refParse_fact s w hm hx nm l k1 hat hif
  · exact refParse_lex s w hm hx
end Go.Proofs.YtnjdganikeganaaGreatDoor

/-
  The walk of mandatelaw06.ClauseParses: it answers true.
-/
namespace Go.Proofs.YtnjdganikeganaaGreatDoor
open Go.RowKit

def clauseOf (R : Except (Int × Int) Cq) : Cq := match R with | .ok x => x | .error _ => kpZ.q
theorem clmem_nil (w : World) : ClMem w kpZ := ⟨.inl rfl, .inl rfl, fun l hl => by cases hl⟩
theorem cl_sum {w : World} {R : Except (Int × Int) Cq} {e : Ending} {w' : World} (h : ParsePost w R e w') :
    ∃ cl : Kp, cl.q = clauseOf R ∧ e = .returned (.tuple #[cl.agg, .int .i64 (plOf R), .int .i64 (errOf R)]) ∧ ClMem w' cl ∧ Below w.heap.size w w' := by
  cases R with
  | ok x => obtain ⟨cl, h1, h2, h3, _, h5⟩ := h; exact ⟨cl, h1, h2, h3, h5⟩
  | error x => obtain ⟨n, p⟩ := x; obtain ⟨h1, h2⟩ := h; exact ⟨kpZ, rfl, h1, clmem_nil _, h2⟩
theorem clauseOf_sm (s : ByteArray) : (clauseOf (parseR s)).Sm := by
  cases h : parseR s with
  | ok x => exact parseR_sm h
  | error x =>
    show kpZ.q.Sm
    exact ⟨⟨tmZ_sm, by decide, fun t ht => (by cases ht), by decide⟩, fun l hl => (by cases hl), by decide⟩
theorem same_yes (C : Cq) (hs : C.Sm) (a b : Kp) (w : World) (ha : ClMem w a) (hb : ClMem w b) (ea : a.q = C) (eb : b.q = C) :
    Calls Tryz.prog 14 #[a.agg, b.agg] w fun e w' => e = .returned (.bool true) ∧ Below w.heap.size w w' := by
  subst ea
  have h1 := hs.head.len
  have h2 := hs.len
  refine (same_any a b w ha hb (by simp only [Kp.q, Lp.q] at h1; omega) (by simp only [Kp.q, List.length_map] at h2; omega) (fun l hl => ?_)).mono fun e w' ⟨h3, h4⟩ => ⟨by rw [h3, sameK_iff.2 eb.symm], h4⟩
  have h5 := (hs.body l.q (List.mem_map_of_mem hl)).len
  simp only [Lp.q] at h5
  omega

set_option maxHeartbeats 16000000 in
set_option maxRecDepth 100000 in
theorem parses_walk (s : ByteArray) (w : World) (he : Env w) (hm : s.size ≤ 140737488351232) :
    Calls Tryz.prog 3 #[.string s] w fun e w' => e = .returned (.bool true) ∧ Below w.heap.size w w' := by
  have HE := Lib.hid he
  have hsm := clauseOf_sm s
  have HP := Lib.hid (show ∀ wx, Env wx → _ from fun wx hx => (parse_any s wx hm hx).mono fun e w' h => cl_sum h)
  have HR := Lib.hid (show ∀ wx, _ from fun wx => (refParse_any s wx hm).mono fun e w' h => cl_sum h)
  have HF := Lib.hid (show ∀ wx, Env wx → _ from fun wx hx => fixed_any wx hx)
  generalize clauseOf (parseR s) = C at *
  generalize plOf (parseR s) = pl at *
  generalize errOf (parseR s) = er at *
  have HS := Lib.hid (show ∀ wx a b, ClMem wx a → ClMem wx b → a.q = C → b.q = C → _ from fun wx a b h1 h2 h3 h4 => same_yes C hsm a b wx h1 h2 h3 h4)
  unfold Kp.agg at HP HR HS
  clear he hsm hm
  go_enter Tryz.func3, Tryz.ntmps3
  go_wp2_with (first
    | (go_at_call 14; refine (HS.out _ cl1 cl2 HT5.out HU5.out HQ1.out HQ2.out).mono ?_; rintro e w4 ⟨rfl, hb4⟩; have HB4 := Lib.hid (HB3.out.trans (hb4.mono HB3.out.size)); clear hb4)
    | (go_at_call 13; refine (HF.out _ (HE.out.on HB2'.out)).mono ?_; rintro e w3 ⟨rfl, hb3⟩; have HB3 := Lib.hid (HB2'.out.trans (hb3.mono HB2'.out.size)); have HX5 := Lib.hid ((HX2.out.on (below1 w2 _)).on hb3); have HY5 := Lib.hid ((Bk.new w2 _ _).on hb3); have HT5 := Lib.hid ((HT2.out.on (below1 w2 _)).on hb3); have HU5 := Lib.hid ((HU2.out.on (below1 w2 _)).on hb3); obtain ⟨x0, x1, x2, x3, x4, x5, x6⟩ := HX5.out.seven; obtain ⟨y0, y1, y2, y3, y4, y5, y6⟩ := HY5.out.seven; clear hb3)
    | (go_at_call 12; refine (HR.out _).mono ?_; rintro e w2 ⟨cl2, hq2, rfl, ht2, hb2⟩; have HQ2 := Lib.hid hq2; have HU2 := Lib.hid ht2; have HX2 := Lib.hid ((Bk.new w1 _ _).on hb2); have HT2 := Lib.hid ((HT1.out.on (below1 w1 _)).on hb2); have HB2 := Lib.hid ((HB1.out.trans ((below1 w1 _).mono HB1.out.size)).trans (hb2.mono (Nat.le_trans HB1.out.size (by simp)))); have HB2' := Lib.hid (HB2.out.trans ((below1 w2 (.cells #[.int .u8 cl2.head.kind, .string cl2.head.who.v, .string cl2.head.who.s, .int .i64 cl2.head.who.n, .string cl2.head.pred, .slice cl2.head.ptr cl2.head.args.length cl2.head.cap, .slice cl2.ptr cl2.body.length cl2.cap] 31)).mono HB2.out.size)); clear ht2 hb2 hq2)
    | (go_at_call 11; refine (HP.out _ HE.out).mono ?_; rintro e w1 ⟨cl1, hq1, rfl, ht1, hb1⟩; have HQ1 := Lib.hid hq1; have HT1 := Lib.hid ht1; have HB1 := Lib.hid hb1; clear ht1 hb1 hq1))
  go_ret
  exact ⟨rfl, HB4.out⟩
end Go.Proofs.YtnjdganikeganaaGreatDoor

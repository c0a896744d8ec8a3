/-
  Joined of: RdrL, RdrM, RdrP.
-/
import Derived.Test.YtnjdganikeganaaGreatDoorJa32
set_option linter.unusedVariables false
set_option linter.unusedSimpArgs false
/-
  Contract: the reference's Parse where the head can't be read.
-/
namespace Go.Proofs.YtnjdganikeganaaGreatDoor
open Go.RowKit

set_option maxHeartbeats 8000000 in
set_option maxRecDepth 100000 in
theorem refParse_head (s : ByteArray) (w : World) (hm : s.size ≤ 140737488351232) (hx : (allL s.data.toList).err = 0) (n0 p0 : Int) (hat : atomR s (allL s.data.toList).toks 0 = .error (n0, p0)) :
    Calls Tryz.prog 12 #[.string s] w (ParsePost w (parseR s)) := by
  have HB := Lib.hid (below1 w)
  have HO := Lib.hid (show ∀ o, _ from fun o => ropen_any s (w.alloc o) hm)
  have HP := Lib.hid (show parseR s = .error (n0, p0) by simp [parseR, hx, clauseR, hat, wholeR])
  generalize parseR s = R at *
  rw [hx] at HO
  generalize (allL s.data.toList).toks = ts at *
  generalize (allL s.data.toList).pl = pl at *
  have HAT := Lib.hid (show ∀ wx rb q c, Rr wx rb s q c ts 0 0 0 → Calls Tryz.prog 33 #[.pointer (some ⟨rb, 0, none⟩)] wx fun e w' => ∃ nm q' l c', e = .returned (.tuple #[.string nm, .slice q' (l : List Tm).length c']) ∧ Only rb wx w' ∧ ∃ k', n0 ≠ 0 ∧ Rr w' rb s q c ts k' n0 p0 from fun wx rb q c h => (ratom_any wx rb s q c ts 0 0 0 h).mono fun e w' ⟨nm, q', l, c', h1, _, _, h2, h3⟩ => ⟨nm, q', l, c', h1, h2, by
    rcases h3 with ⟨k', _, h4, _⟩ | ⟨k', n, p, h0, h4, _, h5⟩
    · rw [hat] at h4; cases h4
    · have h6 := h4 rfl
      rw [hat] at h6; cases h6
      exact ⟨k', h0, h5⟩⟩)
  have HND := Lib.hid (show ∀ wx rb q c k, Rr wx rb s q c ts k n0 p0 → n0 ≠ 0 → _ from fun wx rb q c k h hn => rneed_stuck wx rb s q c ts k n0 p0 ⟨#[46]⟩ h hn)
  have HEN := Lib.hid (show ∀ wx rb q c k, n0 ≠ 0 → Rr wx rb s q c ts k n0 p0 → Calls Tryz.prog 38 #[.pointer (some ⟨rb, 0, none⟩)] wx fun e w' => e = .returned (.tuple #[]) ∧ Only rb wx w' ∧ Rr w' rb s q c ts k n0 p0 from fun wx rb q c k h0 h => (rended_any wx rb s q c ts k n0 p0 h).mono fun e w' ⟨h1, h2, h3⟩ => ⟨h1, h2, by rwa [if_neg h0] at h3⟩)
  clear hx hat
  go_enter Tryz.func12, Tryz.ntmps12
  go_wp2_with (first
    | (go_at_call 38; refine (HEN.out _ _ _ _ _ HN0.out HR3.out).mono ?_; rintro e w4 ⟨rfl, ho4, hr4⟩; have hlt4 := hr4.lt; obtain ⟨c0, c1, c2, c3, c4⟩ := hr4.five; have HZ4 := Lib.hid (HZ3.out.only ho4 (Nat.ne_of_lt hgw)); obtain ⟨z0, z1, z2, z3, z4, z5, z6⟩ := HZ4.out.seven; obtain ⟨t0, t1, t2, t3, t4, t5, t6⟩ := HZ4.out.softs; have HW4 := Lib.hid (HW3.out.trans ((ho4.below (Nat.le_of_lt HR3.out.lt)).mono (Nat.le_of_lt hgw))); clear ho4 hr4)
    | (go_at_call 37; refine (HND.out _ _ _ _ _ HR3.out HN0.out).mono ?_; rintro e w3 ⟨rfl, rfl⟩)
    | (go_at_call 33; go_loud (refine (HAT.out _ _ _ _ (HR1.out.on (below1 w1 _))).mono ?_; rintro e w2 ⟨nm, q', l, c', rfl, ho2, k2, hn0, hr2⟩; have HN0 := Lib.hid hn0; have g0 : (n0 == 0) = false := (by simpa using hn0); have g1 : (n0 != 0) = true := (by simpa using hn0); have HX2 := Lib.hid ((Bk.new w1 31 #[.int .u8 1, .string ⟨#[]⟩, .string ⟨#[]⟩, .int .i64 0, .string ⟨#[]⟩, .slice none 0 0, .slice none 0 0]).only ho2 (Nat.ne_of_gt hlt)); have HZ2 := Lib.hid ((HZ1.out.on (below1 w1 _)).only ho2 (Nat.ne_of_lt hgw)); have HW2 := Lib.hid ((HB1.out.trans ((below1 w1 (.cells #[.int .u8 1, .string ⟨#[]⟩, .string ⟨#[]⟩, .int .i64 0, .string ⟨#[]⟩, .slice none 0 0, .slice none 0 0] 31)).mono HB1.out.size)).trans ((ho2.below (Nat.le_trans (Nat.le_of_lt hlt) (below1 w1 _).size)).mono (Nat.le_of_lt hgw))); obtain ⟨x0, x1, x2, x3, x4, x5, x6⟩ := HX2.out.seven; obtain ⟨f0, f1, f2, f3, f4, f5, f6⟩ := HX2.out.softs; have HR3 := Lib.hid ((hr2.on' (setB (B := rb + 1) (b := w1.heap.size) (by omega) 4 (.string nm))).on' (setB (B := rb + 1) (b := w1.heap.size) (by omega) 5 (.slice q' l.length c'))); have HZ3 := Lib.hid ((HZ2.out.other (b' := w1.heap.size) (by omega) 4 (.string nm)).other (b' := w1.heap.size) (by omega) 5 (.slice q' l.length c')); have HW3 := Lib.hid ((HW2.out.trans (setB (B := w.heap.size) (b := w1.heap.size) (by omega) 4 (.string nm))).trans (setB (B := w.heap.size) (b := w1.heap.size) (by omega) 5 (.slice q' l.length c'))); have d3 := HR3.out.box.cell 3 _ rfl; have d3' := hr2.box.cell 3 _ rfl; have hne : rb ≠ w1.heap.size := Nat.ne_of_lt hlt; clear hn0 ho2 hr2))
    | (go_at_call 32; refine (HO.out _).mono ?_; rintro e w1 ⟨rb, q, c, rfl, hge, hlt, hr1, hb1⟩; have HR1 := Lib.hid (hr1 trivial); have HZ1 := Lib.hid ((Bk.new w _ _).on hb1); have HB1 := Lib.hid ((HB.out _).trans (hb1.mono (HB.out _).size)); have hgw : w.heap.size < rb := Nat.lt_of_succ_le (by simpa using hge); clear hb1 hr1 hge))
  have hne4 : w.heap.size ≠ rb := Nat.ne_of_lt hgw
  clear HR1 HX2 HZ1 HZ2 HZ3 HR3 HAT HND HEN HO x0 x1 x2 x3 x4 x5 x6 f0 f1 f2 f3 f4 f5 f6 d3 d3' HB1 HW2 HW3 c0 c1 c2
  go_region_held3 (fun X => X.cell? ⟨rb, 3, none⟩ = some (.int .i64 n0) ∧ X.cell? ⟨rb, 4, none⟩ = some (.int .i64 p0)) (go_keep) (fail)
  go_wp2_with fail
  have HQ := load7 HZ4.out (.int .u8 0) (.string ⟨#[]⟩) (.string ⟨#[]⟩) (.int .i64 0) (.string ⟨#[]⟩) (.slice none 0 0) (.slice none 0 0)
  have HC := set7 (w := w4) (Nat.le_refl w.heap.size) (.int .u8 0) (.string ⟨#[]⟩) (.string ⟨#[]⟩) (.int .i64 0) (.string ⟨#[]⟩) (.slice none 0 0) (.slice none 0 0)
  generalize ((((((w4.setCell ⟨w.heap.size, 0, none⟩ (.int .u8 0)).setCell ⟨w.heap.size, 1, none⟩ (.string ⟨#[]⟩)).setCell ⟨w.heap.size, 2, none⟩ (.string ⟨#[]⟩)).setCell ⟨w.heap.size, 3, none⟩ (.int .i64 0)).setCell ⟨w.heap.size, 4, none⟩ (.string ⟨#[]⟩)).setCell ⟨w.heap.size, 5, none⟩ (.slice none 0 0)).setCell ⟨w.heap.size, 6, none⟩ (.slice none 0 0) = W6 at *
  obtain ⟨q0, q1, q2', q3, q4, q5, q6⟩ := (show Bk W6.drew w.heap.size _ _ from HQ).seven
  refine bodyPost_ret (v := .tuple #[kpZ.agg, .int .i64 p0, .int .i64 n0]) ?_ rfl ?_
  · simp [results, Tryz.results12, go_sem, q0, q1, q2', q3, q4, q5, q6, kpZ, lpZ, Kp.agg, tmZ]
  · rw [HP.out]
    exact ⟨rfl, (HW4.out.trans HC).trans (below_drewN' (Below.refl w.heap.size W6) 1)⟩
end Go.Proofs.YtnjdganikeganaaGreatDoor

/-
  Contract: the reference's Parse of a clause without a body.
-/
namespace Go.Proofs.YtnjdganikeganaaGreatDoor
open Go.RowKit

theorem Only.belowAt {pb B : Nat} {w w' : World} (h : Only pb w w') (hp : pb ≤ w.heap.size) (hB : B ≤ pb) : Below B w w' := (h.below hp).mono hB

set_option maxHeartbeats 8000000 in
set_option maxRecDepth 100000 in
theorem refParse_fact (s : ByteArray) (w : World) (hm : s.size ≤ 140737488351232) (hx : (allL s.data.toList).err = 0) (nm : ByteArray) (l : List Tm) (k1 : Nat) (hat : atomR s (allL s.data.toList).toks 0 = .ok ((nm, l), k1)) (hif : textAt s (allL s.data.toList).toks k1 ≠ wdIf) :
    Calls Tryz.prog 12 #[.string s] w (ParsePost w (parseR s)) := by
  have HB := Lib.hid (below1 w)
  have HO := Lib.hid (show ∀ o, _ from fun o => ropen_any s (w.alloc o) hm)
  have HP := Lib.hid (show parseR s = wholeR s (allL s.data.toList).toks (clauseR s (allL s.data.toList).toks 0) by unfold parseR; rw [if_pos hx])
  generalize parseR s = R at *
  rw [hx] at HO
  generalize (allL s.data.toList).toks = ts at *
  generalize (allL s.data.toList).pl = pl at *
  have HSR := Lib.hid (show ∀ k2 e2 f2, ((textAt s ts k1 = wdDot ∧ e2 = 0 ∧ f2 = (0 : Int) ∧ k2 = k1 + 1) ∨ (textAt s ts k1 ≠ wdDot ∧ e2 = 6 ∧ f2 = placeAt s ts k1)) → ((e2 = 0 ∧ clauseR s ts 0 = .ok (⟨⟨1, tmZ, nm, l⟩, []⟩, k2)) ∨ (e2 ≠ 0 ∧ clauseR s ts 0 = .error (e2, f2))) from fun k2 e2 f2 h => by
    rcases h with ⟨h1, rfl, rfl, rfl⟩ | ⟨h1, rfl, rfl⟩
    · exact .inl ⟨rfl, by simp [clauseR, hat, h1, show ¬ wdDot = wdIf by decide]⟩
    · exact .inr ⟨by decide, by simp [clauseR, hat, hif, h1]⟩)
  generalize clauseR s ts 0 = SR at *
  have HAT := Lib.hid (show ∀ wx rb q c, Rr wx rb s q c ts 0 0 0 → Calls Tryz.prog 33 #[.pointer (some ⟨rb, 0, none⟩)] wx fun e w' => ∃ q' c', e = .returned (.tuple #[.string nm, .slice q' l.length c']) ∧ Hid (Tms w' w'.heap.size q' l) ∧ Hid (∀ b, q' = some b → wx.heap.size ≤ b.block) ∧ Only rb wx w' ∧ Rr w' rb s q c ts k1 0 0 from fun wx rb q c h => (ratom_any wx rb s q c ts 0 0 0 h).mono fun e w' ⟨nm', q', l', c', h1, ht, hf, h2, h3⟩ => by
    rcases h3 with ⟨k', _, h4, h5⟩ | ⟨k', n, p, h0, h4, _, h5⟩
    · rw [hat] at h4; cases h4
      exact ⟨q', c', h1, Lib.hid ht, Lib.hid hf, h2, h5⟩
    · have h6 := h4 rfl
      rw [hat] at h6; cases h6)
  have HTX := Lib.hid (show ∀ wx rb q c, Rr wx rb s q c ts k1 0 0 → Calls Tryz.prog 34 #[.pointer (some ⟨rb, 0, none⟩), .int .i64 0] wx fun e w' => e = .returned (.string (textAt s ts k1)) ∧ Below wx.heap.size wx w' from fun wx rb q c hx => rtext_any wx rb s q c ts k1 0 0 0 hx (by omega))
  have HND := Lib.hid (show ∀ wx rb q c, Rr wx rb s q c ts k1 0 0 → Calls Tryz.prog 37 #[.pointer (some ⟨rb, 0, none⟩), .string ⟨#[46]⟩] wx fun e w' => e = .returned (.tuple #[]) ∧ Only rb wx w' ∧ ∃ k2 e2 f2, Rr w' rb s q c ts k2 e2 f2 ∧ ((textAt s ts k1 = wdDot ∧ e2 = 0 ∧ f2 = (0 : Int) ∧ k2 = k1 + 1) ∨ (textAt s ts k1 ≠ wdDot ∧ e2 = 6 ∧ f2 = placeAt s ts k1)) from fun wx rb q c h => rneed_sum wx rb s q c ts k1 0 ⟨#[46]⟩ h (by decide))
  have HEN := Lib.hid (show ∀ wx rb q c k er fr, Rr wx rb s q c ts k er fr → _ from fun wx rb q c k er fr hx' => rended_any wx rb s q c ts k er fr hx')
  have g5 := toList_beq (l := [58, 45]) hif
  generalize textAt s ts k1 = x at *
  clear hx hat hif
  go_enter Tryz.func12, Tryz.ntmps12
  go_wp2_with (first
    | (go_at_call 38; refine (HEN.out _ _ _ _ _ _ _ HR5.out).mono ?_; rintro e w4 ⟨rfl, ho4, hs4⟩; obtain ⟨k4, n0, p0, hr4, hd4⟩ := ended_sum HP.out HD5.out (fun k e f => Rr w4 rb s q c ts k e f) hs4; have HD4 := Lib.hid hd4; have hlt4 := hr4.lt; obtain ⟨c0, c1, c2, c3, c4⟩ := hr4.five; have HZ4 := Lib.hid (HZ5.out.only ho4 (Nat.ne_of_lt hgw)); have HX4 := Lib.hid (HX5.out.only ho4 (Nat.ne_of_gt hlt)); have HTM4 := Lib.hid (rd_only HT5.out ho4 (HTN.out)); obtain ⟨z0, z1, z2, z3, z4, z5, z6⟩ := HZ4.out.seven; obtain ⟨t0, t1, t2, t3, t4, t5, t6⟩ := HZ4.out.softs; obtain ⟨y0, y1, y2, y3, y4, y5, y6⟩ := HX4.out.seven; have HW4 := Lib.hid (HW5.out.trans (ho4.belowAt (Nat.le_of_lt HR5.out.lt) (Nat.le_of_lt hgw))); clear ho4 hs4 hr4 hd4)
    | (go_at_call 37; refine (HND.out _ _ _ _ HR4.out).mono ?_; rintro e w5 ⟨rfl, ho5, k5, e5, f5, hr5, hd5⟩; have HR5 := Lib.hid hr5; have HD5 := Lib.hid (HSR.out _ _ _ hd5); have HZ5 := Lib.hid (HZ4'.out.only ho5 (Nat.ne_of_lt hgw)); have HX5 := Lib.hid (HX4'.out.only ho5 (Nat.ne_of_gt hlt)); have HT5 := Lib.hid (rd_only HT4.out ho5 (HTN.out)); have HW5 := Lib.hid (HW4'.out.trans (ho5.belowAt (Nat.le_of_lt HR4.out.lt) (Nat.le_of_lt hgw))); clear ho5 hr5 hd5)
    | (go_at_call 34; refine (HTX.out _ _ _ _ HR3.out).mono ?_; rintro e w3 ⟨rfl, hb3⟩; have HR4 := Lib.hid (HR3.out.on hb3); have HZ4' := Lib.hid (HZ3.out.on hb3); have HX4' := Lib.hid (HX3.out.on hb3); have HT4 := Lib.hid (HT3.out.grow hb3); have HW4' := Lib.hid (HW3.out.trans (hb3.mono HW3.out.size)); clear hb3)
    | (go_at_call 33; refine (HAT.out _ _ _ _ (HR1.out.on (below1 w1 _))).mono ?_; rintro e w2 ⟨q', c', rfl, ht2, hf2, ho2, hr2⟩; go_loud (have hszq : w1.heap.size + 1 ≤ (w1.alloc (.cells #[.int .u8 1, .string ⟨#[]⟩, .string ⟨#[]⟩, .int .i64 0, .string ⟨#[]⟩, .slice none 0 0, .slice none 0 0] 31)).heap.size := (by simp); have HF2 := Lib.hid (show ∀ b, q' = some b → w1.heap.size + 1 ≤ b.block from fun b hb => Nat.le_trans hszq (hf2.out b hb)); have HX2 := Lib.hid ((Bk.new w1 31 #[.int .u8 1, .string ⟨#[]⟩, .string ⟨#[]⟩, .int .i64 0, .string ⟨#[]⟩, .slice none 0 0, .slice none 0 0]).only ho2 (Nat.ne_of_gt hlt)); have HZ2 := Lib.hid ((HZ1.out.on (below1 w1 _)).only ho2 (Nat.ne_of_lt hgw)); have HW2 := Lib.hid ((HB1.out.trans ((below1 w1 (.cells #[.int .u8 1, .string ⟨#[]⟩, .string ⟨#[]⟩, .int .i64 0, .string ⟨#[]⟩, .slice none 0 0, .slice none 0 0] 31)).mono HB1.out.size)).trans ((ho2.below (Nat.le_trans (Nat.le_of_lt hlt) (below1 w1 _).size)).mono (Nat.le_of_lt hgw))); obtain ⟨x0, x1, x2, x3, x4, x5, x6⟩ := HX2.out.seven; obtain ⟨f0, f1, f2, f3, f4, f5, f6⟩ := HX2.out.softs; have HR3 := Lib.hid ((hr2.on' (setB (B := rb + 1) (b := w1.heap.size) (by omega) 4 (.string nm))).on' (setB (B := rb + 1) (b := w1.heap.size) (by omega) 5 (.slice q' l.length c'))); have HX3 := Lib.hid ((HX2.out.set 4 (.string nm)).set 5 (.slice q' l.length c')); have HZ3 := Lib.hid ((HZ2.out.other (b' := w1.heap.size) (by omega) 4 (.string nm)).other (b' := w1.heap.size) (by omega) 5 (.slice q' l.length c')); have HW3 := Lib.hid ((HW2.out.trans (setB (B := w.heap.size) (b := w1.heap.size) (by omega) 4 (.string nm))).trans (setB (B := w.heap.size) (b := w1.heap.size) (by omega) 5 (.slice q' l.length c'))); have HT3 := Lib.hid ((((Above.refl (w1.heap.size + 1) w2).set (b := w1.heap.size) (by omega) 4 (.string nm)).set (b := w1.heap.size) (by omega) 5 (.slice q' l.length c')).rd ht2.out HF2.out (((setB (w := w2) (B := 0) (b := w1.heap.size) (Nat.zero_le _) 4 (.string nm)).trans (setB (w := w2.setCell ⟨w1.heap.size, 4, none⟩ (.string nm)) (B := 0) (b := w1.heap.size) (Nat.zero_le _) 5 (.slice q' l.length c'))).size)); have HTN := Lib.hid (show ∀ b, q' = some b → b.block ≠ rb from fun b hb => Nat.ne_of_gt (Nat.lt_of_lt_of_le hlt (Nat.le_trans (Nat.le_succ _) (HF2.out b hb)))); have d3 := HR3.out.box.cell 3 _ rfl; have d3' := hr2.box.cell 3 _ rfl; have hne : rb ≠ w1.heap.size := Nat.ne_of_lt hlt; clear ho2 hr2 ht2 hf2))
    | (go_at_call 32; refine (HO.out _).mono ?_; rintro e w1 ⟨rb, q, c, rfl, hge, hlt, hr1, hb1⟩; have HR1 := Lib.hid (hr1 trivial); have HZ1 := Lib.hid ((Bk.new w _ _).on hb1); have HB1 := Lib.hid ((HB.out _).trans (hb1.mono (HB.out _).size)); have hgw : w.heap.size < rb := Nat.lt_of_succ_le (by simpa using hge); clear hb1 hr1 hge))
  · have he0 : n0 ≠ 0 := by simpa using (by assumption : (n0 != 0) = true)
    have HRE := Lib.hid ((HD4.out.resolve_left (fun h => he0 h.1)).2)
    clear HD4 HD5 HX4 HX5 HT5 HTM4 HT4 HT3 y0 y1 y2 y3 y4 y5 y6 HF2 HTN HR4 HR5 HZ5 HX4' HZ4' HW4' HX3 HTX HSR
    clear HR1 HX2 HZ1 HZ2 HZ3 HR3 HAT HND HEN HO x0 x1 x2 x3 x4 x5 x6 f0 f1 f2 f3 f4 f5 f6 d3 d3' HB1 HW2 HW3 HW5 c0 c1 c2
    have hne4 : w.heap.size ≠ rb := Nat.ne_of_lt hgw
    go_region_held3 (fun X => X.cell? ⟨rb, 3, none⟩ = some (.int .i64 n0) ∧ X.cell? ⟨rb, 4, none⟩ = some (.int .i64 p0)) (go_keep) (fail)
    go_wp2_with fail
    have HQ := load7 HZ4.out (.int .u8 0) (.string ⟨#[]⟩) (.string ⟨#[]⟩) (.int .i64 0) (.string ⟨#[]⟩) (.slice none 0 0) (.slice none 0 0)
    have HC := set7 (w := w4) (Nat.le_refl w.heap.size) (.int .u8 0) (.string ⟨#[]⟩) (.string ⟨#[]⟩) (.int .i64 0) (.string ⟨#[]⟩) (.slice none 0 0) (.slice none 0 0)
    generalize ((((((w4.setCell ⟨w.heap.size, 0, none⟩ (.int .u8 0)).setCell ⟨w.heap.size, 1, none⟩ (.string ⟨#[]⟩)).setCell ⟨w.heap.size, 2, none⟩ (.string ⟨#[]⟩)).setCell ⟨w.heap.size, 3, none⟩ (.int .i64 0)).setCell ⟨w.heap.size, 4, none⟩ (.string ⟨#[]⟩)).setCell ⟨w.heap.size, 5, none⟩ (.slice none 0 0)).setCell ⟨w.heap.size, 6, none⟩ (.slice none 0 0) = W6 at *
    obtain ⟨q0, q1, q2', q3, q4, q5, q6⟩ := (show Bk W6.drew w.heap.size _ _ from HQ).seven
    refine bodyPost_ret (v := .tuple #[kpZ.agg, .int .i64 p0, .int .i64 n0]) ?_ rfl ?_
    · simp [results, Tryz.results12, go_sem, q0, q1, q2', q3, q4, q5, q6, kpZ, lpZ, Kp.agg, tmZ]
    · rw [HRE.out]
      exact ⟨rfl, (HW4.out.trans HC).trans (below_drewN' (Below.refl w.heap.size W6) 1)⟩
  · have he0 : n0 = 0 := by simpa using (by assumption : (n0 != 0) = false)
    have HRE := Lib.hid ((HD4.out.resolve_right (fun h => h.1 he0)).2)
    obtain ⟨q0, q1, q2', q3, q4, q5, q6⟩ := (load7 HZ4.out (.int .u8 1) (.string ⟨#[]⟩) (.string ⟨#[]⟩) (.int .i64 0) (.string nm) (.slice q' l.length c') (.slice none 0 0)).seven
    refine bodyPost_ret (v := .tuple #[(⟨⟨1, tmZ, nm, q', c', l⟩, none, 0, []⟩ : Kp).agg, .int .i64 0, .int .i64 0]) ?_ rfl ?_
    · simp [results, Tryz.results12, go_sem, q0, q1, q2', q3, q4, q5, q6, Kp.agg, tmZ]
    · rw [HRE.out]
      have hf : ∀ b, q' = some b → w.heap.size + 1 ≤ b.block := fun b hb => Nat.le_trans (by omega) (HF2.out b hb)
      have hfar : ClFar w.heap.size (⟨⟨1, tmZ, nm, q', c', l⟩, none, 0, []⟩ : Kp) := by
        refine ⟨fun b hb => Nat.le_trans (Nat.le_succ _) (hf b hb), fun b hb => ?_, fun x hx => ?_⟩
        · exact absurd hb (by simp)
        · exact absurd hx (by simp)
      refine ⟨⟨⟨1, tmZ, nm, q', c', l⟩, none, 0, []⟩, rfl, rfl, ⟨?_, .inl rfl, fun x hx => absurd hx (by simp)⟩, hfar, HW4.out.trans (set7 (Nat.le_refl _) _ _ _ _ _ _ _)⟩
      exact ((Above.refl (w.heap.size + 1) w4).set7 (b := w.heap.size) (by omega) _ _ _ _ _ _ _).rd HTM4.out hf (set7 (Nat.le_refl w.heap.size) _ _ _ _ _ _ _).size
end Go.Proofs.YtnjdganikeganaaGreatDoor

/-
  The reference's Parse: what its loop keeps, what is left when it ends.
-/
namespace Go.Proofs.YtnjdganikeganaaGreatDoor
open Go.RowKit

theorem RJ.belowAt {w0 w1 : World} {rb cb : Nat} {a0 a1 a2 a3 a4 a5 : Value} {s : ByteArray} {q : Option Addr} {c : Nat} {ts : List Tok} {k : Nat} {er fr : Int} {acc : List Lp} {w : World}
    (h : RJ w1 w1.heap.size rb cb a0 a1 a2 a3 a4 a5 s q c ts k er fr acc w) (hw : Below w0.heap.size w0 w1) (h1 : w0.heap.size ≤ rb) (h2 : w0.heap.size ≤ cb) : Below w0.heap.size w0 w :=
  ⟨h.io.1.trans hw.os, h.io.2.1.trans hw.tape, h.io.2.2.trans hw.output, Nat.le_trans hw.size h.hi, fun k hk => (h.old k (Nat.lt_of_lt_of_le hk hw.size) (by omega) (by omega)).trans (hw.block k hk)⟩
/-- a block of before, of neither the reader nor the clause -/
theorem RJ.keeps {w1 : World} {rb cb : Nat} {a0 a1 a2 a3 a4 a5 : Value} {s : ByteArray} {q : Option Addr} {c : Nat} {ts : List Tok} {k : Nat} {er fr : Int} {acc : List Lp} {w : World} {b : Nat} {T : TypeId} {cs : Array Value}
    (h : RJ w1 w1.heap.size rb cb a0 a1 a2 a3 a4 a5 s q c ts k er fr acc w) (hb : Bk w1 b T cs) (h1 : b ≠ rb) (h2 : b ≠ cb) : Bk w b T cs := (h.old b hb.lt h1 h2).trans hb
/-- the clause once its body was read -/
theorem RJ.mem {w1 : World} {rb cb : Nat} {a0 a1 a2 a3 a4 a5 : Value} {s : ByteArray} {q : Option Addr} {c : Nat} {ts : List Tok} {k : Nat} {er fr : Int} {acc : List Lp} {w : World} {hq : Option Addr} {l : List Tm}
    (h : RJ w1 w1.heap.size rb cb a0 a1 a2 a3 a4 a5 s q c ts k er fr acc w) (ht : Tms w1 w1.heap.size hq l) (hf : ∀ b, hq = some b → b.block ≠ rb ∧ b.block ≠ cb) :
    Tms w w.heap.size hq l ∧ ∃ q' c', Bk w cb 31 #[a0, a1, a2, a3, a4, a5, .slice q' acc.length c'] ∧ Rd encL 6 w w.heap.size q' acc ∧ (∀ x ∈ acc, Tms w w.heap.size x.ptr x.args) ∧ (∀ b, q' = some b → w1.heap.size ≤ b.block) ∧ (∀ x ∈ acc, x.args = [] ∨ ∀ b, x.ptr = some b → w1.heap.size ≤ b.block) := by
  obtain ⟨v, hv, hown, hfar⟩ := h.own
  obtain ⟨q', c', rfl, hrd, _⟩ := grw_form EL (.inr hown) h.hi
  refine ⟨?_, q', c', hv, hrd, fun x hx => (hfar x hx).rd, own_fresh hown, fun x hx => ?_⟩
  · rcases ht with h1 | ⟨b, off, h1, h2, h3⟩
    · exact .inl h1
    · obtain ⟨n1, n2⟩ := hf _ h1
      exact .inr ⟨b, off, h1, Nat.lt_of_lt_of_le h2 h.hi, fun i hi r u hu => (show w.cell? ⟨b, off + i * 3 + r, none⟩ = w1.cell? ⟨b, off + i * 3 + r, none⟩ from World.cell?_of_block (w := w1) (h.old b h2 n1 n2)).trans (h3 i hi r u hu)⟩
  · rcases hfar x hx with h1 | ⟨b, off, h1, h2, _⟩
    · exact .inl h1
    · exact .inr fun b' hb' => by rw [h1] at hb'; cases hb'; exact h2
/-- how far the loop has read: at the next comma, or an error -/
def LSt (s : ByteArray) (ts : List Tok) (k1 : Nat) (acc : List Lp) (kx : Nat) (ex fx : Int) : Prop :=
  (ex = 0 ∧ fx = 0 ∧ listL s ts 5 (k1 + 1) = moreL s ts (6 - acc.length) (acc.map Lp.q) kx) ∨ (ex ≠ 0 ∧ listL s ts 5 (k1 + 1) = .error (ex, fx))
/-- how the loop ended -/
def ESt (s : ByteArray) (ts : List Tok) (k1 : Nat) (acc : List Lp) (kx : Nat) (ex fx : Int) : Prop :=
  (ex = 0 ∧ fx = 0 ∧ listL s ts 5 (k1 + 1) = .ok (acc.map Lp.q, kx)) ∨ (ex ≠ 0 ∧ listL s ts 5 (k1 + 1) = .error (ex, fx))
theorem LSt.first {s : ByteArray} {ts : List Tok} {k1 : Nat} {l : Lq} {q : Option Addr} {c : Nat} {kx : Nat} {ex fx : Int} (h : (ex = 0 ∧ fx = 0 ∧ litR s ts (k1 + 1) = .ok (l, kx)) ∨ (ex ≠ 0 ∧ litR s ts (k1 + 1) = .error (ex, fx))) :
    LSt s ts k1 [l.at q c] kx ex fx := by
  rcases h with ⟨h1, h2, h3⟩ | ⟨h1, h2⟩
  · exact .inl ⟨h1, h2, by simp only [listL, h3]; rfl⟩
  · exact .inr ⟨h1, by simp only [listL, h2]⟩
theorem LSt.push {s : ByteArray} {ts : List Tok} {k1 : Nat} {acc : List Lp} {k : Nat} {l : Lq} {q : Option Addr} {c : Nat} {kx : Nat} {ex fx : Int} (hl : acc.length < 6) (hc : textAt s ts k = comma) (h0 : listL s ts 5 (k1 + 1) = moreL s ts (6 - acc.length) (acc.map Lp.q) k)
    (h : (ex = 0 ∧ fx = 0 ∧ litR s ts (k + 1) = .ok (l, kx)) ∨ (ex ≠ 0 ∧ litR s ts (k + 1) = .error (ex, fx))) : LSt s ts k1 (acc ++ [l.at q c]) kx ex fx := by
  have e : 6 - acc.length = (6 - (acc.length + 1)) + 1 := by omega
  rw [e] at h0
  simp only [moreL, if_pos hc] at h0
  rcases h with ⟨h1, h2, h3⟩ | ⟨h1, h2⟩
  · rw [h3] at h0
    refine .inl ⟨h1, h2, ?_⟩
    rw [h0, List.length_append, List.map_append]
    rfl
  · rw [h2] at h0
    exact .inr ⟨h1, h0⟩
theorem LSt.over {s : ByteArray} {ts : List Tok} {k1 : Nat} {acc : List Lp} {k : Nat} (hl : acc.length = 6) (hc : textAt s ts k = comma) (h0 : listL s ts 5 (k1 + 1) = moreL s ts (6 - acc.length) (acc.map Lp.q) k) : ESt s ts k1 acc k 2 (placeAt s ts k) := by
  rw [hl] at h0
  simp only [Nat.sub_self, moreL, if_pos hc] at h0
  exact .inr ⟨by decide, h0⟩
theorem LSt.stop {s : ByteArray} {ts : List Tok} {k1 : Nat} {acc : List Lp} {k : Nat} (hc : textAt s ts k ≠ comma) (h0 : listL s ts 5 (k1 + 1) = moreL s ts (6 - acc.length) (acc.map Lp.q) k) : ESt s ts k1 acc k 0 0 := by
  refine .inl ⟨rfl, rfl, h0.trans ?_⟩
  rcases 6 - acc.length with _ | n
  · simp only [moreL, if_neg hc]
  · simp only [moreL, if_neg hc]
theorem rneed_est {s : ByteArray} {ts : List Tok} {k1 : Nat} {nm : ByteArray} {l : List Tm} {SR : Except (Int × Int) (Cq × Nat)}
    (hs : SR = match listL s ts 5 (k1 + 1) with
      | .error e => .error e
      | .ok (b, k2) => if textAt s ts k2 = wdDot then .ok (⟨⟨1, tmZ, nm, l⟩, b⟩, k2 + 1) else .error (6, placeAt s ts k2)) (acc : List Lp) (kx : Nat) (ex fx : Int) (h : ESt s ts k1 acc kx ex fx) (wx : World) (rb : Nat) (q : Option Addr) (c : Nat) (hr : Rr wx rb s q c ts kx ex fx) :
    Calls Tryz.prog 37 #[.pointer (some ⟨rb, 0, none⟩), .string ⟨#[46]⟩] wx fun e w' => e = .returned (.tuple #[]) ∧ Only rb wx w' ∧ ∃ k2 e2 f2, Rr w' rb s q c ts k2 e2 f2 ∧ ((e2 = 0 ∧ SR = .ok (⟨⟨1, tmZ, nm, l⟩, acc.map Lp.q⟩, k2)) ∨ (e2 ≠ 0 ∧ SR = .error (e2, f2))) := by
  rcases h with ⟨rfl, rfl, h3⟩ | ⟨h1, h2⟩
  · rw [h3] at hs
    refine (rneed_sum wx rb s q c ts kx 0 ⟨#[46]⟩ hr (by decide)).mono fun e w' ⟨g1, g2, k2, e2, f2, g3, g4⟩ => ⟨g1, g2, k2, e2, f2, g3, ?_⟩
    rcases g4 with ⟨g5, rfl, rfl, rfl⟩ | ⟨g5, rfl, rfl⟩
    · have g5 : textAt s ts kx = wdDot := g5
      exact .inl ⟨rfl, by rw [hs]; simp only; rw [if_pos g5]⟩
    · have g5 : ¬ textAt s ts kx = wdDot := g5
      exact .inr ⟨by decide, by rw [hs]; simp only; rw [if_neg g5]⟩
  · rw [h2] at hs
    exact (rneed_stuck wx rb s q c ts kx ex fx ⟨#[46]⟩ hr h1).mono fun e w' ⟨g1, g2⟩ => ⟨g1, g2 ▸ Only.refl _ _, kx, ex, fx, g2 ▸ hr, .inr ⟨h1, hs⟩⟩
end Go.Proofs.YtnjdganikeganaaGreatDoor

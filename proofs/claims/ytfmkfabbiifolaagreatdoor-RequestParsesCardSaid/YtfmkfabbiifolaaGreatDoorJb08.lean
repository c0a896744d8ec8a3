/-
  Joined of: RdrP, RdrN, RdrO.
-/
import Derived.Test.YtfmkfabbiifolaaGreatDoorJb07
import Derived.Deep.CutBlock
import Derived.Deep.DeepCutAuto
import Derived.Deep.LoopGhost
set_option linter.unusedVariables false
set_option linter.unusedSimpArgs false
/-
  The reference's Parse: what its loop keeps, what is left when it ends.
-/
namespace Go.Proofs.YtfmkfabbiifolaaGreatDoor
open Go.RowKit

theorem RJ.belowAt {w0 w1 : World} {rb cb : Nat} {a0 a1 a2 a3 a4 a5 : Value} {s : ByteArray} {q : Option Addr} {c : Nat} {ts : List Tok} {k : Nat} {er fr : Int} {acc : List Lp} {w : World}
    (h : RJ w1 w1.heap.size rb cb a0 a1 a2 a3 a4 a5 s q c ts k er fr acc w) (hw : Below w0.heap.size w0 w1) (h1 : w0.heap.size ≤ rb) (h2 : w0.heap.size ≤ cb) : Below w0.heap.size w0 w :=
  ⟨h.io.1.trans hw.os, h.io.2.1.trans hw.tape, h.io.2.2.trans hw.output, Nat.le_trans hw.size h.hi, fun k hk => (h.old k (Nat.lt_of_lt_of_le hk hw.size) (by omega) (by omega)).trans (hw.block k hk)⟩
/-- a block of before, of neither the reader nor the clause -/
theorem RJ.keeps {w1 : World} {rb cb : Nat} {a0 a1 a2 a3 a4 a5 : Value} {s : ByteArray} {q : Option Addr} {c : Nat} {ts : List Tok} {k : Nat} {er fr : Int} {acc : List Lp} {w : World} {b : Nat} {T : TypeId} {cs : Array Value}
    (h : RJ w1 w1.heap.size rb cb a0 a1 a2 a3 a4 a5 s q c ts k er fr acc w) (hb : Bk w1 b T cs) (h1 : b ≠ rb) (h2 : b ≠ cb) : Bk w b T cs := (h.old b hb.lt h1 h2).trans hb
/-- the clause once its body was read -/
theorem RJ.mem {w1 : World} {rb cb : Nat} {a0 a1 a2 a3 a4 a5 : Value} {s : ByteArray} {q : Option Addr} {c : Nat} {ts : List Tok} {k : Nat} {er fr : Int} {acc : List Lp} {w : World} {hq : Option Addr} {l : List Tm}
    (h : RJ w1 w1.heap.size rb cb a0 a1 a2 a3 a4 a5 s q c ts k er fr acc w) (ht : Tms w1 w1.heap.size hq l) (hf : ∀ b, hq = some b → b.block ≠ rb ∧ b.block ≠ cb) :
    Tms w w.heap.size hq l ∧ ∃ q' c', Bk w cb 31 #[a0, a1, a2, a3, a4, a5, .slice q' acc.length c'] ∧ Rd encL 6 w w.heap.size q' acc ∧ (∀ x ∈ acc, Tms w w.heap.size x.ptr x.args) ∧ (∀ b, q' = some b → w1.heap.size ≤ b.block) ∧ (∀ x ∈ acc, x.args = [] ∨ ∀ b, x.ptr = some b → w1.heap.size ≤ b.block) := by
  obtain ⟨v, hv, hown, hfar⟩ := h.own
  obtain ⟨q', c', rfl, hrd, _⟩ := grw_form EL (.inr hown) h.hi
  refine ⟨?_, q', c', hv, hrd, fun x hx => (hfar x hx).rd, own_fresh hown, fun x hx => ?_⟩
  · rcases ht with h1 | ⟨b, off, h1, h2, h3⟩
    · exact .inl h1
    · obtain ⟨n1, n2⟩ := hf _ h1
      exact .inr ⟨b, off, h1, Nat.lt_of_lt_of_le h2 h.hi, fun i hi r u hu => (show w.cell? ⟨b, off + i * 3 + r, none⟩ = w1.cell? ⟨b, off + i * 3 + r, none⟩ from World.cell?_of_block (w := w1) (h.old b h2 n1 n2)).trans (h3 i hi r u hu)⟩
  · rcases hfar x hx with h1 | ⟨b, off, h1, h2, _⟩
    · exact .inl h1
    · exact .inr fun b' hb' => by rw [h1] at hb'; cases hb'; exact h2
/-- how far the loop has read: at the next comma, or an error -/
def LSt (s : ByteArray) (ts : List Tok) (k1 : Nat) (acc : List Lp) (kx : Nat) (ex fx : Int) : Prop :=
  (ex = 0 ∧ fx = 0 ∧ listL s ts 5 (k1 + 1) = moreL s ts (6 - acc.length) (acc.map Lp.q) kx) ∨ (ex ≠ 0 ∧ listL s ts 5 (k1 + 1) = .error (ex, fx))
/-- how the loop ended -/
def ESt (s : ByteArray) (ts : List Tok) (k1 : Nat) (acc : List Lp) (kx : Nat) (ex fx : Int) : Prop :=
  (ex = 0 ∧ fx = 0 ∧ listL s ts 5 (k1 + 1) = .ok (acc.map Lp.q, kx)) ∨ (ex ≠ 0 ∧ listL s ts 5 (k1 + 1) = .error (ex, fx))
theorem LSt.first {s : ByteArray} {ts : List Tok} {k1 : Nat} {l : Lq} {q : Option Addr} {c : Nat} {kx : Nat} {ex fx : Int} (h : (ex = 0 ∧ fx = 0 ∧ litR s ts (k1 + 1) = .ok (l, kx)) ∨ (ex ≠ 0 ∧ litR s ts (k1 + 1) = .error (ex, fx))) :
    LSt s ts k1 [l.at q c] kx ex fx := by
  rcases h with ⟨h1, h2, h3⟩ | ⟨h1, h2⟩
  · exact .inl ⟨h1, h2, by simp only [listL, h3]; rfl⟩
  · exact .inr ⟨h1, by simp only [listL, h2]⟩
theorem LSt.push {s : ByteArray} {ts : List Tok} {k1 : Nat} {acc : List Lp} {k : Nat} {l : Lq} {q : Option Addr} {c : Nat} {kx : Nat} {ex fx : Int} (hl : acc.length < 6) (hc : textAt s ts k = comma) (h0 : listL s ts 5 (k1 + 1) = moreL s ts (6 - acc.length) (acc.map Lp.q) k)
    (h : (ex = 0 ∧ fx = 0 ∧ litR s ts (k + 1) = .ok (l, kx)) ∨ (ex ≠ 0 ∧ litR s ts (k + 1) = .error (ex, fx))) : LSt s ts k1 (acc ++ [l.at q c]) kx ex fx := by
  have e : 6 - acc.length = (6 - (acc.length + 1)) + 1 := by omega
  rw [e] at h0
  simp only [moreL, if_pos hc] at h0
  rcases h with ⟨h1, h2, h3⟩ | ⟨h1, h2⟩
  · rw [h3] at h0
    refine .inl ⟨h1, h2, ?_⟩
    rw [h0, List.length_append, List.map_append]
    rfl
  · rw [h2] at h0
    exact .inr ⟨h1, h0⟩
theorem LSt.over {s : ByteArray} {ts : List Tok} {k1 : Nat} {acc : List Lp} {k : Nat} (hl : acc.length = 6) (hc : textAt s ts k = comma) (h0 : listL s ts 5 (k1 + 1) = moreL s ts (6 - acc.length) (acc.map Lp.q) k) : ESt s ts k1 acc k 2 (placeAt s ts k) := by
  rw [hl] at h0
  simp only [Nat.sub_self, moreL, if_pos hc] at h0
  exact .inr ⟨by decide, h0⟩
theorem LSt.stop {s : ByteArray} {ts : List Tok} {k1 : Nat} {acc : List Lp} {k : Nat} (hc : textAt s ts k ≠ comma) (h0 : listL s ts 5 (k1 + 1) = moreL s ts (6 - acc.length) (acc.map Lp.q) k) : ESt s ts k1 acc k 0 0 := by
  refine .inl ⟨rfl, rfl, h0.trans ?_⟩
  rcases 6 - acc.length with _ | n
  · simp only [moreL, if_neg hc]
  · simp only [moreL, if_neg hc]
theorem rneed_est {s : ByteArray} {ts : List Tok} {k1 : Nat} {nm : ByteArray} {l : List Tm} {SR : Except (Int × Int) (Cq × Nat)}
    (hs : SR = match listL s ts 5 (k1 + 1) with
      | .error e => .error e
      | .ok (b, k2) => if textAt s ts k2 = wdDot then .ok (⟨⟨1, tmZ, nm, l⟩, b⟩, k2 + 1) else .error (6, placeAt s ts k2)) (acc : List Lp) (kx : Nat) (ex fx : Int) (h : ESt s ts k1 acc kx ex fx) (wx : World) (rb : Nat) (q : Option Addr) (c : Nat) (hr : Rr wx rb s q c ts kx ex fx) :
    Calls Tryz.prog 63 #[.pointer (some ⟨rb, 0, none⟩), .string ⟨#[46]⟩] wx fun e w' => e = .returned (.tuple #[]) ∧ Only rb wx w' ∧ ∃ k2 e2 f2, Rr w' rb s q c ts k2 e2 f2 ∧ ((e2 = 0 ∧ SR = .ok (⟨⟨1, tmZ, nm, l⟩, acc.map Lp.q⟩, k2)) ∨ (e2 ≠ 0 ∧ SR = .error (e2, f2))) := by
  rcases h with ⟨rfl, rfl, h3⟩ | ⟨h1, h2⟩
  · rw [h3] at hs
    refine (rneed_sum wx rb s q c ts kx 0 ⟨#[46]⟩ hr (by decide)).mono fun e w' ⟨g1, g2, k2, e2, f2, g3, g4⟩ => ⟨g1, g2, k2, e2, f2, g3, ?_⟩
    rcases g4 with ⟨g5, rfl, rfl, rfl⟩ | ⟨g5, rfl, rfl⟩
    · have g5 : textAt s ts kx = wdDot := g5
      exact .inl ⟨rfl, by rw [hs]; simp only; rw [if_pos g5]⟩
    · have g5 : ¬ textAt s ts kx = wdDot := g5
      exact .inr ⟨by decide, by rw [hs]; simp only; rw [if_neg g5]⟩
  · rw [h2] at hs
    exact (rneed_stuck wx rb s q c ts kx ex fx ⟨#[46]⟩ hr h1).mono fun e w' ⟨g1, g2⟩ => ⟨g1, g2 ▸ Only.refl _ _, kx, ex, fx, g2 ▸ hr, .inr ⟨h1, hs⟩⟩
end Go.Proofs.YtfmkfabbiifolaaGreatDoor

/-
  Contract: the reference's Parse of a clause with a body.
-/
namespace Go.Proofs.YtfmkfabbiifolaaGreatDoor
open Go.RowKit

set_option maxHeartbeats 16000000 in
set_option maxRecDepth 100000 in
theorem refParse_body (s : ByteArray) (w : World) (hm : s.size ≤ 140737488351232) (hx : (allL s.data.toList).err = 0) (nm : ByteArray) (l : List Tm) (k1 : Nat) (hat : atomR s (allL s.data.toList).toks 0 = .ok ((nm, l), k1)) (hif : textAt s (allL s.data.toList).toks k1 = wdIf) :
    Calls Tryz.prog 24 #[.string s] w (ParsePost w (parseR s)) := by
  have HB := Lib.hid (below1 w)
  have HO := Lib.hid (show ∀ o, _ from fun o => ropen_any s (w.alloc o) hm)
  have HP := Lib.hid (show parseR s = wholeR s (allL s.data.toList).toks (clauseR s (allL s.data.toList).toks 0) by unfold parseR; rw [if_pos hx])
  generalize parseR s = R at *
  rw [hx] at HO
  generalize (allL s.data.toList).toks = ts at *
  generalize (allL s.data.toList).pl = pl at *
  have HAT := Lib.hid (show ∀ wx rb q c, Rr wx rb s q c ts 0 0 0 → Calls Tryz.prog 59 #[.pointer (some ⟨rb, 0, none⟩)] wx fun e w' => ∃ q' c', e = .returned (.tuple #[.string nm, .slice q' l.length c']) ∧ Hid (Tms w' w'.heap.size q' l) ∧ Hid (∀ b, q' = some b → wx.heap.size ≤ b.block) ∧ Only rb wx w' ∧ Rr w' rb s q c ts k1 0 0 from fun wx rb q c h => (ratom_any wx rb s q c ts 0 0 0 h).mono fun e w' ⟨nm', q', l', c', h1, ht, hf, h2, h3⟩ => by
    rcases h3 with ⟨k', _, h4, h5⟩ | ⟨k', n, p, h0, h4, _, h5⟩
    · rw [hat] at h4; cases h4
      exact ⟨q', c', h1, Lib.hid ht, Lib.hid hf, h2, h5⟩
    · have h6 := h4 rfl
      rw [hat] at h6; cases h6)
  have HTX := Lib.hid (show ∀ wx rb q c, Rr wx rb s q c ts k1 0 0 → Calls Tryz.prog 60 #[.pointer (some ⟨rb, 0, none⟩), .int .i64 0] wx fun e w' => e = .returned (.string (textAt s ts k1)) ∧ Below wx.heap.size wx w' from fun wx rb q c hx => rtext_any wx rb s q c ts k1 0 0 0 hx (by omega))
  have HCL := Lib.hid (show clauseR s ts 0 = match listL s ts 5 (k1 + 1) with
      | .error e => .error e
      | .ok (b, k2) => if textAt s ts k2 = wdDot then .ok (⟨⟨1, tmZ, nm, l⟩, b⟩, k2 + 1) else .error (6, placeAt s ts k2) by
    unfold clauseR; rw [hat]; simp only; rw [if_pos hif]; cases listL s ts 5 (k1 + 1) <;> rfl)
  generalize clauseR s ts 0 = SR at *
  have HEN := Lib.hid (show ∀ wx rb q c k er fr, Rr wx rb s q c ts k er fr → _ from fun wx rb q c k er fr hx' => rended_any wx rb s q c ts k er fr hx')
  have hk1 : k1 < ts.length := text_lt hif (by decide)
  have g5 := toList_beq_yes (l := [58, 45]) hif
  obtain ⟨i0, hi, hz0, hz1, hzb⟩ := info_parts infoLit
  generalize textAt s ts k1 = x at *
  clear hx hat hif
  go_enter Tryz.func24, Tryz.ntmps24
  go_wp2_with (first
    | (go_at_call 60; refine (HTX.out _ _ _ _ HR3.out).mono ?_; rintro e w3 ⟨rfl, hb3⟩; have HR4 := Lib.hid (HR3.out.on hb3); have HZ4 := Lib.hid (HZ3.out.on hb3); have HX4 := Lib.hid (HX3.out.on hb3); have HT4 := Lib.hid (HT3.out.grow hb3); have HW4 := Lib.hid (HW3.out.trans (hb3.mono HW3.out.size)); have hl3 := HX3.out.lt; have hs3 := hb3.size; have d2 := HR4.out.box.cell 2 _ rfl; have d2' := HR4.out.box.soft 2; have hl := HR4.out.src.len; have HR5 := Lib.hid (HR4.out.set 2 (.int .i64 ((k1 : Int) + 1)) (k1 + 1) 0 0 (by omega) (by simp)); clear hb3)
    | (go_at_call 59; refine (HAT.out _ _ _ _ (HR1.out.on (below1 w1 _))).mono ?_; rintro e w2 ⟨q', c', rfl, ht2, hf2, ho2, hr2⟩; go_loud (have hszq : w1.heap.size + 1 ≤ (w1.alloc (.cells #[.int .u8 1, .string ⟨#[]⟩, .string ⟨#[]⟩, .int .i64 0, .string ⟨#[]⟩, .slice none 0 0, .slice none 0 0] 31)).heap.size := (by simp); have HF2 := Lib.hid (show ∀ b, q' = some b → w1.heap.size + 1 ≤ b.block from fun b hb => Nat.le_trans hszq (hf2.out b hb)); have HX2 := Lib.hid ((Bk.new w1 31 #[.int .u8 1, .string ⟨#[]⟩, .string ⟨#[]⟩, .int .i64 0, .string ⟨#[]⟩, .slice none 0 0, .slice none 0 0]).only ho2 (Nat.ne_of_gt hlt)); have HZ2 := Lib.hid ((HZ1.out.on (below1 w1 _)).only ho2 (Nat.ne_of_lt hgw)); have HW2 := Lib.hid ((HB1.out.trans ((below1 w1 (.cells #[.int .u8 1, .string ⟨#[]⟩, .string ⟨#[]⟩, .int .i64 0, .string ⟨#[]⟩, .slice none 0 0, .slice none 0 0] 31)).mono HB1.out.size)).trans ((ho2.below (Nat.le_trans (Nat.le_of_lt hlt) (below1 w1 _).size)).mono (Nat.le_of_lt hgw))); obtain ⟨x0, x1, x2, x3, x4, x5, x6⟩ := HX2.out.seven; obtain ⟨f0, f1, f2, f3, f4, f5, f6⟩ := HX2.out.softs; have HR3 := Lib.hid ((hr2.on' (setB (B := rb + 1) (b := w1.heap.size) (by omega) 4 (.string nm))).on' (setB (B := rb + 1) (b := w1.heap.size) (by omega) 5 (.slice q' l.length c'))); have HX3 := Lib.hid ((HX2.out.set 4 (.string nm)).set 5 (.slice q' l.length c')); have HZ3 := Lib.hid ((HZ2.out.other (b' := w1.heap.size) (by omega) 4 (.string nm)).other (b' := w1.heap.size) (by omega) 5 (.slice q' l.length c')); have HW3 := Lib.hid ((HW2.out.trans (setB (B := w.heap.size) (b := w1.heap.size) (by omega) 4 (.string nm))).trans (setB (B := w.heap.size) (b := w1.heap.size) (by omega) 5 (.slice q' l.length c'))); have HT3 := Lib.hid ((((Above.refl (w1.heap.size + 1) w2).set (b := w1.heap.size) (by omega) 4 (.string nm)).set (b := w1.heap.size) (by omega) 5 (.slice q' l.length c')).rd ht2.out HF2.out (((setB (w := w2) (B := 0) (b := w1.heap.size) (Nat.zero_le _) 4 (.string nm)).trans (setB (w := w2.setCell ⟨w1.heap.size, 4, none⟩ (.string nm)) (B := 0) (b := w1.heap.size) (Nat.zero_le _) 5 (.slice q' l.length c'))).size)); have HTN := Lib.hid (show ∀ b, q' = some b → b.block ≠ rb from fun b hb => Nat.ne_of_gt (Nat.lt_of_lt_of_le hlt (Nat.le_trans (Nat.le_succ _) (HF2.out b hb)))); have d3 := HR3.out.box.cell 3 _ rfl; have d3' := hr2.box.cell 3 _ rfl; have hne : rb ≠ w1.heap.size := Nat.ne_of_lt hlt; clear ho2 hr2 ht2 hf2))
    | (go_at_call 58; refine (HO.out _).mono ?_; rintro e w1 ⟨rb, q, c, rfl, hge, hlt, hr1, hb1⟩; have HR1 := Lib.hid (hr1 trivial); have HZ1 := Lib.hid ((Bk.new w _ _).on hb1); have HB1 := Lib.hid ((HB.out _).trans (hb1.mono (HB.out _).size)); have hgw : w.heap.size < rb := Nat.lt_of_succ_le (by simpa using hge); clear hb1 hr1 hge))
  have HXW := Lib.hid (HX4.out.other (b' := rb) (Nat.ne_of_gt hlt) 2 (.int .i64 ((k1 : Int) + 1)))
  have HZW := Lib.hid (HZ4.out.other (b' := rb) (Nat.ne_of_lt hgw) 2 (.int .i64 ((k1 : Int) + 1)))
  have HWW := Lib.hid (HW4.out.trans (setB (b := rb) (Nat.le_of_lt hgw) 2 (.int .i64 ((k1 : Int) + 1))))
  have HTW := Lib.hid (rd_only HT4.out (Only.set rb w3 2 (.int .i64 ((k1 : Int) + 1))) HTN.out)
  have hcw : w1.heap.size < (w3.setCell ⟨rb, 2, none⟩ (.int .i64 ((k1 : Int) + 1))).heap.size := HXW.out.lt
  have HRW := HR5
  clear HR1 HX2 HZ1 HZ2 HZ3 HX3 HR3 HAT HTX HO HT3 HT4 HX4 HZ4 HW4 HW3 HW2 HR4 HR5 HB1 x0 x1 x2 x3 x4 x5 x6 f0 f1 f2 f3 f4 f5 f6 d3 d3' d2 d2' hl3 hs3 hszq
  generalize w3.setCell ⟨rb, 2, none⟩ (.int .i64 ((k1 : Int) + 1)) = wb at *
  have HJ := Lib.hid (show RJ wb wb.heap.size rb w1.heap.size (.int .u8 1) (.string ⟨#[]⟩) (.string ⟨#[]⟩) (.int .i64 0) (.string nm) (.slice q' l.length c') s q c ts (k1 + 1) 0 0 [] wb from ⟨⟨rfl, rfl, rfl⟩, fun g _ _ _ => rfl, HRW.out, ⟨.slice none 0 0, HXW.out, World.ownsRow_nil _ _ _ _, fun x hx => absurd hx (by simp)⟩, Nat.lt_trans hlt hcw, hcw, hlt, Nat.le_refl _⟩)
  go_cut [] (fun wx => ∃ (acc : List Lp) (kx : Nat) (ex fx : Int), 1 ≤ acc.length ∧ acc.length ≤ 6 ∧ Hid (LSt s ts k1 acc kx ex fx) ∧ Hid (RJ wb wb.heap.size rb w1.heap.size (.int .u8 1) (.string ⟨#[]⟩) (.string ⟨#[]⟩) (.int .i64 0) (.string nm) (.slice q' l.length c') s q c ts kx ex fx acc wx))
  case first =>
    have HLI := Lib.hid (RJ.lit HJ.out HXW.out)
    have x0 := HXW.out.cell 6 _ rfl
    have HB0 := Lib.hid (Below.refl wb.heap.size wb)
    have HB1 := Lib.hid (Below.drew (Below.refl wb.heap.size wb))
    have HL1 := Lib.hid (show ([] : List Lp).length + 1 ≤ maxLen by decide)
    have HL2 := Lib.hid (show (([] : List Lp).length + 1) * 88 ≤ 140737488355328 by decide)
    go_region_law (first
      | (refine step_append_lies _ rfl (.tmp 49) (.tmp 52) 29 rfl wb.heap.size 28 i0 _ 6 88 underLs hi hz0 hz1 hzb rfl (by omega) (.slice none 0 0) ([] : List Lp).length (flatE encL []) (by rfl) (own_below hox.out (below1 _ _)) ⟨wn.heap.size, 0, none⟩ 1 1 (encL (l2.at q2 c2)) (by rfl) (by rfl) (news_alloc _ _ _) (EL.one _) (by omega) HL1.out HL2.out (Nat.le_trans hai.out.hi (below1 _ _).size) _ rfl ?_; intro g cap w7 ho hgr hat hlt7; have HLP := Lib.hid (RJ.push (hai.out.on (below1 _ _)) (hbx.out.on (below1 _ _)) (fun x hx => (hfx.out x hx).keep (below1 wn _).size fun b _ hlt hne => ⟨(below1 wn _).block b hlt, hne⟩) (own_below hox.out (below1 _ _)) (hll.out.keep (below1 wn _).size fun b _ hlt hne => ⟨(below1 wn _).block b hlt, hne⟩) ho hgr hat); have c7 := HLP.out.2.1; have f7 := HLP.out.2.2)
      | (go_simp; go_at_call 61; refine (HLI.out _ (by first | exact HB1.out | exact HB0.out)).mono ?_; rintro e wn ⟨l2, q2, c2, k2, er2, fr2, rfl, hst, hll, hbx, hox, hfx, hai⟩; have y0 := hbx.out.cell 6 _ rfl; have y1 : ∀ o, (wn.alloc o).cell? ⟨w1.heap.size, 6, none⟩ = some (.slice none 0 0) := fun o => (hbx.out.on (below1 wn o)).cell 6 _ rfl))
    all_goals go_wp2_with fail
    all_goals go_meet
    all_goals exact ⟨[l2.at q2 c2], k2, er2, fr2, by simp, by simp, Lib.hid (LSt.first hst.out), Lib.hid HLP.out.1⟩
  case rest =>
    obtain ⟨acc0, kx0, ex0, fx0, hlo0, hhi0, HS0, HR0⟩ := hcut
    go_upto_block 0 with fail
    go_cut [] (fun wx => ∃ (acc : List Lp) (kx : Nat) (ex fx : Int), Hid (ESt s ts k1 acc kx ex fx) ∧ Hid (RJ wb wb.heap.size rb w1.heap.size (.int .u8 1) (.string ⟨#[]⟩) (.string ⟨#[]⟩) (.int .i64 0) (.string nm) (.slice q' l.length c') s q c ts kx ex fx acc wx))
    case first =>
      go_wp2_with fail
      go_loopg [] (7 - acc0.length) (fun g wx => ∃ (acc : List Lp) (kx : Nat) (ex fx : Int), g = 7 - acc.length ∧ 1 ≤ acc.length ∧ acc.length ≤ 6 ∧ Hid (LSt s ts k1 acc kx ex fx) ∧ Hid (RJ wb wb.heap.size rb w1.heap.size (.int .u8 1) (.string ⟨#[]⟩) (.string ⟨#[]⟩) (.int .i64 0) (.string nm) (.slice q' l.length c') s q c ts kx ex fx acc wx))
      case atStart => exact ⟨acc0, kx0, ex0, fx0, rfl, hlo0, hhi0, HS0, HR0⟩
      case round =>
        obtain ⟨acc, kx, ex, fx, rfl, hlo, hhi, HST, HRJ⟩ := hrel
        obtain ⟨v, hbk, how, hfar⟩ := HRJ.out.own
        obtain ⟨g, cap, hv, _, _⟩ := World.ownsRow.form how (by omega)
        subst hv
        have HBK := Lib.hid hbk
        clear hbk how hfar
        have x3 := HRJ.out.rr.box.cell 3 _ rfl
        have y6 := HBK.out.cell 6 _ rfl
        have hhr := HRJ.out.hi
        rcases HST.out with ⟨rfl, rfl, hmt⟩ | ⟨hne, herr⟩
        · have HMT := Lib.hid hmt
          have hkl := HRJ.out.rr.le
          have hsl := HRJ.out.rr.src.len
          have HTX := Lib.hid (rtext_any _ rb s q c ts kx 0 0 0 HRJ.out.rr (by omega))
          simp only [Nat.add_zero] at HTX
          clear hmt
          by_cases hcm : textAt s ts kx = comma
          · have HTC := Lib.hid (show Calls Tryz.prog 60 #[.pointer (some ⟨rb, 0, none⟩), .int .i64 0] _ fun e w' => e = .returned (.string ⟨#[44]⟩) ∧ Below _ _ w' from (HTX.out).mono fun e w' ⟨h1, h2⟩ => ⟨by rw [h1, hcm]; rfl, h2⟩)
            have hkx := comma_lt hcm
            by_cases hl6 : acc.length = 6
            · have hl6' : ((acc.length : Int) == 6) = true := by simp; omega
              have HF := Lib.hid (show ∀ wx, Rr wx rb s q c ts kx 0 0 → _ from fun wx hx => rfail_new wx rb s q c ts kx 0 2 hx)
              go_wp2_with (first
                | (go_at_call 62; refine (HF.out _ HJ8.out.rr).mono ?_; rintro e w9 ⟨rfl, hp9, ho9⟩; have HJ9 := Lib.hid (HJ8.out.step ho9 hp9))
                | (go_at_call 60; refine (HTC.out).mono ?_; rintro e w8 ⟨rfl, hb8⟩; have HJ8 := Lib.hid (HRJ.out.on hb8); have y8 := (HBK.out.on hb8).cell 6 _ rfl; clear hb8))
              go_meet
              exact ⟨acc, kx, 2, placeAt s ts kx, Lib.hid (LSt.over hl6 hcm HMT.out), HJ9⟩
            · have hl6' : ((acc.length : Int) == 6) = false := by simp; omega
              go_wp2_with (go_at_call 60; refine (HTC.out).mono ?_; rintro e w8 ⟨rfl, hb8⟩; have HJ8 := Lib.hid (HRJ.out.on hb8); have HBK8 := Lib.hid (HBK.out.on hb8); have y8 := HBK8.out.cell 6 _ rfl; have u2 := HJ8.out.rr.box.cell 2 _ rfl; have u2' := HJ8.out.rr.box.soft 2; clear hb8)
              have HJC := Lib.hid (HJ8.out.step (Only.set rb w8 2 (.int .i64 ((kx : Int) + 1))) (HJ8.out.rr.set 2 (.int .i64 ((kx : Int) + 1)) (kx + 1) 0 0 (by omega) (by simp)))
              have HBC := Lib.hid (HBK8.out.other (b' := rb) (Nat.ne_of_gt hlt) 2 (.int .i64 ((kx : Int) + 1)))
              clear HJ8 HBK8 HRJ HBK x3 y6 y8 u2 u2' HTC HTX HST
              generalize w8.setCell ⟨rb, 2, none⟩ (.int .i64 ((kx : Int) + 1)) = wc at *
              have HLI := Lib.hid (RJ.lit HJC.out HBC.out)
              have x6 := HBC.out.cell 6 _ rfl
              have HB0 := Lib.hid (Below.refl wc.heap.size wc)
              have HB1 := Lib.hid (Below.drew (Below.refl wc.heap.size wc))
              have HL1 := Lib.hid (show acc.length + 1 ≤ maxLen by unfold maxLen; omega)
              have HL2 := Lib.hid (show (acc.length + 1) * 88 ≤ 140737488355328 by omega)
              go_region_law (first
                | (refine step_append_lies _ rfl (.tmp 79) (.tmp 82) 29 rfl wb.heap.size 28 i0 _ 6 88 underLs hi hz0 hz1 hzb rfl (by omega) (.slice (some ⟨g, 0, none⟩) acc.length cap) acc.length (flatE encL acc) (by rfl) (own_below hox.out (below1 _ _)) ⟨wn.heap.size, 0, none⟩ 1 1 (encL (l2.at q2 c2)) (by rfl) (by rfl) (news_alloc _ _ _) (EL.one _) (by omega) HL1.out HL2.out (Nat.le_trans hai.out.hi (below1 _ _).size) _ rfl ?_; intro g7 cap7 w7 ho hgr hat hlt7; have HLP := Lib.hid (RJ.push (hai.out.on (below1 _ _)) (hbx.out.on (below1 _ _)) (fun x hx => (hfx.out x hx).keep (below1 wn _).size fun b _ hlt hne => ⟨(below1 wn _).block b hlt, hne⟩) (own_below hox.out (below1 _ _)) (hll.out.keep (below1 wn _).size fun b _ hlt hne => ⟨(below1 wn _).block b hlt, hne⟩) ho hgr hat); have c7 := HLP.out.2.1; have f7 := HLP.out.2.2)
                | (go_simp; go_at_call 61; refine (HLI.out _ (by first | exact HB1.out | exact HB0.out)).mono ?_; rintro e wn ⟨l2, q2, c2, k2, er2, fr2, rfl, hst, hll, hbx, hox, hfx, hai⟩; have y0 := hbx.out.cell 6 _ rfl; have y1 : ∀ o, (wn.alloc o).cell? ⟨w1.heap.size, 6, none⟩ = some (.slice (some ⟨g, 0, none⟩) acc.length cap) := fun o => (hbx.out.on (below1 wn o)).cell 6 _ rfl))
              all_goals go_wp2_with fail
              all_goals go_roundg (7 - (acc.length + 1))
              all_goals (first | (case measure => omega) | skip)
              all_goals exact ⟨acc ++ [l2.at q2 c2], k2, er2, fr2, by simp, by simp, by simp; omega, Lib.hid (LSt.push (by omega) hcm HMT.out hst.out), Lib.hid HLP.out.1⟩
          · have hq : ((textAt s ts kx).toList == [44]) = false := toList_beq (l := [44]) hcm
            go_wp2_with (go_at_call 60; refine (HTX.out).mono ?_; rintro e w8 ⟨rfl, hb8⟩; have HJ8 := Lib.hid (HRJ.out.on hb8); clear hb8)
            go_meet
            exact ⟨acc, kx, 0, 0, Lib.hid (LSt.stop hcm HMT.out), HJ8⟩
        · have g3 : (ex == 0) = false := by simpa using hne
          have HES := Lib.hid (show ESt s ts k1 acc kx ex fx from .inr ⟨hne, herr⟩)
          clear hne herr HST
          go_wp2_with fail
          go_meet
          exact ⟨acc, kx, ex, fx, HES, HRJ⟩
    case rest =>
      obtain ⟨acc, kx, ex, fx, HES, HRJ⟩ := hcut
      have HND := Lib.hid (rneed_est HCL.out acc kx ex fx HES.out wc rb q c HRJ.out.rr)
      go_wp2_with (first
        | (go_at_call 64; refine (HEN.out _ _ _ _ _ _ _ HJ5.out.rr).mono ?_; rintro e w4 ⟨rfl, ho4, hs4⟩; obtain ⟨k4, n0, p0, hr4, hd4⟩ := ended_sum HP.out HD5.out (fun k e f => Rr w4 rb s q c ts k e f) hs4; have HD4 := Lib.hid hd4; have HJ4 := Lib.hid (HJ5.out.step ho4 hr4); obtain ⟨c0, c1, c2, c3, c4⟩ := hr4.five; have HZ4 := Lib.hid (HJ4.out.keeps HZW.out (Nat.ne_of_lt hgw) (Nat.ne_of_lt (Nat.lt_trans hgw hlt))); obtain ⟨z0, z1, z2, z3, z4, z5, z6⟩ := HZ4.out.seven; obtain ⟨t0, t1, t2, t3, t4, t5, t6⟩ := HZ4.out.softs; obtain ⟨htm4, qb, cb, hbk4, hrd4, he4, hf4, hg4⟩ := HJ4.out.mem HTW.out (fun b hb => ⟨HTN.out b hb, Nat.ne_of_gt (HF2.out b hb)⟩); have HTM4 := Lib.hid htm4; have HRD4 := Lib.hid hrd4; have HE4 := Lib.hid he4; have HF4 := Lib.hid hf4; have HG4 := Lib.hid hg4; obtain ⟨y0, y1, y2, y3, y4, y5, y6⟩ := hbk4.seven; have HW4 := Lib.hid (HJ4.out.belowAt HWW.out (Nat.le_of_lt hgw) (Nat.le_of_lt (Nat.lt_trans hgw hlt))); clear ho4 hs4 hr4 hd4 htm4 hrd4 he4 hf4 hg4 hbk4)
        | (go_at_call 63; refine (HND.out).mono ?_; rintro e w5 ⟨rfl, ho5, k5, e5, f5, hr5, hd5⟩; have HD5 := Lib.hid hd5; have HJ5 := Lib.hid (HRJ.out.step ho5 hr5); clear ho5 hr5 hd5))
      · have he0 : n0 ≠ 0 := by simpa using (by assumption : (n0 != 0) = true)
        have HRE := Lib.hid ((HD4.out.resolve_left (fun h => he0 h.1)).2)
        clear HD4 HD5 HTM4 HRD4 HE4 HF4 HG4 y0 y1 y2 y3 y4 y5 y6 HJ4 HJ5 HND HES HRJ HEN HCL HXW HTW HTN HF2 c0 c1 c2
        have hne4 : w.heap.size ≠ rb := Nat.ne_of_lt hgw
        go_region_held3 (fun X => X.cell? ⟨rb, 3, none⟩ = some (.int .i64 n0) ∧ X.cell? ⟨rb, 4, none⟩ = some (.int .i64 p0)) (go_keep) (fail)
        go_wp2_with fail
        have HQ := load7 HZ4.out (.int .u8 0) (.string ⟨#[]⟩) (.string ⟨#[]⟩) (.int .i64 0) (.string ⟨#[]⟩) (.slice none 0 0) (.slice none 0 0)
        have HC := set7 (w := w4) (Nat.le_refl w.heap.size) (.int .u8 0) (.string ⟨#[]⟩) (.string ⟨#[]⟩) (.int .i64 0) (.string ⟨#[]⟩) (.slice none 0 0) (.slice none 0 0)
        generalize ((((((w4.setCell ⟨w.heap.size, 0, none⟩ (.int .u8 0)).setCell ⟨w.heap.size, 1, none⟩ (.string ⟨#[]⟩)).setCell ⟨w.heap.size, 2, none⟩ (.string ⟨#[]⟩)).setCell ⟨w.heap.size, 3, none⟩ (.int .i64 0)).setCell ⟨w.heap.size, 4, none⟩ (.string ⟨#[]⟩)).setCell ⟨w.heap.size, 5, none⟩ (.slice none 0 0)).setCell ⟨w.heap.size, 6, none⟩ (.slice none 0 0) = W6 at *
        obtain ⟨q0, q1, q2', q3, q4, q5, q6⟩ := (show Bk W6.drew w.heap.size _ _ from HQ).seven
        refine bodyPost_ret (v := .tuple #[kpZ.agg, .int .i64 p0, .int .i64 n0]) ?_ rfl ?_
        · simp [results, Tryz.results24, go_sem, q0, q1, q2', q3, q4, q5, q6, kpZ, lpZ, Kp.agg, tmZ]
        · rw [HRE.out]
          exact ⟨rfl, (HW4.out.trans HC).trans (below_drewN' (Below.refl w.heap.size W6) 1)⟩
      · have he0 : n0 = 0 := by simpa using (by assumption : (n0 != 0) = false)
        have HRE := Lib.hid ((HD4.out.resolve_right (fun h => h.1 he0)).2)
        obtain ⟨q0, q1, q2', q3, q4, q5, q6⟩ := (load7 HZ4.out (.int .u8 1) (.string ⟨#[]⟩) (.string ⟨#[]⟩) (.int .i64 0) (.string nm) (.slice q' l.length c') (.slice qb acc.length cb)).seven
        refine bodyPost_ret (v := .tuple #[(⟨⟨1, tmZ, nm, q', c', l⟩, qb, cb, acc⟩ : Kp).agg, .int .i64 0, .int .i64 0]) ?_ rfl ?_
        · simp [results, Tryz.results24, go_sem, q0, q1, q2', q3, q4, q5, q6, Kp.agg, tmZ]
        · rw [HRE.out]
          have hfar : ClFar (w.heap.size + 1) (⟨⟨1, tmZ, nm, q', c', l⟩, qb, cb, acc⟩ : Kp) :=
            ⟨fun b hb => Nat.le_trans (by omega) (HF2.out b hb), fun b hb => Nat.le_trans (by omega) (HF4.out b hb), fun x hx => (HG4.out x hx).imp id fun h b hb => Nat.le_trans (by omega) (h b hb)⟩
          have hmem : ClMem w4 (⟨⟨1, tmZ, nm, q', c', l⟩, qb, cb, acc⟩ : Kp) := ⟨HTM4.out, HRD4.out, HE4.out⟩
          exact ⟨⟨⟨1, tmZ, nm, q', c', l⟩, qb, cb, acc⟩, rfl, rfl, hmem.above hfar ((Above.refl (w.heap.size + 1) w4).set7 (b := w.heap.size) (by omega) _ _ _ _ _ _ _) (set7 (Nat.le_refl w.heap.size) _ _ _ _ _ _ _).size, hfar.mono (Nat.le_succ _), HW4.out.trans (set7 (Nat.le_refl _) _ _ _ _ _ _ _)⟩
end Go.Proofs.YtfmkfabbiifolaaGreatDoor

/-
  Contract: the reference's Parse, any text.
-/
namespace Go.Proofs.YtfmkfabbiifolaaGreatDoor
open Go.RowKit

theorem refParse_any (s : ByteArray) (w : World) (hm : s.size ≤ 140737488351232) :
    Calls Tryz.prog 24 #[.string s] w (ParsePost w (parseR s)) := by
  by_cases hx : (allL s.data.toList).err = 0
  · cases hat : atomR s (allL s.data.toList).toks 0 with
    | error np =>
      obtain ⟨n, p⟩ := np
      exact refParse_head s w hm hx n p hat
    | ok a =>
      obtain ⟨⟨nm, l⟩, k1⟩ := a
      by_cases hif : textAt s (allL s.data.toList).toks k1 = wdIf
      · exact refParse_body s w hm hx nm l k1 hat hif
      · exact refParse_fact s w hm hx nm l k1 hat hif
  · exact refParse_lex s w hm hx
end Go.Proofs.YtfmkfabbiifolaaGreatDoor

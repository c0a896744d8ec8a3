/-
  Contract: CopyRule (after c6's Copy).
-/
import Derived.Test.YtbkdpdklpmcdgaaPcr
set_option linter.unusedVariables false
set_option linter.unusedSimpArgs false
namespace Go.Proofs.Ytbkdpdklpmcdgaa
open Go.RowKit

theorem Bk0.softs {w : World} {b : Nat} {T : TypeId} {cs : Array Value} (h : Bk0 w b T cs) : w.frozen? ⟨b, 0, none⟩ = false ∧ w.frozen? ⟨b, 1, none⟩ = false ∧ w.frozen? ⟨b, 2, none⟩ = false ∧ w.frozen? ⟨b, 3, none⟩ = false :=
  ⟨h.soft 0, h.soft 1, h.soft 2, h.soft 3⟩
/-- what is copied is as large as what was there -/
theorem arg_bare {W W' : World} {N : Nat} {body acc : List Fl} (hb : ∀ f ∈ body, f.Arg W N) (he : acc.map Fl.bare = body.map Fl.bare) (ht : ∀ f ∈ acc, Tms W' W'.heap.size f.ptr f.args) : ∀ f ∈ acc, f.Arg W' N := fun f hf => by
  have h1 : f.bare ∈ body.map Fl.bare := he ▸ List.mem_map_of_mem hf
  obtain ⟨g, hg, e⟩ := List.mem_map.1 h1
  have e2 : g.args = f.args := congrArg (fun x => x.2.2) e
  have h2 := hb g hg
  exact ⟨ht f hf, e2 ▸ h2.sz, e2 ▸ h2.len⟩
set_option maxHeartbeats 16000000 in
set_option maxRecDepth 100000 in
theorem copyrule_any (N : Nat) (hN : N ≤ 1048576) (r : Rl) (w : World) (hr : r.Arg w N) :
    Calls Try.prog 8 #[r.agg] w fun e w' => ∃ d : Rl, e = .returned d.agg ∧ d.Arg w' N ∧ d.head.bare = r.head.bare ∧ d.body.map Fl.bare = r.body.map Fl.bare ∧ Below w.heap.size w w' := by
  obtain ⟨i0, hi, hz0, hz1, hzb⟩ := info_parts infoFlat
  have HB := Lib.hid (below2 w)
  have HCH := Lib.hid (show ∀ X, Below w.heap.size w X → Calls Try.prog 21 #[.agg #[.int .u8 r.head.kind, .string r.head.pred, .slice r.head.ptr r.head.args.length r.head.cap]] X fun e w' => ∃ q' c', e = .returned (.agg #[.int .u8 r.head.kind, .string r.head.pred, .slice q' r.head.args.length c']) ∧ Tms w' w'.heap.size q' r.head.args ∧ (∀ b, q' = some b → X.heap.size ≤ b.block) ∧ Below X.heap.size X w' from fun X hX => copyflat_any _ _ _ _ _ X (hr.hd.tm.grow hX) (by have := hr.hd.len; omega))
  have HEB := Lib.hid hr.rd
  have HEE := Lib.hid hr.fl
  have HHD := Lib.hid hr.hd
  have HLN := Lib.hid hr.len
  have HNN := Lib.hid hN
  clear hr hN
  obtain ⟨⟨kd, p, q, c, xs⟩, bp, bc, bs⟩ := r
  unfold Rl.agg
  simp only at HCH HEB HEE HHD HLN ⊢
  have hbn : bs.length ≤ 1048576 := Nat.le_trans HLN.out HNN.out
  go_enter Try.func8, Try.ntmps8
  go_upto_block 0 with (go_at_call 21; refine (HCH.out _ (HB.out _ _)).mono ?_; rintro e w1 ⟨q', c', rfl, ht1, hf1, hb1⟩; have HT1 := Lib.hid ht1; have HF1 := Lib.hid hf1; have HX1 := Lib.hid ((Bk0.new1 w _ _ _).on hb1); have HZ1 := Lib.hid ((Bk0.new2 w _ _ _).on hb1); have HB1 := Lib.hid ((HB.out _ _).trans (hb1.mono (HB.out _ _).size)); have hs1 := hb1.size; clear ht1 hf1 hb1)
  have hs2 : w.heap.size + 2 ≤ w1.heap.size := by simpa using hs1
  clear hs1
  have HCB := Lib.hid (Bk0.new w1 27 #[.int .u8 kd, .string p, .slice q' xs.length c', .slice none 0 0])
  have HWB := Lib.hid (below1 w1 (.cells #[.int .u8 kd, .string p, .slice q' xs.length c', .slice none 0 0] 27))
  have HWW := Lib.hid ((HB1.out).trans (HWB.out.mono HB1.out.size))
  have HXB := Lib.hid (HX1.out.below HWB.out (by omega))
  have HZB := Lib.hid (HZ1.out.below HWB.out (by omega))
  have HTB := Lib.hid (HT1.out.below HWB.out (Nat.le_refl _))
  have HF1' := Lib.hid (show ∀ b, q' = some b → w.heap.size + 2 ≤ b.block from fun b hb => by have := HF1.out b hb; simpa using this)
  clear HB HX1 HZ1 HB1 HT1 HWB HF1 HCH
  generalize w1.alloc (.cells #[.int .u8 kd, .string p, .slice q' xs.length c', .slice none 0 0] 27) = wb at *
  have hcw : w1.heap.size < wb.heap.size := HCB.out.lt'
  have HJ0 := Lib.hid (show CJ wb wb.heap.size w1.heap.size (.int .u8 kd) (.string p) (.slice q' xs.length c') [] wb from ⟨⟨rfl, rfl, rfl⟩, fun g _ _ => rfl, ⟨.slice none 0 0, HCB.out, World.ownsRow_nil _ _ _ _, fun x hx => absurd hx (by simp)⟩, hcw, Nat.le_refl _⟩)
  go_wp2_with fail
  go_loopw [4] (fun i wr => ∃ (j : Nat) (acc : List Fl), j ≤ bs.length ∧ i = .int .i64 j ∧ acc.length = j ∧ Hid (acc.map Fl.bare = (bs.take j).map Fl.bare) ∧ Hid (CJ wb wb.heap.size w1.heap.size (.int .u8 kd) (.string p) (.slice q' xs.length c') acc wr)) (fun i _ => bs.length - (intOf i).toNat)
  case atStart => exact ⟨0, [], Nat.zero_le _, rfl, rfl, Lib.hid rfl, HJ0⟩
  case round =>
    obtain ⟨j, acc, hj, rfl, hac, HQ, HJ⟩ := hrel
    obtain ⟨vv, hbk, how, hfar⟩ := HJ.out.own
    obtain ⟨qv, cv, rfl, _, _⟩ := grw_form EF (.inr how) HJ.out.hi
    have HBK := Lib.hid hbk
    have HAC := Lib.hid hac
    have HOW := Lib.hid how
    have HFA := Lib.hid hfar
    have hac1 : acc.length ≤ bs.length := by omega
    clear hbk how hfar hac
    have HXR := Lib.hid (HJ.out.keeps HXB.out (by omega) (by omega))
    have x3 := HXR.out.cell 3 _ rfl
    have hbw : Below w.heap.size w wr := HJ.out.belowAt HWW.out (by omega)
    have hwi := HJ.out.hi
    by_cases hlt : j < bs.length
    · have HTA := Lib.hid ((HEE.out _ (List.getElem_mem hlt)).tm.grow hbw)
      have HCL := Lib.hid (CJ.lit HJ.out HBK.out bs[j] HTA.out (by have := (HEE.out _ (List.getElem_mem hlt)).len; have := HNN.out; omega))
      obtain ⟨b, o, rfl, hbb, e0, e1, e2⟩ := rdF_at (HEB.out.below hbw (Nat.le_refl _)) j hlt
      have HNQ := Lib.hid (show ∀ q c, (acc ++ [(⟨bs[j].kind, bs[j].pred, q, c, bs[j].args⟩ : Fl)]).map Fl.bare = (bs.take (j + 1)).map Fl.bare from fun q c => by rw [List.map_append, HQ.out, List.take_succ_eq_append_getElem hlt, List.map_append]; rfl)
      have hj0 : (0 : Int) ≤ (j : Int) := by omega
      have hj1 : (j : Int) < (bs.length : Int) := by omega
      have y3 := HBK.out.cell 3 _ rfl
      have HB0 := Lib.hid (Below.refl wr.heap.size wr)
      have HB1 := Lib.hid (Below.drew (Below.refl wr.heap.size wr))
      have HL1 := Lib.hid (show acc.length + 1 ≤ maxLen by have := HAC.out; unfold maxLen; omega)
      have HL2 := Lib.hid (show (acc.length + 1) * 48 ≤ 140737488355328 by have := HAC.out; omega)
      clear HTA hbw HXR HQ HOW HFA
      generalize bs[j] = la at *
      go_wp2_with fail
      go_region_law (first
        | (refine step_append_lies _ rfl (.tmp 17) (.tmp 24) 25 rfl wb.heap.size 24 i0 _ 3 48 underFs hi hz0 hz1 hzb rfl (by omega) (.slice qv acc.length cv) acc.length (flatE encF acc) (by rfl) (own_below hox.out (below1 _ _)) ⟨wn.heap.size, 0, none⟩ 1 1 (encF ⟨la.kind, la.pred, q2, c2, la.args⟩) (by rfl) (by rfl) (news_alloc _ _ _) (EF.one _) (by omega) HL1.out HL2.out (Nat.le_trans hai.out.hi (below1 _ _).size) _ rfl ?_; intro g7 cap7 w7 ho hgr hat hlt7; have HLP := Lib.hid (CJ.push (hai.out.on (below1 _ _)) (hbx.out.on (below1 _ _)) (fun x hx => (hfx.out x hx).keep (below1 wn _).size fun b _ hlt hne => ⟨(below1 wn _).block b hlt, hne⟩) (own_below hox.out (below1 _ _)) (hll.out.keep (below1 wn _).size fun b _ hlt hne => ⟨(below1 wn _).block b hlt, hne⟩) ho hgr hat); have c7 := HLP.out.2.1; have f7 := HLP.out.2.2)
        | (go_simp; go_at_call 21; refine (HCL.out _ (by first | exact HB1.out | exact HB0.out)).mono ?_; rintro e wn ⟨q2, c2, rfl, hll, hbx, hox, hfx, hai⟩; have y0 := hbx.out.cell 3 _ rfl; have y1 : ∀ o, (wn.alloc o).cell? ⟨w1.heap.size, 3, none⟩ = some (.slice qv acc.length cv) := fun o => (hbx.out.on (below1 wn o)).cell 3 _ rfl))
      all_goals go_wp2_with fail
      all_goals go_roundw
      all_goals first
        | (show _ < _; simp [intOf]; omega)
        | exact ⟨j + 1, acc ++ [⟨la.kind, la.pred, q2, c2, la.args⟩], by omega, by go_num, by simp [HAC.out], Lib.hid (HNQ.out _ _), Lib.hid HLP.out.1⟩
        | (simp [intOf]; omega)
    · have HQE := Lib.hid (show acc.map Fl.bare = bs.map Fl.bare by rw [HQ.out, show j = bs.length by omega, List.take_length])
      have HZR := Lib.hid (HJ.out.keeps HZB.out (by omega) (by omega))
      obtain ⟨z0, z1, z2, z3⟩ := HZR.out.four
      obtain ⟨t0, t1, t2, t3⟩ := HZR.out.softs
      obtain ⟨y0, y1, y2, y3⟩ := HBK.out.four
      have HTW := Lib.hid (show Tms wr wr.heap.size q' xs from by
        rcases HTB.out with h1 | ⟨b, off, h1, h2, h3⟩
        · exact .inl h1
        · exact .inr ⟨b, off, h1, by omega, fun i hi r u hu => (show wr.cell? ⟨b, off + i * 3 + r, none⟩ = wb.cell? ⟨b, off + i * 3 + r, none⟩ from World.cell?_of_block (w := wb) (HJ.out.old b (by omega) (by omega))).trans (h3 i hi r u hu)⟩)
      have HBW := Lib.hid hbw
      clear hbw HQ
      go_wp2_with fail
      obtain ⟨u0, u1, u2, u3⟩ := (load4 HZR.out (.int .u8 kd) (.string p) (.slice q' xs.length c') (.slice qv acc.length cv)).four
      refine bodyPost_ret (v := (⟨⟨kd, p, q', c', xs⟩, qv, cv, acc⟩ : Rl).agg) ?_ rfl ?_
      · simp [results, Try.results8, go_sem, u0, u1, u2, u3, Rl.agg]
      · have HOW4 := Lib.hid (show World.ownsRow ((((wr.setCell ⟨w.heap.size + 1, 0, none⟩ (.int .u8 kd)).setCell ⟨w.heap.size + 1, 1, none⟩ (.string p)).setCell ⟨w.heap.size + 1, 2, none⟩ (.slice q' xs.length c')).setCell ⟨w.heap.size + 1, 3, none⟩ (.slice qv acc.length cv)) wb.heap.size 24 3 (.slice qv acc.length cv) acc.length (flatE encF acc) from
          ownsRow_setCell_below (ownsRow_setCell_below (ownsRow_setCell_below (ownsRow_setCell_below HOW.out (a := ⟨w.heap.size + 1, 0, none⟩) (by show w.heap.size + 1 < _; omega) _) (a := ⟨w.heap.size + 1, 1, none⟩) (by show w.heap.size + 1 < _; omega) _) (a := ⟨w.heap.size + 1, 2, none⟩) (by show w.heap.size + 1 < _; omega) _) (a := ⟨w.heap.size + 1, 3, none⟩) (by show w.heap.size + 1 < _; omega) _)
        have HS4 := Lib.hid (set4 (w := wr) (B := w.heap.size) (b := w.heap.size + 1) (Nat.le_succ _) (.int .u8 kd) (.string p) (.slice q' xs.length c') (.slice qv acc.length cv))
        have HK4 := Lib.hid (set4_block (w := wr) (b := w.heap.size + 1) (.int .u8 kd) (.string p) (.slice q' xs.length c') (.slice qv acc.length cv))
        generalize (((wr.setCell ⟨w.heap.size + 1, 0, none⟩ (.int .u8 kd)).setCell ⟨w.heap.size + 1, 1, none⟩ (.string p)).setCell ⟨w.heap.size + 1, 2, none⟩ (.slice q' xs.length c')).setCell ⟨w.heap.size + 1, 3, none⟩ (.slice qv acc.length cv) = W4 at *
        obtain ⟨q5, c5, e5, hr5, _⟩ := grw_form EF (.inr HOW4.out) (Nat.le_trans hwi HS4.out.size)
        cases e5
        have hT4 : Tms W4 W4.heap.size q' xs := (Far.keep (g' := none) (Far.of (B := w.heap.size + 2) (g := none) (l := ⟨kd, p, q', c', xs⟩) HTW.out (fun b hb => ⟨HF1'.out b hb, fun e => by cases e⟩)) HS4.out.size (fun b hb _ _ => ⟨HK4.out b (by omega), fun e => by cases e⟩)).rd
        have hF4 : ∀ f ∈ acc, Tms W4 W4.heap.size f.ptr f.args := fun f hf => ((HFA.out f hf).keep HS4.out.size (fun b hb _ hne => ⟨HK4.out b (by omega), hne⟩)).rd
        exact ⟨⟨⟨kd, p, q', c', xs⟩, qv, cv, acc⟩, rfl, ⟨⟨hT4, HHD.out.sz, HHD.out.len⟩, hr5, arg_bare HEE.out HQE.out hF4, by show acc.length ≤ N; have := HAC.out; have := HLN.out; omega⟩, rfl, HQE.out, HBW.out.trans HS4.out⟩
end Go.Proofs.Ytbkdpdklpmcdgaa

/-
  Joined of: CpyE, Rcp.
-/
import Derived.Test.YtfmkfabbiifolaaGreatDoorJe06
import Derived.Test.YtfmkfabbiifolaaGreatDoorJa26
import Derived.Deep.RegionLaw
import Derived.Deep.CutBlock
import Derived.Deep.DeepCutAuto
import Derived.Test.YtfmkfabbiifolaaGreatDoorJe01
import Derived.Test.YtfmkfabbiifolaaGreatDoorJa32
set_option linter.unusedVariables false
set_option linter.unusedSimpArgs false
/-
  Contract: the reference's Copy.
-/
namespace Go.Proofs.YtfmkfabbiifolaaGreatDoor
open Go.RowKit

section
variable {w1 : World} {B cb : Nat} {a0 a1 a2 a3 a4 a5 : Value} {acc : List Lp} {w : World}
theorem CJ.lit (h : CJ w1 B cb a0 a1 a2 a3 a4 a5 acc w) {v : Value} (hv : Bk w cb 31 #[a0, a1, a2, a3, a4, a5, v]) (la : Lp) (hm : Tms w w.heap.size la.ptr la.args) (hsz : la.args.length * 40 ≤ 140737488355328) :
    ∀ X, Below w.heap.size w X → Calls Tryz.prog 31 #[.agg #[.int .u8 la.kind, .string la.who.v, .string la.who.s, .int .i64 la.who.n, .string la.pred, .slice la.ptr la.args.length la.cap]] X fun e w' =>
      ∃ q' c', e = .returned (.agg #[.int .u8 la.kind, .string la.who.v, .string la.who.s, .int .i64 la.who.n, .string la.pred, .slice q' la.args.length c']) ∧ Hid (Far w' B v.ownBlock (la.q.at q' c')) ∧ Hid (Bk w' cb 31 #[a0, a1, a2, a3, a4, a5, v]) ∧ Hid (w'.ownsRow B 28 6 v acc.length (flatE encL acc)) ∧ Hid (∀ x ∈ acc, Far w' B v.ownBlock x) ∧ Hid (CJ w1 B cb a0 a1 a2 a3 a4 a5 acc w') := by
  intro X hX
  have hx := h.on hX
  refine (copyLit_any la X (hm.grow hX) hsz).mono fun e w' ⟨q', c', he, ht, hf, hb⟩ => ?_
  have hj := hx.on hb
  have hb2 := (hv.on hX).on hb
  obtain ⟨ho2, hf2⟩ := hj.value hb2
  obtain ⟨ho1, _⟩ := h.value hv
  refine ⟨q', c', he, Lib.hid (Far.of ht fun b hb => ⟨?_, ?_⟩), Lib.hid hb2, Lib.hid ho2, Lib.hid hf2, Lib.hid hj⟩
  · have := hf b hb
    have := hX.size
    have := h.hi
    show B ≤ b.block
    omega
  · intro e
    have h8 := (ho1.lt b.block e).2
    have := hf b hb
    have := hX.size
    omega
end

set_option maxHeartbeats 16000000 in
set_option maxRecDepth 100000 in
theorem copy_any (k : Kp) (w : World) (h : ClMem w k) (hh : k.head.args.length * 40 ≤ 140737488355328) (hb : k.body.length * 88 ≤ 140737488355328) (he : ∀ l ∈ k.body, l.args.length * 40 ≤ 140737488355328) :
    Calls Tryz.prog 30 #[k.agg] w fun e w' => ∃ d : Kp, d.q = k.q ∧ e = .returned d.agg ∧ ClMem w' d ∧ ClFar w.heap.size d ∧ Below w.heap.size w w' := by
  obtain ⟨i0, hi, hz0, hz1, hzb⟩ := info_parts infoLit
  have HB := Lib.hid (below2 w)
  have HCH := Lib.hid (show ∀ X, Below w.heap.size w X → Calls Tryz.prog 31 #[.agg #[.int .u8 k.head.kind, .string k.head.who.v, .string k.head.who.s, .int .i64 k.head.who.n, .string k.head.pred, .slice k.head.ptr k.head.args.length k.head.cap]] X fun e w' => ∃ q' c', e = .returned (.agg #[.int .u8 k.head.kind, .string k.head.who.v, .string k.head.who.s, .int .i64 k.head.who.n, .string k.head.pred, .slice q' k.head.args.length c']) ∧ Tms w' w'.heap.size q' k.head.args ∧ (∀ b, q' = some b → X.heap.size ≤ b.block) ∧ Below X.heap.size X w' from fun X hX => copyLit_any k.head X (h.head.grow hX) hh)
  obtain ⟨⟨kd, ⟨v, s, n⟩, p, q, c, xs⟩, bp, bc, bs⟩ := k
  unfold Kp.agg
  simp only at HCH hb he ⊢
  have HEB := Lib.hid h.body
  have HEE := Lib.hid h.each
  have HSZ := Lib.hid he
  clear h hh he
  go_enter Tryz.func30, Tryz.ntmps30
  go_upto_block 0 with (go_at_call 31; refine (HCH.out _ (HB.out _ _)).mono ?_; rintro e w1 ⟨q', c', rfl, ht1, hf1, hb1⟩; have HT1 := Lib.hid ht1; have HF1 := Lib.hid hf1; have HX1 := Lib.hid ((Bk.new1 w _ _ _).on hb1); have HZ1 := Lib.hid ((Bk.new2 w _ _ _).on hb1); have HB1 := Lib.hid ((HB.out _ _).trans (hb1.mono (HB.out _ _).size)); have hs1 := hb1.size; clear ht1 hf1 hb1)
  have hs2 : w.heap.size + 2 ≤ w1.heap.size := by simpa using hs1
  clear hs1
  have HCB := Lib.hid (Bk.new w1 31 #[.int .u8 kd, .string v, .string s, .int .i64 n, .string p, .slice q' xs.length c', .slice none 0 0])
  have HWB := Lib.hid (below1 w1 (.cells #[.int .u8 kd, .string v, .string s, .int .i64 n, .string p, .slice q' xs.length c', .slice none 0 0] 31))
  have HWW := Lib.hid ((HB1.out).trans (HWB.out.mono HB1.out.size))
  have HXB := Lib.hid (HX1.out.below HWB.out (by omega))
  have HZB := Lib.hid (HZ1.out.below HWB.out (by omega))
  have HTB := Lib.hid (HT1.out.below HWB.out (Nat.le_refl _))
  have HF1' := Lib.hid (show ∀ b, q' = some b → w.heap.size + 2 ≤ b.block from fun b hb => by have := HF1.out b hb; simpa using this)
  clear HB HX1 HZ1 HB1 HT1 HWB HF1 HCH
  generalize w1.alloc (.cells #[.int .u8 kd, .string v, .string s, .int .i64 n, .string p, .slice q' xs.length c', .slice none 0 0] 31) = wb at *
  have hcw : w1.heap.size < wb.heap.size := HCB.out.lt
  have HJ0 := Lib.hid (show CJ wb wb.heap.size w1.heap.size (.int .u8 kd) (.string v) (.string s) (.int .i64 n) (.string p) (.slice q' xs.length c') [] wb from ⟨⟨rfl, rfl, rfl⟩, fun g _ _ => rfl, ⟨.slice none 0 0, HCB.out, World.ownsRow_nil _ _ _ _, fun x hx => absurd hx (by simp)⟩, hcw, Nat.le_refl _⟩)
  go_wp2_with fail
  go_loopw [4] (fun i wr => ∃ (j : Nat) (acc : List Lp), j ≤ bs.length ∧ i = .int .i64 j ∧ acc.length = j ∧ Hid (acc.map Lp.q = (bs.take j).map Lp.q) ∧ Hid (CJ wb wb.heap.size w1.heap.size (.int .u8 kd) (.string v) (.string s) (.int .i64 n) (.string p) (.slice q' xs.length c') acc wr)) (fun i _ => bs.length - (intOf i).toNat)
  case atStart => exact ⟨0, [], Nat.zero_le _, rfl, rfl, Lib.hid rfl, HJ0⟩
  case round =>
    obtain ⟨j, acc, hj, rfl, hac, HQ, HJ⟩ := hrel
    obtain ⟨vv, hbk, how, hfar⟩ := HJ.out.own
    obtain ⟨qv, cv, rfl, _, _⟩ := grw_form EL (.inr how) HJ.out.hi
    have HBK := Lib.hid hbk
    have HAC := Lib.hid hac
    have hac1 : acc.length ≤ bs.length := by omega
    clear hbk how hfar hac
    have HXR := Lib.hid (HJ.out.keeps HXB.out (by omega) (by omega))
    have x6 := HXR.out.cell 6 _ rfl
    have hbw : Below w.heap.size w wr := HJ.out.belowAt HWW.out (by omega)
    have hwi := HJ.out.hi
    by_cases hlt : j < bs.length
    · have HTA := Lib.hid ((HEE.out _ (List.getElem_mem hlt)).grow hbw)
      have HCL := Lib.hid (CJ.lit HJ.out HBK.out bs[j] HTA.out (HSZ.out _ (List.getElem_mem hlt)))
      obtain ⟨b, o, rfl, hbb, e0, e1, e2, e3, e4, e5⟩ := rdL_at (HEB.out.below hbw (Nat.le_refl _)) j hlt
      have HNQ := Lib.hid (show ∀ q c, (acc ++ [(bs[j].q).at q c]).map Lp.q = (bs.take (j + 1)).map Lp.q from fun q c => by rw [List.map_append, HQ.out, List.take_succ_eq_append_getElem hlt, List.map_append]; rfl)
      have hj0 : (0 : Int) ≤ (j : Int) := by omega
      have hj1 : (j : Int) < (bs.length : Int) := by omega
      have y6 := HBK.out.cell 6 _ rfl
      have HB0 := Lib.hid (Below.refl wr.heap.size wr)
      have HB1 := Lib.hid (Below.drew (Below.refl wr.heap.size wr))
      have HL1 := Lib.hid (show acc.length + 1 ≤ maxLen by have := HAC.out; unfold maxLen; omega)
      have HL2 := Lib.hid (show (acc.length + 1) * 88 ≤ 140737488355328 by have := HAC.out; omega)
      clear HTA hbw HXR HQ
      generalize bs[j] = la at *
      go_wp2_with fail
      go_region_law (first
        | (refine step_append_lies _ rfl (.tmp 17) (.tmp 24) 29 rfl wb.heap.size 28 i0 _ 6 88 underLs hi hz0 hz1 hzb rfl (by omega) (.slice qv acc.length cv) acc.length (flatE encL acc) (by rfl) (own_below hox.out (below1 _ _)) ⟨wn.heap.size, 0, none⟩ 1 1 (encL (la.q.at q2 c2)) (by rfl) (by rfl) (news_alloc _ _ _) (EL.one _) (by omega) HL1.out HL2.out (Nat.le_trans hai.out.hi (below1 _ _).size) _ rfl ?_; intro g7 cap7 w7 ho hgr hat hlt7; have HLP := Lib.hid (CJ.push (hai.out.on (below1 _ _)) (hbx.out.on (below1 _ _)) (fun x hx => (hfx.out x hx).keep (below1 wn _).size fun b _ hlt hne => ⟨(below1 wn _).block b hlt, hne⟩) (own_below hox.out (below1 _ _)) (hll.out.keep (below1 wn _).size fun b _ hlt hne => ⟨(below1 wn _).block b hlt, hne⟩) ho hgr hat); have c7 := HLP.out.2.1; have f7 := HLP.out.2.2)
        | (go_simp; go_at_call 31; refine (HCL.out _ (by first | exact HB1.out | exact HB0.out)).mono ?_; rintro e wn ⟨q2, c2, rfl, hll, hbx, hox, hfx, hai⟩; have y0 := hbx.out.cell 6 _ rfl; have y1 : ∀ o, (wn.alloc o).cell? ⟨w1.heap.size, 6, none⟩ = some (.slice qv acc.length cv) := fun o => (hbx.out.on (below1 wn o)).cell 6 _ rfl))
      all_goals go_wp2_with fail
      all_goals go_roundw
      all_goals first
        | (show _ < _; simp [intOf]; omega)
        | exact ⟨j + 1, acc ++ [la.q.at q2 c2], by omega, by go_num, by simp [HAC.out], Lib.hid (HNQ.out _ _), Lib.hid HLP.out.1⟩
        | (simp [intOf]; omega)
    · have HQE := Lib.hid (show acc.map Lp.q = bs.map Lp.q by rw [HQ.out, show j = bs.length by omega, List.take_length])
      have HZR := Lib.hid (HJ.out.keeps HZB.out (by omega) (by omega))
      obtain ⟨z0, z1, z2, z3, z4, z5, z6⟩ := HZR.out.seven
      obtain ⟨t0, t1, t2, t3, t4, t5, t6⟩ := HZR.out.softs
      obtain ⟨htm4, qb, cb, hbk4, hrd4, he4, hf4, hg4⟩ := HJ.out.mem HTB.out
      obtain ⟨y0, y1, y2, y3, y4, y5, y6⟩ := hbk4.seven
      have HM4 := Lib.hid (show ClMem wr (⟨⟨kd, ⟨v, s, n⟩, p, q', c', xs⟩, qb, cb, acc⟩ : Kp) from ⟨htm4, hrd4, he4⟩)
      have HFA := Lib.hid (show ClFar (w.heap.size + 2) (⟨⟨kd, ⟨v, s, n⟩, p, q', c', xs⟩, qb, cb, acc⟩ : Kp) from ⟨HF1'.out, fun b hb => Nat.le_trans (by omega) (hf4 b hb), fun x hx => (hg4 x hx).imp id fun h b hb => Nat.le_trans (by omega) (h b hb)⟩)
      have HBW := Lib.hid hbw
      clear hbk4 hrd4 he4 hf4 hg4 htm4 hbw
      go_wp2_with fail
      obtain ⟨u0, u1, u2, u3, u4, u5, u6⟩ := (load7 HZR.out (.int .u8 kd) (.string v) (.string s) (.int .i64 n) (.string p) (.slice q' xs.length c') (.slice qb acc.length cb)).seven
      refine bodyPost_ret (v := (⟨⟨kd, ⟨v, s, n⟩, p, q', c', xs⟩, qb, cb, acc⟩ : Kp).agg) ?_ rfl ?_
      · simp [results, Tryz.results30, go_sem, u0, u1, u2, u3, u4, u5, u6, Kp.agg]
      · refine ⟨⟨⟨kd, ⟨v, s, n⟩, p, q', c', xs⟩, qb, cb, acc⟩, ?_, rfl, HM4.out.above HFA.out ((Above.refl (w.heap.size + 2) wr).set7 (b := w.heap.size + 1) (by omega) _ _ _ _ _ _ _) (set7 (Nat.le_refl (w.heap.size + 1)) _ _ _ _ _ _ _).size, HFA.out.mono (by omega), HBW.out.trans (set7 (Nat.le_succ _) _ _ _ _ _ _ _)⟩
        show Cq.mk _ _ = Cq.mk _ _
        rw [HQE.out]
        rfl
end Go.Proofs.YtfmkfabbiifolaaGreatDoor

/-
  Contract: the reference's Copy of a request; stores of parts of a request.
-/
set_option linter.unusedVariables false
set_option linter.unusedSimpArgs false
namespace Go.Proofs.YtfmkfabbiifolaaGreatDoor
open Go.RowKit

def kpC (d : Kp) : Array Value := #[.int .u8 d.head.kind, .string d.head.who.v, .string d.head.who.s, .int .i64 d.head.who.n, .string d.head.pred, .slice d.head.ptr d.head.args.length d.head.cap, .slice d.ptr d.body.length d.cap]
def lpC (l : Lp) : Array Value := #[.int .u8 l.kind, .string l.who.v, .string l.who.s, .int .i64 l.who.n, .string l.pred, .slice l.ptr l.args.length l.cap]
theorem kpC_one (d : Kp) : ∀ v ∈ (kpC d).toList, v.oneCell' = true := by simp [kpC, Value.oneCell']
theorem lpC_one (d : Lp) : ∀ v ∈ (lpC d).toList, v.oneCell' = true := by simp [lpC, Value.oneCell']
theorem bk_setCells {b : Nat} {T : TypeId} : ∀ (vs : List Value) (o : Nat) (w : World) (cs : Array Value), Bk w b T cs → o + vs.length ≤ cs.size → Bk (w.setCells b o vs) b T (cs.toList.take o ++ vs ++ cs.toList.drop (o + vs.length)).toArray
  | [], o, w, cs, h, _ => by
    rw [World.setCells]
    have e : (cs.toList.take o ++ [] ++ cs.toList.drop (o + ([] : List Value).length)).toArray = cs := by simp
    rw [e]; exact h
  | v :: r, o, w, cs, h, hl => by
    have ho : o < cs.toList.length := by simp at hl ⊢; omega
    have h1 := bk_setCells r (o + 1) (w.setCell ⟨b, o, none⟩ v) (cs.setIfInBounds o v) (h.set o v) (by simp at hl ⊢; omega)
    rw [World.setCells]
    have e : ((cs.setIfInBounds o v).toList.take (o + 1) ++ r ++ (cs.setIfInBounds o v).toList.drop (o + 1 + r.length)) = cs.toList.take o ++ (v :: r) ++ cs.toList.drop (o + (v :: r).length) := by
      rw [Array.toList_setIfInBounds, List.take_succ_eq_append_getElem (by simpa using ho), List.take_set_of_le (Nat.le_refl o), List.drop_set_of_lt (by omega)]
      simp [show o + 1 + r.length = o + (r.length + 1) by omega]
    rw [e] at h1
    exact h1
/-- what a store into one box does -/
structure Put1 (b : Nat) (w w' : World) : Prop where
  below : ∀ B, B ≤ b → Below B w w'
  other : ∀ k, k ≠ b → w'.heap[k]? = w.heap[k]?
theorem Put1.above {b G : Nat} {w w' : World} (h : Put1 b w w') (hb : b < G) : Above G w w' := fun g hg => h.other g (by omega)
theorem Put1.bk {b b' : Nat} {w w' : World} (h : Put1 b w w') {T : TypeId} {cs : Array Value} (hb : Bk w b' T cs) (hn : b' ≠ b) : Bk w' b' T cs := (h.other b' hn).trans hb
theorem store_part {b : Nat} {T : TypeId} {cs : Array Value} {w : World} (h : Bk w b T cs) (o : Nat) (vs : List Value) (hl : o + vs.length ≤ cs.size) (h1 : ∀ v ∈ vs, v.oneCell' = true) :
    ∃ w', (storeCells ⟨b, o, none⟩ vs).run Tryz.prog w = .ok () w' ∧ Bk w' b T (cs.toList.take o ++ vs ++ cs.toList.drop (o + vs.length)).toArray ∧ Put1 b w w' := by
  have ht := h.there
  refine ⟨w.setCells b o vs, ?_, bk_setCells vs o w cs h hl, fun B hB => below_setCells vs b o w hB, fun k hk => setCells_heap vs b o k w hk⟩
  exact run_storeCells_cells (P := Tryz.prog) b o vs 0 w (fun j hj => by have := (ht (o + j) (by omega)).1; rwa [Nat.zero_add] at this) (fun j hj => by have := (ht (o + j) (by omega)).2; rwa [Nat.zero_add] at this) h1
theorem store_clause {b : Nat} {T : TypeId} {w : World} {kd : Int} {lb : ByteArray} {lf : Int} {k : Kp} {no : Int} {l : Lp} (h : Bk w b T (rqC kd lb lf k no l)) (d : Kp) :
    ∃ w', (storeCells ⟨b, 3, none⟩ (kpC d).toList).run Tryz.prog w = .ok () w' ∧ Bk w' b T (rqC kd lb lf d no l) ∧ Put1 b w w' := store_part h 3 (kpC d).toList (by simp [rqC, kpC]) (kpC_one d)
theorem store_lit {b : Nat} {T : TypeId} {w : World} {kd : Int} {lb : ByteArray} {lf : Int} {k : Kp} {no : Int} {l : Lp} (h : Bk w b T (rqC kd lb lf k no l)) (d : Lp) :
    ∃ w', (storeCells ⟨b, 11, none⟩ (lpC d).toList).run Tryz.prog w = .ok () w' ∧ Bk w' b T (rqC kd lb lf k no d) ∧ Put1 b w w' := store_part h 11 (lpC d).toList (by simp [rqC, lpC]) (lpC_one d)
theorem store_req {b : Nat} {T : TypeId} {w : World} {kd : Int} {lb : ByteArray} {lf : Int} {k : Kp} {no : Int} {l : Lp} (h : Bk w b T (rqC kd lb lf k no l)) (kd' : Int) (lb' : ByteArray) (lf' : Int) (k' : Kp) (no' : Int) (l' : Lp) :
    ∃ w', (storeCells ⟨b, 0, none⟩ (rqC kd' lb' lf' k' no' l').toList).run Tryz.prog w = .ok () w' ∧ Bk w' b T (rqC kd' lb' lf' k' no' l') ∧ Put1 b w w' := store_part h 0 (rqC kd' lb' lf' k' no' l').toList (by simp [rqC]) (fun v hv => (Array.all_eq_true_iff_forall_mem.1 (rqC_one kd' lb' lf' k' no' l')) v (by simpa using hv))
theorem results_one {fn : Func} {p : Tmp} (h : fn.results = #[.cell p 33]) (tmps : Array Value) (w : World) (b : Nat) (kd : Int) (lb : ByteArray) (lf : Int) (cl : Kp) (no : Int) (lp : Lp) {T : TypeId} (hp : tmps.getD p undef = .pointer (some ⟨b, 0, none⟩)) (hb : Bk w b T (rqC kd lb lf cl no lp)) :
    (results fn tmps).run Tryz.prog w = .ok (.agg (rqC kd lb lf cl no lp)) w := by
  obtain ⟨d, hu, hd⟩ := rowReq
  have hl := run_loadVar_mid (P := Tryz.prog) w b 0 33 (rqC kd lb lf cl no lp).toList d hb.range hu hd (by rw [sizeReq]; rfl)
  simp only [Array.toArray_toList] at hl
  rw [Array.getD_eq_getD_getElem?] at hp
  simp [results, h, hp, asAddr, hl, Result.andThen]
theorem copy_argQ (k : Kp) (w : World) (h : k.Arg w) : Calls Tryz.prog 30 #[k.agg] w fun e w' => ∃ d : Kp, Hid ((ClMem w' d ∧ ClFar w.heap.size d) ∧ d.q = k.q) ∧ e = .returned (.agg (kpC d)) ∧ Below w.heap.size w w' :=
  (copy_any k w h.mem (kp_size h).1 (kp_size h).2.1 (kp_size h).2.2).mono fun e w' ⟨d, h1, h2, h3, h4, h5⟩ => ⟨d, Lib.hid ⟨⟨h3, h4⟩, h1⟩, h2, h5⟩
theorem copyLit_argQ (l : Lp) (w : World) (h : l.Arg w) : Calls Tryz.prog 31 #[l.agg] w fun e w' => ∃ d : Lp, Hid ((Tms w' w'.heap.size d.ptr d.args ∧ ∀ b, d.ptr = some b → w.heap.size ≤ b.block) ∧ d.q = l.q) ∧ e = .returned (.agg (lpC d)) ∧ Below w.heap.size w w' :=
  (copyLit_any l w h.isin.args (Nat.le_trans h.sz (by decide))).mono fun e w' ⟨q, c, h1, h2, h3, h4⟩ => ⟨l.q.at q c, Lib.hid ⟨⟨h2, h3⟩, rfl⟩, h1, h4⟩

set_option maxHeartbeats 16000000 in
set_option maxRecDepth 100000 in
theorem copyreq_any (kd : Int) (lb : ByteArray) (lf : Int) (k : Kp) (no : Int) (l : Lp) (w : World) (ha : RqArg kd lb lf k no l w) :
    Calls Tryz.prog 12 #[.agg (rqC kd lb lf k no l)] w fun e w' => ∃ d l', e = .returned (.agg (rqC kd lb lf d no l')) ∧ (d.q = k.q ∧ l'.q = l.q) ∧ RqArg kd lb lf d no l' w' ∧ Below w.heap.size w w' := by
  have HA := Lib.hid ha
  have HCP := Lib.hid (show ∀ wx, k.Arg wx → _ from fun wx hx => copy_argQ k wx hx)
  have HCL := Lib.hid (show ∀ wx, l.Arg wx → _ from fun wx hx => copyLit_argQ l wx hx)
  unfold Kp.agg at HCP
  unfold Lp.agg at HCL
  obtain ⟨dd, hu, hd⟩ := rowReq
  have hz := sizeReq
  clear ha
  go_enter Tryz.func12, Tryz.ntmps12
  go_upto_region 1 with fail
  have HX := Lib.hid ((Bk.new w 33 (rqC kd lb lf k no l)).on (below1 _ (.cells (rqC 0 ⟨#[]⟩ 0 kpZ 0 lpZ) 33)))
  have HY := Lib.hid (show Bk ((w.alloc (.cells (rqC kd lb lf k no l) 33)).alloc (.cells (rqC 0 ⟨#[]⟩ 0 kpZ 0 lpZ) 33)) (w.heap.size + 1) 33 (rqC 0 ⟨#[]⟩ 0 kpZ 0 lpZ) from (by simpa using Bk.new (w.alloc (.cells (rqC kd lb lf k no l) 33)) 33 (rqC 0 ⟨#[]⟩ 0 kpZ 0 lpZ)))
  have HW := Lib.hid (below2 w (.cells (rqC kd lb lf k no l) 33) (.cells (rqC 0 ⟨#[]⟩ 0 kpZ 0 lpZ) 33))
  have hs2 : w.heap.size + 2 ≤ ((w.alloc (.cells (rqC kd lb lf k no l) 33)).alloc (.cells (rqC 0 ⟨#[]⟩ 0 kpZ 0 lpZ) 33)).heap.size := by simp
  show Code.wp _ _ _ _ ((w.alloc (.cells (rqC kd lb lf k no l) 33)).alloc (.cells (rqC 0 ⟨#[]⟩ 0 kpZ 0 lpZ) 33))
  generalize (w.alloc (.cells (rqC kd lb lf k no l) 33)).alloc (.cells (rqC 0 ⟨#[]⟩ 0 kpZ 0 lpZ) 33) = W2 at *
  obtain ⟨m0, m1, m2, m3, m4, m5, m6, m7, m8, m9, m10, m11, m12, m13, m14, m15, m16⟩ := (show Bk W2 w.heap.size 33 #[.int .u8 kd, .string lb, .int .i64 lf, .int .u8 k.head.kind, .string k.head.who.v, .string k.head.who.s, .int .i64 k.head.who.n, .string k.head.pred, .slice k.head.ptr k.head.args.length k.head.cap, .slice k.ptr k.body.length k.cap, .int .i64 no, .int .u8 l.kind, .string l.who.v, .string l.who.s, .int .i64 l.who.n, .string l.pred, .slice l.ptr l.args.length l.cap] from HX.out).cells17
  go_wp2_with (first
    | (go_at_call 31; refine (HCL.out _ (HA4.out.lp)).mono ?_; rintro e w5 ⟨l', HL5, rfl, hb5⟩; obtain ⟨w6, hst6, HX6, HP6⟩ := store_lit (HX4.out.on hb5) l'; have HB5 := Lib.hid (HB4.out.trans (hb5.mono HB4.out.size)); have HB6 := Lib.hid (HB5.out.trans (HP6.below _ (Nat.le_refl _))); have HY6 := Lib.hid (HP6.bk (HY4.out.on hb5) (by omega)); obtain ⟨w7, hst7, HY7, HP7⟩ := store_req HY6.out kd lb lf d no l'; have HB7 := Lib.hid (HB6.out.trans (HP7.below _ (by omega))); have HX6 := Lib.hid HX6; have HY7 := Lib.hid HY7; have hsz5 := hb5.size; have HM7 := Lib.hid (((HM4.out.on hb5).above HD3.out.1.2 (HP6.above (by omega)) (HP6.below 0 (Nat.zero_le _)).size).above HD3.out.1.2 (HP7.above (by omega)) (HP7.below 0 (Nat.zero_le _)).size); have HT7 := Lib.hid ((HP7.above (G := W2.heap.size) (by omega)).rd ((HP6.above (G := W2.heap.size) (by omega)).rd HL5.out.1.1 (fun b hb => Nat.le_trans hs4 (HL5.out.1.2 b hb)) (HP6.below 0 (Nat.zero_le _)).size) (fun b hb => Nat.le_trans hs4 (HL5.out.1.2 b hb)) (HP7.below 0 (Nat.zero_le _)).size); clear hb5 HP6 HP7)
    | (go_at_call 30; refine (HCP.out _ (HA.out.on HW.out).cl).mono ?_; rintro e w3 ⟨d, HD3, rfl, hb3⟩; obtain ⟨w4, hst4, HX4, HP4⟩ := store_clause (HX.out.on hb3) d; have HB3 := Lib.hid (HW.out.trans (hb3.mono HW.out.size)); have HB4 := Lib.hid (HB3.out.trans (HP4.below _ (Nat.le_refl _))); have HM4 := Lib.hid (HD3.out.1.1.above HD3.out.1.2 (HP4.above (by omega)) (HP4.below 0 (Nat.zero_le _)).size); have hs4 := Nat.le_trans hb3.size (HP4.below 0 (Nat.zero_le _)).size; have HA4 := Lib.hid (HA.out.on HB4.out); have HY4 := Lib.hid (HP4.bk (HY.out.on hb3) (by omega)); obtain ⟨n0, n1, n2, n3, n4, n5, n6, n7, n8, n9, n10, n11, n12, n13, n14, n15, n16⟩ := (show Bk w4 w.heap.size 33 #[.int .u8 kd, .string lb, .int .i64 lf, .int .u8 d.head.kind, .string d.head.who.v, .string d.head.who.s, .int .i64 d.head.who.n, .string d.head.pred, .slice d.head.ptr d.head.args.length d.head.cap, .slice d.ptr d.body.length d.cap, .int .i64 no, .int .u8 l.kind, .string l.who.v, .string l.who.s, .int .i64 l.who.n, .string l.pred, .slice l.ptr l.args.length l.cap] from HX4).cells17; have HX4 := Lib.hid HX4; have HP4 := Lib.hid HP4; clear hb3)
    | (refine wpL_load (by rfl) 33 (.tmp 1) rfl _ 0 rfl (rqC kd lb lf d no l').toList dd HX6.out.range hu hd (by rw [hz]; rfl) ?_; simp only [Array.toArray_toList]))
  refine bodyPost_ret (results_one rfl _ _ (w.heap.size + 1) kd lb lf d no l' rfl HY7.out) rfl ?_
  exact ⟨d, l', rfl, ⟨HD3.out.2, HL5.out.2⟩, ⟨HA.out.kd, HA.out.lb, HA.out.lf, HA.out.no, kp_arg HA.out.cl HD3.out.2 HM7.out, lit_arg HA.out.lp HL5.out.2 HT7.out⟩, HB7.out⟩
end Go.Proofs.YtfmkfabbiifolaaGreatDoor

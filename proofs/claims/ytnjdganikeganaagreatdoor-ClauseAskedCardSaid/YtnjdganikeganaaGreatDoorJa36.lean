/-
  Joined of: CpyE, FacW, VrB.
-/
import Derived.Test.YtnjdganikeganaaGreatDoorJa35
import Derived.Test.YtnjdganikeganaaGreatDoorJa32
import Derived.Deep.RegionLaw
import Derived.Deep.CutBlock
import Derived.Deep.DeepCutAuto
import Derived.Test.YtnjdganikeganaaGreatDoorJa22
import Derived.Test.YtnjdganikeganaaGreatDoorJa08
set_option linter.unusedVariables false
set_option linter.unusedSimpArgs false
/-
  Contract: the reference's Copy.
-/
namespace Go.Proofs.YtnjdganikeganaaGreatDoor
open Go.RowKit

section
variable {w1 : World} {B cb : Nat} {a0 a1 a2 a3 a4 a5 : Value} {acc : List Lp} {w : World}
theorem CJ.lit (h : CJ w1 B cb a0 a1 a2 a3 a4 a5 acc w) {v : Value} (hv : Bk w cb 31 #[a0, a1, a2, a3, a4, a5, v]) (la : Lp) (hm : Tms w w.heap.size la.ptr la.args) (hsz : la.args.length * 40 ≤ 140737488355328) :
    ∀ X, Below w.heap.size w X → Calls Tryz.prog 22 #[.agg #[.int .u8 la.kind, .string la.who.v, .string la.who.s, .int .i64 la.who.n, .string la.pred, .slice la.ptr la.args.length la.cap]] X fun e w' =>
      ∃ q' c', e = .returned (.agg #[.int .u8 la.kind, .string la.who.v, .string la.who.s, .int .i64 la.who.n, .string la.pred, .slice q' la.args.length c']) ∧ Hid (Far w' B v.ownBlock (la.q.at q' c')) ∧ Hid (Bk w' cb 31 #[a0, a1, a2, a3, a4, a5, v]) ∧ Hid (w'.ownsRow B 28 6 v acc.length (flatE encL acc)) ∧ Hid (∀ x ∈ acc, Far w' B v.ownBlock x) ∧ Hid (CJ w1 B cb a0 a1 a2 a3 a4 a5 acc w') := by
  intro X hX
  have hx := h.on hX
  refine (copyLit_any la X (hm.grow hX) hsz).mono fun e w' ⟨q', c', he, ht, hf, hb⟩ => ?_
  have hj := hx.on hb
  have hb2 := (hv.on hX).on hb
  obtain ⟨ho2, hf2⟩ := hj.value hb2
  obtain ⟨ho1, _⟩ := h.value hv
  refine ⟨q', c', he, Lib.hid (Far.of ht fun b hb => ⟨?_, ?_⟩), Lib.hid hb2, Lib.hid ho2, Lib.hid hf2, Lib.hid hj⟩
  · have := hf b hb
    have := hX.size
    have := h.hi
    show B ≤ b.block
    omega
  · intro e
    have h8 := (ho1.lt b.block e).2
    have := hf b hb
    have := hX.size
    omega
end

set_option maxHeartbeats 16000000 in
set_option maxRecDepth 100000 in
theorem copy_any (k : Kp) (w : World) (h : ClMem w k) (hh : k.head.args.length * 40 ≤ 140737488355328) (hb : k.body.length * 88 ≤ 140737488355328) (he : ∀ l ∈ k.body, l.args.length * 40 ≤ 140737488355328) :
    Calls Tryz.prog 19 #[k.agg] w fun e w' => ∃ d : Kp, d.q = k.q ∧ e = .returned d.agg ∧ ClMem w' d ∧ ClFar w.heap.size d ∧ Below w.heap.size w w' := by
  obtain ⟨i0, hi, hz0, hz1, hzb⟩ := info_parts infoLit
  have HB := Lib.hid (below2 w)
  have HCH := Lib.hid (show ∀ X, Below w.heap.size w X → Calls Tryz.prog 22 #[.agg #[.int .u8 k.head.kind, .string k.head.who.v, .string k.head.who.s, .int .i64 k.head.who.n, .string k.head.pred, .slice k.head.ptr k.head.args.length k.head.cap]] X fun e w' => ∃ q' c', e = .returned (.agg #[.int .u8 k.head.kind, .string k.head.who.v, .string k.head.who.s, .int .i64 k.head.who.n, .string k.head.pred, .slice q' k.head.args.length c']) ∧ Tms w' w'.heap.size q' k.head.args ∧ (∀ b, q' = some b → X.heap.size ≤ b.block) ∧ Below X.heap.size X w' from fun X hX => copyLit_any k.head X (h.head.grow hX) hh)
  obtain ⟨⟨kd, ⟨v, s, n⟩, p, q, c, xs⟩, bp, bc, bs⟩ := k
  unfold Kp.agg
  simp only at HCH hb he ⊢
  have HEB := Lib.hid h.body
  have HEE := Lib.hid h.each
  have HSZ := Lib.hid he
  clear h hh he
  go_enter Tryz.func19, Tryz.ntmps19
  go_upto_block 0 with (go_at_call 22; refine (HCH.out _ (HB.out _ _)).mono ?_; rintro e w1 ⟨q', c', rfl, ht1, hf1, hb1⟩; have HT1 := Lib.hid ht1; have HF1 := Lib.hid hf1; have HX1 := Lib.hid ((Bk.new1 w _ _ _).on hb1); have HZ1 := Lib.hid ((Bk.new2 w _ _ _).on hb1); have HB1 := Lib.hid ((HB.out _ _).trans (hb1.mono (HB.out _ _).size)); have hs1 := hb1.size; clear ht1 hf1 hb1)
  have hs2 : w.heap.size + 2 ≤ w1.heap.size := by simpa using hs1
  clear hs1
  have HCB := Lib.hid (Bk.new w1 31 #[.int .u8 kd, .string v, .string s, .int .i64 n, .string p, .slice q' xs.length c', .slice none 0 0])
  have HWB := Lib.hid (below1 w1 (.cells #[.int .u8 kd, .string v, .string s, .int .i64 n, .string p, .slice q' xs.length c', .slice none 0 0] 31))
  have HWW := Lib.hid ((HB1.out).trans (HWB.out.mono HB1.out.size))
  have HXB := Lib.hid (HX1.out.below HWB.out (by omega))
  have HZB := Lib.hid (HZ1.out.below HWB.out (by omega))
  have HTB := Lib.hid (HT1.out.below HWB.out (Nat.le_refl _))
  have HF1' := Lib.hid (show ∀ b, q' = some b → w.heap.size + 2 ≤ b.block from fun b hb => by have := HF1.out b hb; simpa using this)
  clear HB HX1 HZ1 HB1 HT1 HWB HF1 HCH
  generalize w1.alloc (.cells #[.int .u8 kd, .string v, .string s, .int .i64 n, .string p, .slice q' xs.length c', .slice none 0 0] 31) = wb at *
  have hcw : w1.heap.size < wb.heap.size := HCB.out.lt
  have HJ0 := Lib.hid (show CJ wb wb.heap.size w1.heap.size (.int .u8 kd) (.string v) (.string s) (.int .i64 n) (.string p) (.slice q' xs.length c') [] wb from ⟨⟨rfl, rfl, rfl⟩, fun g _ _ => rfl, ⟨.slice none 0 0, HCB.out, World.ownsRow_nil _ _ _ _, fun x hx => absurd hx (by simp)⟩, hcw, Nat.le_refl _⟩)
  go_wp2_with fail
  go_loopw [4] (fun i wr => ∃ (j : Nat) (acc : List Lp), j ≤ bs.length ∧ i = .int .i64 j ∧ acc.length = j ∧ Hid (acc.map Lp.q = (bs.take j).map Lp.q) ∧ Hid (CJ wb wb.heap.size w1.heap.size (.int .u8 kd) (.string v) (.string s) (.int .i64 n) (.string p) (.slice q' xs.length c') acc wr)) (fun i _ => bs.length - (intOf i).toNat)
  case atStart => exact ⟨0, [], Nat.zero_le _, rfl, rfl, Lib.hid rfl, HJ0⟩
  case round =>
    obtain ⟨j, acc, hj, rfl, hac, HQ, HJ⟩ := hrel
    obtain ⟨vv, hbk, how, hfar⟩ := HJ.out.own
    obtain ⟨qv, cv, rfl, _, _⟩ := grw_form EL (.inr how) HJ.out.hi
    have HBK := Lib.hid hbk
    have HAC := Lib.hid hac
    have hac1 : acc.length ≤ bs.length := by omega
    clear hbk how hfar hac
    have HXR := Lib.hid (HJ.out.keeps HXB.out (by omega) (by omega))
    have x6 := HXR.out.cell 6 _ rfl
    have hbw : Below w.heap.size w wr := HJ.out.belowAt HWW.out (by omega)
    have hwi := HJ.out.hi
    by_cases hlt : j < bs.length
    · have HTA := Lib.hid ((HEE.out _ (List.getElem_mem hlt)).grow hbw)
      have HCL := Lib.hid (CJ.lit HJ.out HBK.out bs[j] HTA.out (HSZ.out _ (List.getElem_mem hlt)))
      obtain ⟨b, o, rfl, hbb, e0, e1, e2, e3, e4, e5⟩ := rdL_at (HEB.out.below hbw (Nat.le_refl _)) j hlt
      have HNQ := Lib.hid (show ∀ q c, (acc ++ [(bs[j].q).at q c]).map Lp.q = (bs.take (j + 1)).map Lp.q from fun q c => by rw [List.map_append, HQ.out, List.take_succ_eq_append_getElem hlt, List.map_append]; rfl)
      have hj0 : (0 : Int) ≤ (j : Int) := by omega
      have hj1 : (j : Int) < (bs.length : Int) := by omega
      have y6 := HBK.out.cell 6 _ rfl
      have HB0 := Lib.hid (Below.refl wr.heap.size wr)
      have HB1 := Lib.hid (Below.drew (Below.refl wr.heap.size wr))
      have HL1 := Lib.hid (show acc.length + 1 ≤ maxLen by have := HAC.out; unfold maxLen; omega)
      have HL2 := Lib.hid (show (acc.length + 1) * 88 ≤ 140737488355328 by have := HAC.out; omega)
      clear HTA hbw HXR HQ
      generalize bs[j] = la at *
      go_wp2_with fail
      go_region_law (first
        | (go_loud (refine step_append_lies _ rfl (.tmp 17) (.tmp 24) 29 rfl wb.heap.size 28 i0 _ 6 88 underLs hi hz0 hz1 hzb rfl (by omega) (.slice qv acc.length cv) acc.length (flatE encL acc) (by rfl) (own_below hox.out (below1 _ _)) ⟨wn.heap.size, 0, none⟩ 1 1 (encL (la.q.at q2 c2)) (by rfl) (by rfl) (news_alloc _ _ _) (EL.one _) (by omega) HL1.out HL2.out (Nat.le_trans hai.out.hi (below1 _ _).size) _ rfl ?_; intro g7 cap7 w7 ho hgr hat hlt7; have HLP := Lib.hid (CJ.push (hai.out.on (below1 _ _)) (hbx.out.on (below1 _ _)) (fun x hx => (hfx.out x hx).keep (below1 wn _).size fun b _ hlt hne => ⟨(below1 wn _).block b hlt, hne⟩) (own_below hox.out (below1 _ _)) (hll.out.keep (below1 wn _).size fun b _ hlt hne => ⟨(below1 wn _).block b hlt, hne⟩) ho hgr hat); have c7 := HLP.out.2.1; have f7 := HLP.out.2.2))
        | (go_simp; go_at_call 22; refine (HCL.out _ (by first | exact HB1.out | exact HB0.out)).mono ?_; rintro e wn ⟨q2, c2, rfl, hll, hbx, hox, hfx, hai⟩; have y0 := hbx.out.cell 6 _ rfl; have y1 : ∀ o, (wn.alloc o).cell? ⟨w1.heap.size, 6, none⟩ = some (.slice qv acc.length cv) := fun o => (hbx.out.on (below1 wn o)).cell 6 _ rfl))
      all_goals go_wp2_with fail
      all_goals go_roundw
      all_goals first
        | (show _ < _; simp [intOf]; omega)
        | exact ⟨j + 1, acc ++ [la.q.at q2 c2], by omega, by go_num, by simp [HAC.out], Lib.hid (HNQ.out _ _), Lib.hid HLP.out.1⟩
        | (simp [intOf]; omega)
    · have HQE := Lib.hid (show acc.map Lp.q = bs.map Lp.q by rw [HQ.out, show j = bs.length by omega, List.take_length])
      have HZR := Lib.hid (HJ.out.keeps HZB.out (by omega) (by omega))
      obtain ⟨z0, z1, z2, z3, z4, z5, z6⟩ := HZR.out.seven
      obtain ⟨t0, t1, t2, t3, t4, t5, t6⟩ := HZR.out.softs
      obtain ⟨htm4, qb, cb, hbk4, hrd4, he4, hf4, hg4⟩ := HJ.out.mem HTB.out
      obtain ⟨y0, y1, y2, y3, y4, y5, y6⟩ := hbk4.seven
      have HM4 := Lib.hid (show ClMem wr (⟨⟨kd, ⟨v, s, n⟩, p, q', c', xs⟩, qb, cb, acc⟩ : Kp) from ⟨htm4, hrd4, he4⟩)
      have HFA := Lib.hid (show ClFar (w.heap.size + 2) (⟨⟨kd, ⟨v, s, n⟩, p, q', c', xs⟩, qb, cb, acc⟩ : Kp) from ⟨HF1'.out, fun b hb => Nat.le_trans (by omega) (hf4 b hb), fun x hx => (hg4 x hx).imp id fun h b hb => Nat.le_trans (by omega) (h b hb)⟩)
      have HBW := Lib.hid hbw
      clear hbk4 hrd4 he4 hf4 hg4 htm4 hbw
      go_wp2_with fail
      obtain ⟨u0, u1, u2, u3, u4, u5, u6⟩ := (load7 HZR.out (.int .u8 kd) (.string v) (.string s) (.int .i64 n) (.string p) (.slice q' xs.length c') (.slice qb acc.length cb)).seven
      refine bodyPost_ret (v := (⟨⟨kd, ⟨v, s, n⟩, p, q', c', xs⟩, qb, cb, acc⟩ : Kp).agg) ?_ rfl ?_
      · simp [results, Tryz.results19, go_sem, u0, u1, u2, u3, u4, u5, u6, Kp.agg]
      · refine ⟨⟨⟨kd, ⟨v, s, n⟩, p, q', c', xs⟩, qb, cb, acc⟩, ?_, rfl, HM4.out.above HFA.out ((Above.refl (w.heap.size + 2) wr).set7 (b := w.heap.size + 1) (by omega) _ _ _ _ _ _ _) (set7 (Nat.le_refl (w.heap.size + 1)) _ _ _ _ _ _ _).size, HFA.out.mono (by omega), HBW.out.trans (set7 (Nat.le_succ _) _ _ _ _ _ _ _)⟩
        show Cq.mk _ _ = Cq.mk _ _
        rw [HQE.out]
        rfl
end Go.Proofs.YtnjdganikeganaaGreatDoor

/-
  The walk of mandatelaw06.ClauseFacts: it answers true.
-/
namespace Go.Proofs.YtnjdganikeganaaGreatDoor
open Go.RowKit

/-- the clause that came in, boxed, with what it needs -/
structure FS (k : Kp) (w wn : World) : Prop where
  b : Below w.heap.size w wn
  x : Bk wn w.heap.size 31 #[.int .u8 k.head.kind, .string k.head.who.v, .string k.head.who.s, .int .i64 k.head.who.n, .string k.head.pred, .slice k.head.ptr k.head.args.length k.head.cap, .slice k.ptr k.body.length k.cap]
  a : k.Arg wn
  e : Env wn
theorem FS.on {k : Kp} {w wn w' : World} (h : FS k w wn) (hb : Below wn.heap.size wn w') : FS k w w' := ⟨h.b.trans (hb.mono h.b.size), h.x.on hb, h.a.on hb, h.e.on hb⟩
theorem FS.start (k : Kp) (w : World) (ha : k.Arg w) (he : Env w) : FS k w (w.alloc (.cells #[.int .u8 k.head.kind, .string k.head.who.v, .string k.head.who.s, .int .i64 k.head.who.n, .string k.head.pred, .slice k.head.ptr k.head.args.length k.head.cap, .slice k.ptr k.body.length k.cap] 31)) :=
  ⟨below1 w _, Bk.new w _ _, ha.on (below1 w _), he.on (below1 w _)⟩
theorem copy_arg (k : Kp) (w : World) (h : k.Arg w) : Calls Tryz.prog 19 #[k.agg] w fun e w' => ∃ d : Kp, Hid (d.Arg w' ∧ d.q = k.q) ∧ e = .returned d.agg ∧ Below w.heap.size w w' := by
  obtain ⟨h1, h2, h3⟩ := kp_size h
  exact (copy_any k w h.mem h1 h2 h3).mono fun e w' ⟨d, hq, he, hm, _, hb⟩ => ⟨d, Lib.hid ⟨kp_arg h hq hm, hq⟩, he, hb⟩
theorem check_arg (k d : Kp) (w : World) (h : d.Arg w ∧ d.q = k.q) (he : Env w) : Calls Tryz.prog 24 #[d.agg] w fun e w' => e = .returned (.bool k.check) ∧ Below w.heap.size w w' :=
  (check_any d w h.1.kin he).mono fun e w' ⟨h1, h2⟩ => ⟨by rw [h1, check_eq h.2], h2⟩
theorem fact_arg (k d : Kp) (w : World) (h : d.Arg w ∧ d.q = k.q) (he : Env w) : Calls Tryz.prog 28 #[d.agg] w fun e w' => e = .returned (.bool k.fact) ∧ Below w.heap.size w w' :=
  (fact_any d w h.1.kin he).mono fun e w' ⟨h1, h2⟩ => ⟨by rw [h1, fact_eq h.2], h2⟩
theorem vars_arg (k d : Kp) (w : World) (h : d.Arg w ∧ d.q = k.q) (he : Env w) : Calls Tryz.prog 26 #[d.agg] w fun e w' => ∃ q c, e = .returned (.slice q k.vars.length c) ∧ Rd encS 1 w' w'.heap.size q k.vars ∧ Below w.heap.size w w' :=
  (vars_any d w h.1.kin he).mono fun e w' ⟨q, c, h1, h2, h3⟩ => ⟨q, c, by rw [h1, vars_eq h.2], vars_eq h.2 ▸ h2, h3⟩

set_option maxHeartbeats 16000000 in
set_option maxRecDepth 100000 in
theorem facts_no (k : Kp) (w : World) (he : Env w) (ha : k.Arg w) (hck : k.check = false) :
    Calls Tryz.prog 10 #[k.agg] w fun e w' => e = .returned (.bool true) ∧ Below w.heap.size w w' := by
  have HS0 := Lib.hid (FS.start k w ha he)
  have HF := Lib.hid (show ∀ wx, Env wx → _ from fun wx hx => fixed_any wx hx)
  have HCP := Lib.hid (show ∀ wx, k.Arg wx → _ from fun wx hx => copy_arg k wx hx)
  have HCK := Lib.hid (show ∀ wx d, d.Arg wx ∧ d.q = k.q → Env wx → _ from fun wx d h1 h2 => check_arg k d wx h1 h2)
  have HFT := Lib.hid (show ∀ wx d, d.Arg wx ∧ d.q = k.q → Env wx → _ from fun wx d h1 h2 => fact_arg k d wx h1 h2)
  have HVS := Lib.hid (show ∀ wx d, d.Arg wx ∧ d.q = k.q → Env wx → _ from fun wx d h1 h2 => vars_arg k d wx h1 h2)
  rw [hck] at HCK
  rw [fact_no k hck] at HFT
  rw [vars_no k hck] at HVS
  unfold Kp.agg at HCP HCK HFT HVS ⊢
  clear ha he hck
  go_enter Tryz.func10, Tryz.ntmps10
  go_wp2_with (first
    | (go_at_call 26; refine (HVS.out _ d6 (Hid.out HD6) HS6.out.e).mono ?_; rintro e w7 ⟨q7, c7, rfl, _, hb7⟩; have HS7 := Lib.hid (HS6.out.on hb7); clear hb7)
    | (go_at_call 19; refine (HCP.out _ HS5.out.a).mono ?_; rintro e w6 ⟨d6, HD6, rfl, hb6⟩; have HS6 := Lib.hid (HS5.out.on hb6); clear hb6)
    | (go_at_call 28; refine (HFT.out _ d4 (Hid.out HD4) HS4.out.e).mono ?_; rintro e w5 ⟨rfl, hb5⟩; have HS5 := Lib.hid (HS4.out.on hb5); obtain ⟨y0, y1, y2, y3, y4, y5, y6⟩ := HS5.out.x.seven; clear hb5)
    | (go_at_call 19; refine (HCP.out _ HS3.out.a).mono ?_; rintro e w4 ⟨d4, HD4, rfl, hb4⟩; have HS4 := Lib.hid (HS3.out.on hb4); clear hb4)
    | (go_at_call 24; refine (HCK.out _ d2 (Hid.out HD2) HS2.out.e).mono ?_; rintro e w3 ⟨rfl, hb3⟩; have HS3 := Lib.hid (HS2.out.on hb3); obtain ⟨z0, z1, z2, z3, z4, z5, z6⟩ := HS3.out.x.seven; clear hb3)
    | (go_at_call 19; refine (HCP.out _ HS1.out.a).mono ?_; rintro e w2 ⟨d2, HD2, rfl, hb2⟩; have HS2 := Lib.hid (HS1.out.on hb2); clear hb2)
    | (go_at_call 13; refine (HF.out _ HS0.out.e).mono ?_; rintro e w1 ⟨rfl, hb1⟩; have HS1 := Lib.hid (HS0.out.on hb1); obtain ⟨x0, x1, x2, x3, x4, x5, x6⟩ := HS1.out.x.seven; clear hb1))
  go_ret
  exact ⟨rfl, HS7.out.b⟩

theorem size_pos {v : ByteArray} : (0 : Int) < (v.size : Int) ↔ v.toList.isEmpty = false := by
  rw [ByteArray.toList_eq]
  have : v.size = v.data.toList.length := rfl
  rw [this]
  cases v.data.toList <;> simp

set_option maxHeartbeats 16000000 in
set_option maxRecDepth 100000 in
theorem facts_yes (k : Kp) (w : World) (he : Env w) (ha : k.Arg w) (hck : k.check = true) :
    Calls Tryz.prog 10 #[k.agg] w fun e w' => e = .returned (.bool true) ∧ Below w.heap.size w w' := by
  have HS0 := Lib.hid (FS.start k w ha he)
  have hlen : k.head.args.length ≤ 35184372088832 := ha.head.isin.len
  have HF := Lib.hid (show ∀ wx, Env wx → _ from fun wx hx => fixed_any wx hx)
  have HCP := Lib.hid (show ∀ wx, k.Arg wx → _ from fun wx hx => copy_arg k wx hx)
  have HCK := Lib.hid (show ∀ wx d, d.Arg wx ∧ d.q = k.q → Env wx → _ from fun wx d h1 h2 => check_arg k d wx h1 h2)
  have HFT := Lib.hid (show ∀ wx d, d.Arg wx ∧ d.q = k.q → Env wx → _ from fun wx d h1 h2 => fact_arg k d wx h1 h2)
  rw [hck] at HCK
  have HCL := Lib.hid (show ∀ wx, k.Arg wx → Calls Tryz.prog 22 #[.agg #[.int .u8 k.head.kind, .string k.head.who.v, .string k.head.who.s, .int .i64 k.head.who.n, .string k.head.pred, .slice k.head.ptr k.head.args.length k.head.cap]] wx fun e w' => ∃ q' c', e = .returned (.agg #[.int .u8 k.head.kind, .string k.head.who.v, .string k.head.who.s, .int .i64 k.head.who.n, .string k.head.pred, .slice q' k.head.args.length c']) ∧ Hid ((k.bare q' c').Arg w') ∧ Below wx.heap.size wx w' from fun wx hx => (copyLit_any k.head wx hx.head.isin.args (kp_size hx).1).mono fun e w' ⟨q', c', h1, h2, _, h4⟩ => ⟨q', c', h1, Lib.hid ⟨lit_arg hx.head rfl h2, .inl rfl, fun l hl => (by cases hl), (show ([] : List Lp).length * 88 ≤ 140737488351232 by decide)⟩, h4⟩)
  have HBK := Lib.hid (show ∀ wx q' c', (k.bare q' c').Arg wx → Env wx → Calls Tryz.prog 24 #[.agg #[.int .u8 k.head.kind, .string k.head.who.v, .string k.head.who.s, .int .i64 k.head.who.n, .string k.head.pred, .slice q' k.head.args.length c', .slice none 0 0]] wx fun e w' => e = .returned (.bool true) ∧ Below wx.heap.size wx w' from fun wx q' c' h1 h2 => (check_any (k.bare q' c') wx h1.kin h2).mono fun e w' ⟨h3, h4⟩ => ⟨by rw [h3, bare_check k q' c' hck], h4⟩)
  have HBF := Lib.hid (show ∀ wx q' c', (k.bare q' c').Arg wx → Env wx → Calls Tryz.prog 28 #[.agg #[.int .u8 k.head.kind, .string k.head.who.v, .string k.head.who.s, .int .i64 k.head.who.n, .string k.head.pred, .slice q' k.head.args.length c', .slice none 0 0]] wx fun e w' => e = .returned (.bool (!freeB k.head.args)) ∧ Below wx.heap.size wx w' from fun wx q' c' h1 h2 => (fact_any (k.bare q' c') wx h1.kin h2).mono fun e w' ⟨h3, h4⟩ => ⟨by rw [h3, bare_fact k q' c' hck], h4⟩)
  have HFB := Lib.hid (show k.body.length ≠ 0 → k.fact = false from fact_body k)
  unfold Kp.agg at HCP HCK HFT ⊢
  clear ha he hck
  go_enter Tryz.func10, Tryz.ntmps10
  go_upto_block 0 with (first
    | (go_at_call 22; refine (HCL.out _ HS3.out.a).mono ?_; rintro e w4 ⟨q', c', rfl, HA4, hb4⟩; have HS4 := Lib.hid (HS3.out.on hb4); clear hb4)
    | (go_at_call 24; refine (HCK.out _ d2 (Hid.out HD2) HS2.out.e).mono ?_; rintro e w3 ⟨rfl, hb3⟩; have HS3 := Lib.hid (HS2.out.on hb3); obtain ⟨z0, z1, z2, z3, z4, z5, z6⟩ := HS3.out.x.seven; clear hb3)
    | (go_at_call 19; refine (HCP.out _ HS1.out.a).mono ?_; rintro e w2 ⟨d2, HD2, rfl, hb2⟩; have HS2 := Lib.hid (HS1.out.on hb2); clear hb2)
    | (go_at_call 13; refine (HF.out _ HS0.out.e).mono ?_; rintro e w1 ⟨rfl, hb1⟩; have HS1 := Lib.hid (HS0.out.on hb1); obtain ⟨x0, x1, x2, x3, x4, x5, x6⟩ := HS1.out.x.seven; clear hb1))
  have HZB := Lib.hid (Bk.new w4 31 #[.int .u8 k.head.kind, .string k.head.who.v, .string k.head.who.s, .int .i64 k.head.who.n, .string k.head.pred, .slice q' k.head.args.length c', .slice none 0 0])
  have HSB := Lib.hid (HS4.out.on (below1 w4 (.cells #[.int .u8 k.head.kind, .string k.head.who.v, .string k.head.who.s, .int .i64 k.head.who.n, .string k.head.pred, .slice q' k.head.args.length c', .slice none 0 0] 31)))
  have HAB := Lib.hid ((Hid.out HA4).on (below1 w4 (.cells #[.int .u8 k.head.kind, .string k.head.who.v, .string k.head.who.s, .int .i64 k.head.who.n, .string k.head.pred, .slice q' k.head.args.length c', .slice none 0 0] 31)))
  clear HCL HCK HS0 HS1 HS2 HS3 HS4 HA4 HD2 HF
  generalize w4.alloc (.cells #[.int .u8 k.head.kind, .string k.head.who.v, .string k.head.who.s, .int .i64 k.head.who.n, .string k.head.pred, .slice q' k.head.args.length c', .slice none 0 0] 31) = wb at *
  go_wp2_with fail
  go_loopw [4, 5] (fun f i wr => ∃ j : Nat, j ≤ k.head.args.length ∧ f = .bool (freeB (k.head.args.take j)) ∧ i = .int .i64 j ∧ wr = wb) (fun f i _ => k.head.args.length - (intOf i).toNat)
  case atStart => exact ⟨0, Nat.zero_le _, rfl, rfl, rfl⟩
  case round =>
    obtain ⟨j, hj, rfl, rfl, rfl⟩ := hrel
    obtain ⟨x0, x1, x2, x3, x4, x5, x6⟩ := HSB.out.x.seven
    by_cases hlt : j < k.head.args.length
    · obtain ⟨b, o, hp, hbb, e0, e1, e2⟩ := rdM_at HSB.out.a.head.isin.args j hlt
      rw [hp] at x5
      have HFS := Lib.hid (free_step k.head.args j hlt)
      have hj0 : (0 : Int) ≤ (j : Int) := by omega
      have hj1 : (j : Int) < (k.head.args.length : Int) := by omega
      cases hf : freeB (k.head.args.take j) with
      | true =>
        rw [hf] at HFS
        go_wp2_with fail
        go_roundw
        case rel => exact ⟨j + 1, by omega, by rw [HFS.out]; rfl, by go_num, by first | rfl | trivial⟩
        case measure => simp [intOf]; omega
      | false =>
        rw [hf] at HFS
        generalize k.head.args[j].v = vj at *
        cases hv : vj.toList.isEmpty with
        | true =>
          rw [hv] at HFS
          have hs : ¬ ((0 : Int) < (vj.size : Int)) := by rw [size_pos, hv]; decide
          have hz : vj.size = 0 := by omega
          go_wp2_with fail
          go_roundw
          case rel => exact ⟨j + 1, by omega, by rw [HFS.out]; first | rfl | simp [hz], by go_num, by first | rfl | trivial⟩
          case measure => simp [intOf]; omega
        | false =>
          rw [hv] at HFS
          have hs : (0 : Int) < (vj.size : Int) := by rw [size_pos, hv]
          have hz : 0 < vj.size := by omega
          go_wp2_with fail
          go_roundw
          case rel => exact ⟨j + 1, by omega, by rw [HFS.out]; first | rfl | simp [hz], by go_num, by first | rfl | trivial⟩
          case measure => simp [intOf]; omega
    · have hje : freeB (k.head.args.take j) = freeB k.head.args := by rw [List.take_of_length_le (by omega)]
      rw [hje]
      obtain ⟨z0, z1, z2, z3, z4, z5, z6⟩ := HZB.out.seven
      generalize freeB k.head.args = fb at *
      by_cases hb : k.body.length = 0
      · have hb' : ((k.body.length : Int) == 0) = true := by simp [hb]
        cases fb <;>
        (go_wp2_with (first
          | (go_at_call 24; refine (HBK.out _ q' c' HA5.out HS5.out.e).mono ?_; rintro e w6 ⟨rfl, hb6⟩; have HS6 := Lib.hid (HS5.out.on hb6); obtain ⟨y0, y1, y2, y3, y4, y5, y6⟩ := HS6.out.x.seven; clear hb6)
          | (go_at_call 28; refine (HBF.out _ q' c' HAB.out HSB.out.e).mono ?_; rintro e w5 ⟨rfl, hb5⟩; have HS5 := Lib.hid (HSB.out.on hb5); have HA5 := Lib.hid (HAB.out.on hb5); have HZ5 := Lib.hid (HZB.out.on hb5); obtain ⟨u0, u1, u2, u3, u4, u5, u6⟩ := HZ5.out.seven; clear hb5))
         go_ret
         exact ⟨rfl, HS6.out.b⟩)
      · have hb' : ((k.body.length : Int) == 0) = false := beq_eq_false_iff_ne.2 (by omega)
        rw [HFB.out hb] at HFT
        cases fb <;>
        (go_wp2_with (first
          | (go_at_call 28; refine (HFT.out _ d7 (Hid.out HD7) HS7.out.e).mono ?_; rintro e w8 ⟨rfl, hb8⟩; have HS8 := Lib.hid (HS7.out.on hb8); clear hb8)
          | (go_at_call 19; refine (HCP.out _ HS6.out.a).mono ?_; rintro e w7 ⟨d7, HD7, rfl, hb7⟩; have HS7 := Lib.hid (HS6.out.on hb7); clear hb7)
          | (go_at_call 24; refine (HBK.out _ q' c' HA5.out HS5.out.e).mono ?_; rintro e w6 ⟨rfl, hb6⟩; have HS6 := Lib.hid (HS5.out.on hb6); obtain ⟨y0, y1, y2, y3, y4, y5, y6⟩ := HS6.out.x.seven; clear hb6)
          | (go_at_call 28; refine (HBF.out _ q' c' HAB.out HSB.out.e).mono ?_; rintro e w5 ⟨rfl, hb5⟩; have HS5 := Lib.hid (HSB.out.on hb5); have HA5 := Lib.hid (HAB.out.on hb5); have HZ5 := Lib.hid (HZB.out.on hb5); obtain ⟨u0, u1, u2, u3, u4, u5, u6⟩ := HZ5.out.seven; clear hb5))
         go_ret
         exact ⟨rfl, HS8.out.b⟩)
theorem facts_walk (k : Kp) (w : World) (he : Env w) (ha : k.Arg w) :
    Calls Tryz.prog 10 #[k.agg] w fun e w' => e = .returned (.bool true) ∧ Below w.heap.size w w' := by
  cases hck : k.check with
  | true => exact facts_yes k w he ha hck
  | false => exact facts_no k w he ha hck
end Go.Proofs.YtnjdganikeganaaGreatDoor

/-
  Plain: what the reference asks of a variable's text is what the lexer tells.
-/
namespace Go.Proofs.YtnjdganikeganaaGreatDoor
open Go.RowKit

/-- is a text a variable, byte by byte -/
def rvarB (s : ByteArray) : Bool := decide (1 ≤ s.size) && (decide (s.size ≤ 16) && (upB (hdB s) && s.data.toList.all fun c => winB (c.toNat : Int)))
def rvarL (l : List UInt8) : Bool := decide (1 ≤ l.length) && (decide (l.length ≤ 16) && (upB ((l.headD 0).toNat : Int) && l.all fun c => winB (c.toNat : Int)))
theorem runL_all : ∀ r : List UInt8, runL r = r.length ↔ (r.all fun c => winB (c.toNat : Int)) = true
  | [] => by simp [runL]
  | c :: r => by
    have ih := runL_all r
    have hle := runL_le r
    rw [runL, List.all_cons, List.length_cons]
    cases h : winB (c.toNat : Int) with
    | true => simp only [if_true, Bool.true_and]; rw [← ih]; omega
    | false => simp
theorem upB_iff (c : Int) : upB c = true ↔ 65 ≤ c ∧ c ≤ 90 := by simp [upB]
theorem oneL_up (c : UInt8) (r : List UInt8) (h : upB (c.toNat : Int) = true) : oneL (c :: r) = pieceL (c :: r) (1 + runL r) := by
  obtain ⟨h1, h2⟩ := (upB_iff _).1 h
  have hne : ∀ n : Nat, (n < 65 ∨ 90 < n) → (c.toNat == n) = false := fun n hn => beq_eq_false_iff_ne.2 (by omega)
  have hw : winB (c.toNat : Int) = true := by unfold winB; rw [h]; simp
  rw [oneL, hne 32 (by omega), hne 9 (by omega), hne 40 (by omega), hne 41 (by omega), hne 44 (by omega), hne 46 (by omega), hne 60 (by omega), hne 58 (by omega), hne 33 (by omega), hne 45 (by omega), hw]
  rfl
theorem kindL_var {l : List UInt8} (h : kindL l = 2) : upB ((l.headD 0).toNat : Int) = true ∧ l.length ≤ 16 := by
  unfold kindL at h
  split at h
  · exact absurd h (by decide)
  · split at h
    · rename_i h2
      simpa using h2
    · split at h
      · exact absurd h (by decide)
      · split at h
        · exact absurd h (by decide)
        · exact absurd h (by decide)
theorem kindL_up {l : List UInt8} (h : upB ((l.headD 0).toNat : Int) = true) (hl : l.length ≤ 16) : kindL l = 2 := by
  obtain ⟨h1, h2⟩ := (upB_iff _).1 h
  have hw : wordL l = false := by
    unfold wordL
    rw [Bool.or_eq_false_iff]
    refine ⟨beq_eq_false_iff_ne.2 fun e => ?_, beq_eq_false_iff_ne.2 fun e => ?_⟩
    · rw [e] at h2; exact absurd h2 (by decide)
    · rw [e] at h2; exact absurd h2 (by decide)
  unfold kindL
  rw [hw, h]
  simp [hl]
theorem piece_kind (c : UInt8) (r : List UInt8) (n : Nat) (h : (pieceL (c :: r) (1 + n)).kind = 2) : upB (c.toNat : Int) = true := by
  unfold pieceL at h
  split at h
  · exact absurd h (by decide)
  · have h2 := (kindL_var h).1
    rw [Nat.add_comm, List.take_succ_cons] at h2
    exact h2
theorem one_kind (c : UInt8) (r : List UInt8) (h : (oneL (c :: r)).kind = 2) : upB (c.toNat : Int) = true := by
  rw [oneL] at h
  split at h
  · exact absurd h (by decide)
  · split at h
    · exact absurd h (by decide)
    · split at h
      · split at h <;> exact absurd h (by decide)
      · split at h
        · split at h <;> exact absurd h (by decide)
        · split at h
          · split at h
            · exact piece_kind c r _ h
            · exact absurd h (by decide)
          · split at h
            · exact piece_kind c r _ h
            · exact absurd h (by decide)
theorem varL_eq (l : List UInt8) : (((oneA l 0).err == 0) && ((oneA l 0).kind == 2) && ((if (oneA l 0).err = 0 then (0 : Int) + (oneA l 0).len else 0) == (l.length : Int))) = rvarL l := by
  cases l with
  | nil => rfl
  | cons c r =>
    have ho : oneA (c :: r) 0 = oneL (c :: r) := by
      unfold oneA
      rw [if_pos ⟨Int.le_refl _, by simp⟩]
      rfl
    rw [ho]
    cases hu : upB (c.toNat : Int) with
    | false =>
      have hk : ((oneL (c :: r)).kind == 2) = false := beq_eq_false_iff_ne.2 fun e => by rw [one_kind c r e] at hu; cases hu
      rw [hk]
      unfold rvarL
      show _ = (_ && (_ && (upB (c.toNat : Int) && _)))
      rw [hu]
      simp
    | true =>
      rw [oneL_up c r hu]
      have hle := runL_le r
      have hwc : winB (c.toNat : Int) = true := by unfold winB; rw [hu]; simp
      have hall : ((c :: r).all fun c => winB (c.toNat : Int)) = r.all fun c => winB (c.toNat : Int) := by rw [List.all_cons, hwc]; rfl
      have hr : rvarL (c :: r) = (decide (r.length + 1 ≤ 16) && r.all fun c => winB (c.toNat : Int)) := by
        unfold rvarL
        rw [hall]
        show (_ && (_ && (upB (c.toNat : Int) && _))) = _
        rw [hu]
        simp
      rw [hr]
      have hlen : ((c :: r).take (1 + runL r)).length = 1 + runL r := by rw [List.length_take]; simp; omega
      have hhd : ((c :: r).take (1 + runL r)).headD 0 = c := by rw [Nat.add_comm, List.take_succ_cons]; rfl
      by_cases hs : 1 + runL r ≤ 16
      · have hk := kindL_up (l := (c :: r).take (1 + runL r)) (by rw [hhd]; exact hu) (by rw [hlen]; exact hs)
        have hp : pieceL (c :: r) (1 + runL r) = ⟨0, 2, 1 + runL r⟩ := by unfold pieceL; rw [hk]; rfl
        rw [hp]
        simp only [if_pos, List.length_cons]
        have hd : decide ((1 : Int) + (runL r : Nat) = (r.length + 1 : Nat)) = (r.all fun c => winB (c.toNat : Int)) := by
          cases ha : r.all fun c => winB (c.toNat : Int) with
          | true => have := (runL_all r).2 ha; simp; omega
          | false =>
            have : runL r ≠ r.length := fun e => by rw [(runL_all r).1 e] at ha; cases ha
            simp; omega
        cases ha : r.all fun c => winB (c.toNat : Int) with
        | true =>
          have e := (runL_all r).2 ha
          simp only [e, Bool.and_true]
          have : r.length + 1 ≤ 16 := by omega
          simp [this]; omega
        | false =>
          have : runL r ≠ r.length := fun e => by rw [(runL_all r).1 e] at ha; cases ha
          simp; omega
      · have hk : ((pieceL (c :: r) (1 + runL r)).kind == 2) = false := beq_eq_false_iff_ne.2 fun e => by
          unfold pieceL at e
          split at e
          · exact absurd e (by decide)
          · have := (kindL_var e).2
            rw [hlen] at this
            exact hs this
        rw [hk]
        have : ¬ (r.length + 1 ≤ 16) := by omega
        simp [this]
theorem var_eq (s : ByteArray) : varB s = rvarB s := by
  have h := varL_eq s.data.toList
  have hz : s.size = s.data.toList.length := rfl
  unfold varB rvarB
  rw [hz, h]
  rfl
end Go.Proofs.YtnjdganikeganaaGreatDoor

/-
  Joined of: CpyB, CpyC, RdrI, RdrJ, RdrK.
-/
import Derived.Test.YtnjdganikeganaaGreatDoorJa23
import Derived.Test.YtnjdganikeganaaGreatDoorJa24
import Derived.Test.YtnjdganikeganaaGreatDoorJa31
set_option linter.unusedVariables false
set_option linter.unusedSimpArgs false
/-
  Contract: the reference's CopyLit.
-/
namespace Go.Proofs.YtnjdganikeganaaGreatDoor
open Go.RowKit

set_option maxHeartbeats 8000000 in
set_option maxRecDepth 100000 in
theorem copyLit_any (l : Lp) (w : World) (h : Tms w w.heap.size l.ptr l.args) (hl : l.args.length * 40 ≤ 140737488355328) :
    Calls Tryz.prog 22 #[l.agg] w fun e w' => ∃ q c, e = .returned (l.q.at q c).agg ∧ Tms w' w'.heap.size q l.args ∧ (∀ b, q = some b → w.heap.size ≤ b.block) ∧ Below w.heap.size w w' := by
  obtain ⟨i0, hii, hz0, hz1, hzb⟩ := info_parts infoTerm
  obtain ⟨kd, ⟨v, s, n⟩, p, q, c, xs⟩ := l
  simp only [Lp.agg, Lp.q, Lq.at] at h hl ⊢
  have HR := Lib.hid h
  have HL := Lib.hid hl
  have HM := Lib.hid (show xs.length ≤ maxLen from Nat.le_trans (Nat.le_trans (by omega) hl) (by decide))
  have HX := Lib.hid (show Bk (((w.alloc (.cells #[.int .u8 kd, .string v, .string s, .int .i64 n, .string p, .slice q xs.length c] 28)).alloc (.cells #[.int .u8 0, .string ⟨#[]⟩, .string ⟨#[]⟩, .int .i64 0, .string ⟨#[]⟩, .slice none 0 0] 28)).alloc (.cells #[] 25)) w.heap.size _ _ from (Bk.new1 w _ _ _).on (below1 _ _))
  have HZ := Lib.hid (show Bk (((w.alloc (.cells #[.int .u8 kd, .string v, .string s, .int .i64 n, .string p, .slice q xs.length c] 28)).alloc (.cells #[.int .u8 0, .string ⟨#[]⟩, .string ⟨#[]⟩, .int .i64 0, .string ⟨#[]⟩, .slice none 0 0] 28)).alloc (.cells #[] 25)) (w.heap.size + 1) _ _ from (Bk.new2 w _ _ _).on (below1 _ _))
  have HB3 := Lib.hid (below3 w (.cells #[.int .u8 kd, .string v, .string s, .int .i64 n, .string p, .slice q xs.length c] 28) (.cells #[.int .u8 0, .string ⟨#[]⟩, .string ⟨#[]⟩, .int .i64 0, .string ⟨#[]⟩, .slice none 0 0] 28) (.cells #[] 25))
  have HG := Lib.hid (grw_made (w := ((w.alloc (.cells #[.int .u8 kd, .string v, .string s, .int .i64 n, .string p, .slice q xs.length c] 28)).alloc (.cells #[.int .u8 0, .string ⟨#[]⟩, .string ⟨#[]⟩, .int .i64 0, .string ⟨#[]⟩, .slice none 0 0] 28))) (base := w.heap.size + 2) (E := 25) (k := 3) (by simp))
  obtain ⟨x0, x1, x2, x3, x4, x5⟩ := HX.out.six
  have hsz : (((w.alloc (.cells #[.int .u8 kd, .string v, .string s, .int .i64 n, .string p, .slice q xs.length c] 28)).alloc (.cells #[.int .u8 0, .string ⟨#[]⟩, .string ⟨#[]⟩, .int .i64 0, .string ⟨#[]⟩, .slice none 0 0] 28)).alloc (.cells #[] 25)).heap.size = w.heap.size + 3 := by simp
  have HS3 := Lib.hid hsz
  clear h hl hsz
  go_enter Tryz.func22, Tryz.ntmps22
  go_wp2_with (at_builtin; refine wpList_copyE EM rfl _ _ 26 rfl (w.heap.size + 2) 25 i0 _ 40 underTs hii hz0 hz1 hzb rfl _ 0 rfl (by simpa using HG.out) _ xs c rfl (HR.out.below HB3.out (Nat.le_refl _)) HM.out HL.out (by rw [HS3.out]; omega) ?_; intro p' cap w1 h1 h2 h3 h4; have H1 := Lib.hid h1; have H2 := Lib.hid h2; have H3 := Lib.hid h3; have H4 := Lib.hid h4; have HX1 := Lib.hid (HX.out.below h4 (by omega)); have HZ1 := Lib.hid (HZ.out.below h4 (by omega)); obtain ⟨f0, f1, f2, f3, f4, f5, f6⟩ := HX1.out.softs; obtain ⟨u0, u1, u2, u3, u4, u5⟩ := HX1.out.six; obtain ⟨t0, t1, t2, t3, t4, t5⟩ := HZ1.out.six; obtain ⟨g0, g1, g2, g3, g4, g5, g6⟩ := HZ1.out.softs; obtain ⟨y0, y1, y2, y3, y4, y5⟩ := (HX1.out.set 5 (.slice p' xs.length cap)).six; have HZ2 := Lib.hid (HZ1.out.other (b' := w.heap.size) (by omega) 5 (.slice p' xs.length cap)); obtain ⟨r0, r1, r2, r3, r4, r5⟩ := HZ2.out.six; obtain ⟨z0, z1, z2, z3, z4, z5, z6⟩ := HZ2.out.softs; clear h1 h2 h3 h4)
  have hf : ∀ b, p' = some b → w.heap.size + 2 ≤ b.block := by
    intro b hb
    rcases Nat.eq_zero_or_pos xs.length with h0 | h0
    · rw [(H3.out (List.length_eq_zero_iff.1 h0)).1] at hb; cases hb; exact Nat.le_refl _
    · rcases H1.out with h1 | h1
      · obtain ⟨g, cap2, he, hge, _⟩ := h1.form h0
        injection he with he _ _
        rw [he] at hb; cases hb; exact hge
      · rw [h1] at h0; simp at h0
  obtain ⟨q0, q1, q2, q3, q4, q5⟩ := (load6 HZ2.out (.int .u8 kd) (.string v) (.string s) (.int .i64 n) (.string p) (.slice p' xs.length cap)).six
  refine bodyPost_ret (v := .agg #[.int .u8 kd, .string v, .string s, .int .i64 n, .string p, .slice p' xs.length cap]) ?_ rfl ?_
  · simp [results, Tryz.results22, go_sem, q0, q1, q2, q3, q4, q5]
  · exact ⟨p', cap, rfl, (((Above.refl (w.heap.size + 2) w1).set (b := w.heap.size) (by omega) 5 _).set6 (b := w.heap.size + 1) (by omega) _ _ _ _ _ _).rd H2.out hf ((setB (B := 0) (Nat.zero_le _) 5 _).trans (set6 (Nat.zero_le _) _ _ _ _ _ _)).size, fun b hb => Nat.le_trans (by omega) (hf b hb), ((HB3.out.trans (H4.out.mono (by omega))).trans (setB (Nat.le_refl _) 5 _)).trans (set6 (by omega) _ _ _ _ _ _)⟩
end Go.Proofs.YtnjdganikeganaaGreatDoor

/-
  Contract: the reference's Same.
-/
namespace Go.Proofs.YtnjdganikeganaaGreatDoor
open Go.RowKit

def sameK (a b : Kp) : Bool := sameL a.head b.head && (decide (a.body.length = b.body.length) && (List.zip a.body b.body).all fun p => sameL p.1 p.2)
theorem zipL_eq : ∀ (l m : List Lp), l.length = m.length → (((List.zip l m).all fun p => sameL p.1 p.2) = true ↔ l.map Lp.q = m.map Lp.q)
  | [], [], _ => by simp
  | a :: l, b :: m, h => by
    have := zipL_eq l m (by simpa using h)
    simp only [List.zip_cons_cons, List.all_cons, Bool.and_eq_true, sameL_iff, this, List.map_cons, List.cons.injEq]
  | [], b :: m, h => by simp at h
  | a :: l, [], h => by simp at h
theorem sameK_iff {a b : Kp} : sameK a b = true ↔ a.q = b.q := by
  unfold sameK Kp.q
  simp only [Bool.and_eq_true, sameL_iff, decide_eq_true_eq, Cq.mk.injEq]
  constructor
  · rintro ⟨h1, h2, h3⟩; exact ⟨h1, (zipL_eq _ _ h2).1 h3⟩
  · rintro ⟨h1, h2⟩
    have h3 : a.body.length = b.body.length := by simpa using congrArg List.length h2
    exact ⟨h1, h3, (zipL_eq _ _ h3).2 h2⟩

set_option maxHeartbeats 8000000 in
set_option maxRecDepth 100000 in
theorem same_any (a b : Kp) (w : World) (ha : ClMem w a) (hb : ClMem w b) (hla : a.head.args.length ≤ 9223372036854775807) (hlc : a.body.length ≤ 9223372036854775807) (hlb : ∀ l ∈ a.body, l.args.length ≤ 9223372036854775807) :
    Calls Tryz.prog 14 #[a.agg, b.agg] w fun e w' => e = .returned (.bool (sameK a b)) ∧ Below w.heap.size w w' := by
  have HB := Lib.hid (below2 w)
  have HA := Lib.hid ha.body
  have HC := Lib.hid hb.body
  have HS := Lib.hid (show sameK a b = (sameL a.head b.head && (decide (a.body.length = b.body.length) && (List.zip a.body b.body).all fun p => sameL p.1 p.2)) from rfl)
  have HH := Lib.hid (show ∀ wx, Below w.heap.size w wx → Calls Tryz.prog 17 #[.agg #[.int .u8 a.head.kind, .string a.head.who.v, .string a.head.who.s, .int .i64 a.head.who.n, .string a.head.pred, .slice a.head.ptr a.head.args.length a.head.cap], .agg #[.int .u8 b.head.kind, .string b.head.who.v, .string b.head.who.s, .int .i64 b.head.who.n, .string b.head.pred, .slice b.head.ptr b.head.args.length b.head.cap]] wx fun e w' => e = .returned (.bool (sameL a.head b.head)) ∧ Below wx.heap.size wx w' from fun wx hx => sameLit_any a.head b.head wx (ha.head.grow hx) (hb.head.grow hx) hla)
  have HE := Lib.hid (show ∀ la ∈ a.body, ∀ lb ∈ b.body, ∀ wx, Below w.heap.size w wx → Calls Tryz.prog 17 #[.agg #[.int .u8 la.kind, .string la.who.v, .string la.who.s, .int .i64 la.who.n, .string la.pred, .slice la.ptr la.args.length la.cap], .agg #[.int .u8 lb.kind, .string lb.who.v, .string lb.who.s, .int .i64 lb.who.n, .string lb.pred, .slice lb.ptr lb.args.length lb.cap]] wx fun e w' => e = .returned (.bool (sameL la lb)) ∧ Below wx.heap.size wx w' from fun la h1 lb h2 wx hx => sameLit_any la lb wx ((ha.each la h1).grow hx) ((hb.each lb h2).grow hx) (hlb la h1))
  generalize sameK a b = R at *
  generalize sameL a.head b.head = r0 at *
  obtain ⟨⟨kd, ⟨v, s, n⟩, p, q, c, xs⟩, bp, bc, bs⟩ := a
  obtain ⟨⟨kd2, ⟨v2, s2, n2⟩, p2, q2, c2, xs2⟩, bp2, bc2, bs2⟩ := b
  unfold Kp.agg
  simp only at HA HC HS HH HE hlc ⊢
  clear ha hb hla hlb
  cases r0 with
  | false =>
    go_enter Tryz.func14, Tryz.ntmps14
    go_wp2_with (go_at_call 17; refine (HH.out _ (HB.out _ _)).mono ?_; rintro e w1 ⟨rfl, hb1⟩; have HB1 := Lib.hid ((HB.out _ _).trans (hb1.mono (HB.out _ _).size)); clear hb1)
    go_ret
    exact ⟨by rw [HS.out]; rfl, HB1.out⟩
  | true =>
  by_cases h6 : bs.length = bs2.length
  · have h6' : ((bs.length : Int) == (bs2.length : Int)) = true := by simp [h6]
    have h6'' : ((bs.length : Int) != (bs2.length : Int)) = false := by simp [h6]
    have HD := Lib.hid (show decide (bs.length = bs2.length) = true by simp [h6])
    go_enter Tryz.func14, Tryz.ntmps14
    go_wp2_with (go_at_call 17; refine (HH.out _ (HB.out _ _)).mono ?_; rintro e w1 ⟨rfl, hb1⟩; have HB1 := Lib.hid ((HB.out _ _).trans (hb1.mono (HB.out _ _).size)); have HX1 := Lib.hid ((Bk.new1 w _ _ _).on hb1); have HY1 := Lib.hid ((Bk.new2 w _ _ _).on hb1); have e5 := HX1.out.cell 6 _ rfl; have g5 := HY1.out.cell 6 _ rfl; clear hb1)
    clear e5 g5
    go_loopw [5] (fun i wr => ∃ j : Nat, j ≤ bs.length ∧ i = .int .i64 j ∧ Hid ((List.zip bs bs2).all (fun p => sameL p.1 p.2) = ((List.zip bs bs2).drop j).all fun p => sameL p.1 p.2) ∧ Hid (Bk wr w.heap.size 31 #[.int .u8 kd, .string v, .string s, .int .i64 n, .string p, .slice q xs.length c, .slice bp bs2.length bc]) ∧ Hid (Bk wr (w.heap.size + 1) 31 #[.int .u8 kd2, .string v2, .string s2, .int .i64 n2, .string p2, .slice q2 xs2.length c2, .slice bp2 bs2.length bc2]) ∧ Below w.heap.size w wr) (fun i _ => bs.length - (intOf i).toNat)
    case atStart => exact ⟨0, Nat.zero_le _, rfl, Lib.hid rfl, HX1, HY1, HB1.out⟩
    case round =>
      obtain ⟨j, hj, rfl, HZ, HX, HY, hbw⟩ := hrel
      have HBW := Lib.hid hbw
      have e5 := HX.out.cell 6 _ rfl
      have g5 := HY.out.cell 6 _ rfl
      clear hbw
      have hzl : (List.zip bs bs2).length = bs.length := by rw [List.length_zip]; omega
      by_cases hlt : j < bs.length
      · have hlt2 : j < bs2.length := by omega
        obtain ⟨b, o, rfl, hbb, x0, x1, x2, x3, x4, x5⟩ := rdL_at (HA.out.below HBW.out (Nat.le_refl _)) j hlt
        obtain ⟨b2, o2, rfl, hbb2, y0, y1, y2, y3, y4, y5⟩ := rdL_at (HC.out.below HBW.out (Nat.le_refl _)) j hlt2
        have HST := Lib.hid (show ((List.zip bs bs2).drop j).all (fun p => sameL p.1 p.2) = (sameL bs[j] bs2[j] && ((List.zip bs bs2).drop (j + 1)).all fun p => sameL p.1 p.2) by
          rw [all_step _ _ j (by omega)]
          simp only [List.getElem_zip])
        have HE0 := Lib.hid (HE.out bs[j] (List.getElem_mem hlt) bs2[j] (List.getElem_mem hlt2))
        have HE1 := Lib.hid (show ∀ X, Below wr.heap.size wr X → Calls Tryz.prog 17 #[.agg #[.int .u8 bs[j].kind, .string bs[j].who.v, .string bs[j].who.s, .int .i64 bs[j].who.n, .string bs[j].pred, .slice bs[j].ptr bs[j].args.length bs[j].cap], .agg #[.int .u8 bs2[j].kind, .string bs2[j].who.v, .string bs2[j].who.s, .int .i64 bs2[j].who.n, .string bs2[j].pred, .slice bs2[j].ptr bs2[j].args.length bs2[j].cap]] X fun e w' => e = .returned (.bool (sameL bs[j] bs2[j])) ∧ Below wr.heap.size wr w' from fun X hX => (HE0.out X (HBW.out.trans (hX.mono HBW.out.size))).mono fun e w' ⟨h1, h2⟩ => ⟨h1, hX.trans (h2.mono hX.size)⟩)
        have hj0 : (0 : Int) ≤ (j : Int) := by omega
        have hj1 : (j : Int) < (bs.length : Int) := by omega
        have hj2 : (j : Int) < (bs2.length : Int) := by omega
        have hbb := Nat.lt_of_lt_of_le hbb HBW.out.size
        have hbb2 := Nat.lt_of_lt_of_le hbb2 HBW.out.size
        clear HE0
        generalize sameL bs[j] bs2[j] = r1 at *
        generalize bs[j] = la at *
        generalize bs2[j] = lb at *
        have HSS := Lib.hid (show ∀ X, Below wr.heap.size wr X → X.cell? ⟨w.heap.size, 6, none⟩ = some (.slice (some ⟨b, o, none⟩) bs2.length bc) ∧ X.cell? ⟨w.heap.size + 1, 6, none⟩ = some (.slice (some ⟨b2, o2, none⟩) bs2.length bc2) ∧ X.cell? ⟨b, o + j * 6, none⟩ = some (.int .u8 la.kind) ∧ X.cell? ⟨b, o + j * 6 + 1, none⟩ = some (.string la.who.v) ∧ X.cell? ⟨b, o + j * 6 + 2, none⟩ = some (.string la.who.s) ∧ X.cell? ⟨b, o + j * 6 + 3, none⟩ = some (.int .i64 la.who.n) ∧ X.cell? ⟨b, o + j * 6 + 4, none⟩ = some (.string la.pred) ∧ X.cell? ⟨b, o + j * 6 + 5, none⟩ = some (.slice la.ptr la.args.length la.cap) ∧ X.cell? ⟨b2, o2 + j * 6, none⟩ = some (.int .u8 lb.kind) ∧ X.cell? ⟨b2, o2 + j * 6 + 1, none⟩ = some (.string lb.who.v) ∧ X.cell? ⟨b2, o2 + j * 6 + 2, none⟩ = some (.string lb.who.s) ∧ X.cell? ⟨b2, o2 + j * 6 + 3, none⟩ = some (.int .i64 lb.who.n) ∧ X.cell? ⟨b2, o2 + j * 6 + 4, none⟩ = some (.string lb.pred) ∧ X.cell? ⟨b2, o2 + j * 6 + 5, none⟩ = some (.slice lb.ptr lb.args.length lb.cap) ∧ Hid (Below wr.heap.size wr X) from fun X hX => ⟨(hX.cell (p := ⟨w.heap.size, 6, none⟩) HX.out.lt).trans e5, (hX.cell (p := ⟨w.heap.size + 1, 6, none⟩) HY.out.lt).trans g5, (hX.cell (p := ⟨b, o + j * 6, none⟩) hbb).trans x0, (hX.cell (p := ⟨b, o + j * 6 + 1, none⟩) hbb).trans x1, (hX.cell (p := ⟨b, o + j * 6 + 2, none⟩) hbb).trans x2, (hX.cell (p := ⟨b, o + j * 6 + 3, none⟩) hbb).trans x3, (hX.cell (p := ⟨b, o + j * 6 + 4, none⟩) hbb).trans x4, (hX.cell (p := ⟨b, o + j * 6 + 5, none⟩) hbb).trans x5, (hX.cell (p := ⟨b2, o2 + j * 6, none⟩) hbb2).trans y0, (hX.cell (p := ⟨b2, o2 + j * 6 + 1, none⟩) hbb2).trans y1, (hX.cell (p := ⟨b2, o2 + j * 6 + 2, none⟩) hbb2).trans y2, (hX.cell (p := ⟨b2, o2 + j * 6 + 3, none⟩) hbb2).trans y3, (hX.cell (p := ⟨b2, o2 + j * 6 + 4, none⟩) hbb2).trans y4, (hX.cell (p := ⟨b2, o2 + j * 6 + 5, none⟩) hbb2).trans y5, Lib.hid hX⟩)
        have HDB := Lib.hid (show Below wr.heap.size wr wr.drew from (Below.refl _ _).drew)
        have hI := Lib.hid (Below.refl wr.heap.size wr)
        have HDR := Lib.hid (HSS.out _ HDB.out)
        cases r1 with
        | false =>
          go_wp2_with fail
          go_region_held3 (fun X => X.cell? ⟨w.heap.size, 6, none⟩ = some (.slice (some ⟨b, o, none⟩) bs2.length bc) ∧ X.cell? ⟨w.heap.size + 1, 6, none⟩ = some (.slice (some ⟨b2, o2, none⟩) bs2.length bc2) ∧ X.cell? ⟨b, o + j * 6, none⟩ = some (.int .u8 la.kind) ∧ X.cell? ⟨b, o + j * 6 + 1, none⟩ = some (.string la.who.v) ∧ X.cell? ⟨b, o + j * 6 + 2, none⟩ = some (.string la.who.s) ∧ X.cell? ⟨b, o + j * 6 + 3, none⟩ = some (.int .i64 la.who.n) ∧ X.cell? ⟨b, o + j * 6 + 4, none⟩ = some (.string la.pred) ∧ X.cell? ⟨b, o + j * 6 + 5, none⟩ = some (.slice la.ptr la.args.length la.cap) ∧ X.cell? ⟨b2, o2 + j * 6, none⟩ = some (.int .u8 lb.kind) ∧ X.cell? ⟨b2, o2 + j * 6 + 1, none⟩ = some (.string lb.who.v) ∧ X.cell? ⟨b2, o2 + j * 6 + 2, none⟩ = some (.string lb.who.s) ∧ X.cell? ⟨b2, o2 + j * 6 + 3, none⟩ = some (.int .i64 lb.who.n) ∧ X.cell? ⟨b2, o2 + j * 6 + 4, none⟩ = some (.string lb.pred) ∧ X.cell? ⟨b2, o2 + j * 6 + 5, none⟩ = some (.slice lb.ptr lb.args.length lb.cap) ∧ Hid (Below wr.heap.size wr X))
            (first
              | (exact HSS.out _ (Hid.out hI))
              | (exact HDR.out)
              | go_keep)
            (first
              | (go_at_call 17; refine (HE1.out _ (by first | exact Hid.out hI | exact HDB.out)).mono ?_; rintro e wn ⟨rfl, hI'⟩; have hI := Lib.hid hI'; clear hI'))
          all_goals
            go_wp2_with fail
            go_ret
            exact ⟨by rw [HS.out, HD.out, HZ.out, HST.out]; rfl, HBW.out.trans ((Hid.out hI).mono HBW.out.size)⟩
        | true =>
          go_wp2_with fail
          go_region_held3 (fun X => X.cell? ⟨w.heap.size, 6, none⟩ = some (.slice (some ⟨b, o, none⟩) bs2.length bc) ∧ X.cell? ⟨w.heap.size + 1, 6, none⟩ = some (.slice (some ⟨b2, o2, none⟩) bs2.length bc2) ∧ X.cell? ⟨b, o + j * 6, none⟩ = some (.int .u8 la.kind) ∧ X.cell? ⟨b, o + j * 6 + 1, none⟩ = some (.string la.who.v) ∧ X.cell? ⟨b, o + j * 6 + 2, none⟩ = some (.string la.who.s) ∧ X.cell? ⟨b, o + j * 6 + 3, none⟩ = some (.int .i64 la.who.n) ∧ X.cell? ⟨b, o + j * 6 + 4, none⟩ = some (.string la.pred) ∧ X.cell? ⟨b, o + j * 6 + 5, none⟩ = some (.slice la.ptr la.args.length la.cap) ∧ X.cell? ⟨b2, o2 + j * 6, none⟩ = some (.int .u8 lb.kind) ∧ X.cell? ⟨b2, o2 + j * 6 + 1, none⟩ = some (.string lb.who.v) ∧ X.cell? ⟨b2, o2 + j * 6 + 2, none⟩ = some (.string lb.who.s) ∧ X.cell? ⟨b2, o2 + j * 6 + 3, none⟩ = some (.int .i64 lb.who.n) ∧ X.cell? ⟨b2, o2 + j * 6 + 4, none⟩ = some (.string lb.pred) ∧ X.cell? ⟨b2, o2 + j * 6 + 5, none⟩ = some (.slice lb.ptr lb.args.length lb.cap) ∧ Hid (Below wr.heap.size wr X))
            (first
              | (exact HSS.out _ (Hid.out hI))
              | (exact HDR.out)
              | go_keep)
            (first
              | (go_at_call 17; refine (HE1.out _ (by first | exact Hid.out hI | exact HDB.out)).mono ?_; rintro e wn ⟨rfl, hI'⟩; have hI := Lib.hid hI'; clear hI'))
          all_goals
            go_wp2_with fail
            go_roundw
            case rel => exact ⟨j + 1, by omega, by go_num, Lib.hid (by rw [HZ.out, HST.out]; rfl), Lib.hid (HX.out.on (Hid.out hI)), Lib.hid (HY.out.on (Hid.out hI)), HBW.out.trans ((Hid.out hI).mono HBW.out.size)⟩
            case measure => simp [intOf]; omega
      · have HED := Lib.hid (all_end (fun p : Lp × Lp => sameL p.1 p.2) (List.zip bs bs2) j (by omega))
        go_wp2_with fail
        go_ret
        exact ⟨by rw [HS.out, HD.out, HZ.out, HED.out]; rfl, HBW.out⟩
  · have h6' : ((bs.length : Int) == (bs2.length : Int)) = false := by simp; omega
    have h6'' : ((bs.length : Int) != (bs2.length : Int)) = true := by simp; omega
    have HD := Lib.hid (show decide (bs.length = bs2.length) = false by simp [h6])
    go_enter Tryz.func14, Tryz.ntmps14
    go_wp2_with (go_at_call 17; refine (HH.out _ (HB.out _ _)).mono ?_; rintro e w1 ⟨rfl, hb1⟩; have HB1 := Lib.hid ((HB.out _ _).trans (hb1.mono (HB.out _ _).size)); have HX1 := Lib.hid ((Bk.new1 w _ _ _).on hb1); have HY1 := Lib.hid ((Bk.new2 w _ _ _).on hb1); have e5 := HX1.out.cell 6 _ rfl; have g5 := HY1.out.cell 6 _ rfl; clear hb1)
    go_ret
    exact ⟨by rw [HS.out, HD.out]; rfl, HB1.out⟩
end Go.Proofs.YtnjdganikeganaaGreatDoor

/-
  The reference's Parse: what its loop keeps.
-/
namespace Go.Proofs.YtnjdganikeganaaGreatDoor
open Go.RowKit

/-- The literals that were read lie in a row of the call's own, which the clause's block holds; the reader's block holds where it is. -/
structure RJ (w1 : World) (B rb cb : Nat) (a0 a1 a2 a3 a4 a5 : Value) (s : ByteArray) (q : Option Addr) (c : Nat) (ts : List Tok) (k : Nat) (er fr : Int) (acc : List Lp) (w : World) : Prop where
  io : w.os = w1.os ∧ w.tape = w1.tape ∧ w.output = w1.output
  old : ∀ g, g < B → g ≠ rb → g ≠ cb → w.heap[g]? = w1.heap[g]?
  rr : Rr w rb s q c ts k er fr
  own : ∃ v, Bk w cb 31 #[a0, a1, a2, a3, a4, a5, v] ∧ w.ownsRow B 28 6 v acc.length (flatE encL acc) ∧ ∀ l ∈ acc, Far w B v.ownBlock l
  hrb : rb < B
  hcb : cb < B
  n2 : rb < cb
  hi : B ≤ w.heap.size
section
variable {w1 : World} {B rb cb : Nat} {a0 a1 a2 a3 a4 a5 : Value} {s : ByteArray} {q : Option Addr} {c : Nat} {ts : List Tok} {k : Nat} {er fr : Int} {acc : List Lp} {w : World}
theorem RJ.on {w' : World} (h : RJ w1 B rb cb a0 a1 a2 a3 a4 a5 s q c ts k er fr acc w) (hb : Below w.heap.size w w') : RJ w1 B rb cb a0 a1 a2 a3 a4 a5 s q c ts k er fr acc w' := by
  obtain ⟨v, h1, h2, h3⟩ := h.own
  have hi := h.hi
  exact ⟨⟨hb.os.trans h.io.1, hb.tape.trans h.io.2.1, hb.output.trans h.io.2.2⟩, fun g hg x y => (hb.block g (by omega)).trans (h.old g hg x y), h.rr.on hb, ⟨v, h1.on hb, own_below h2 hb, fun l hl => (h3 l hl).keep hb.size fun b _ hlt hne => ⟨hb.block b hlt, hne⟩⟩, h.hrb, h.hcb, h.n2, Nat.le_trans h.hi hb.size⟩
theorem RJ.step {w' : World} {k' : Nat} {er' fr' : Int} (h : RJ w1 B rb cb a0 a1 a2 a3 a4 a5 s q c ts k er fr acc w) (ho : Only rb w w') (hp : Rr w' rb s q c ts k' er' fr') : RJ w1 B rb cb a0 a1 a2 a3 a4 a5 s q c ts k' er' fr' acc w' := by
  obtain ⟨v, h1, h2, h3⟩ := h.own
  have hi := h.hi
  have hrb := h.hrb
  refine ⟨⟨ho.os.trans h.io.1, ho.tape.trans h.io.2.1, ho.output.trans h.io.2.2⟩, fun g hg x y => (ho.block g (by omega) x).trans (h.old g hg x y), hp, ⟨v, h1.only ho (Nat.ne_of_gt h.n2), ?_, fun l hl => (h3 l hl).keep ho.size fun b hB hlt hne => ⟨ho.block b hlt (by omega), hne⟩⟩, h.hrb, h.hcb, h.n2, Nat.le_trans h.hi ho.size⟩
  refine h2.kept (row := some rb) ⟨ho.os, ho.tape, ho.output, ho.size, fun i hi hn => ho.block i hi (fun e => hn (by rw [e]))⟩ ?_
  cases hv : v.ownBlock with
  | none => simp
  | some g =>
    have := (h2.lt g hv).1
    simp; omega
end
theorem RJ.push {w1 : World} {B rb cb : Nat} {a0 a1 a2 a3 a4 a5 : Value} {s : ByteArray} {q : Option Addr} {c : Nat} {ts : List Tok} {k : Nat} {er fr : Int} {acc : List Lp} {w6 w7 : World} {l : Lp} {g cap : Nat} {v : Value}
    (h : RJ w1 B rb cb a0 a1 a2 a3 a4 a5 s q c ts k er fr acc w6) (hv : Bk w6 cb 31 #[a0, a1, a2, a3, a4, a5, v]) (hf : ∀ x ∈ acc, Far w6 B v.ownBlock x) (hr : w6.ownsRow B 28 6 v acc.length (flatE encL acc)) (hl : Far w6 B v.ownBlock l)
    (ho : w7.ownsRow B 28 6 (.slice (some ⟨g, 0, none⟩) (acc.length + 1) cap) (acc.length + 1) (flatE encL acc ++ encL l)) (hg : w6.grownBy w7 v.ownBlock) (hat : v.ownBlock = some g ∨ g = w6.heap.size) :
    RJ w1 B rb cb a0 a1 a2 a3 a4 a5 s q c ts k er fr (acc ++ [l]) (w7.setCell ⟨cb, 6, none⟩ (.slice (some ⟨g, 0, none⟩) (acc.length + 1) cap)) ∧ w7.cell? ⟨cb, 6, none⟩ = some v ∧ w7.frozen? ⟨cb, 6, none⟩ = false := by
  have h1 := h.hcb
  have h4 := h.hrb
  have h6 := h.hi
  have h2 := h.n2
  have hb : Below B w6 w7 := (Below.refl B w6).grown hg h6 (fun k hk => (hr.lt k hk).1)
  have hb7 : Bk w7 cb 31 #[a0, a1, a2, a3, a4, a5, v] := hv.below hb h1
  have hs' : Below (rb + 1) w7 (w7.setCell ⟨cb, 6, none⟩ (.slice (some ⟨g, 0, none⟩) (acc.length + 1) cap)) := setB (by omega) 6 _
  have hs : Below 0 w7 (w7.setCell ⟨cb, 6, none⟩ (.slice (some ⟨g, 0, none⟩) (acc.length + 1) cap)) := setB (Nat.zero_le _) 6 _
  have hkeep : ∀ b, B ≤ b → b < w6.heap.size → v.ownBlock ≠ some b → (w7.setCell ⟨cb, 6, none⟩ (.slice (some ⟨g, 0, none⟩) (acc.length + 1) cap)).heap[b]? = w6.heap[b]? ∧ (Value.slice (some ⟨g, 0, none⟩) (acc.length + 1) cap).ownBlock ≠ some b := by
    intro b hB hlt hne
    refine ⟨(Below.heap_setCell w7 ⟨cb, 6, none⟩ _ b (by show b ≠ cb; omega)).trans (hg.block b hlt (fun e => hne e.symm)), ?_⟩
    show some g ≠ some b
    rcases hat with e | e
    · rw [← e]; exact hne
    · intro e'; injection e' with e'; omega
  refine ⟨⟨⟨(hs.os.trans hb.os).trans h.io.1, (hs.tape.trans hb.tape).trans h.io.2.1, (hs.output.trans hb.output).trans h.io.2.2⟩, fun i hi x y => (Below.heap_setCell w7 ⟨cb, 6, none⟩ _ i (by show i ≠ cb; exact y)).trans ((hb.block i hi).trans (h.old i hi x y)), (h.rr.on' (hb.mono (by omega))).on' hs', ⟨_, hb7.set 6 _, ?_, ?_⟩, h.hrb, h.hcb, h.n2, Nat.le_trans h.hi (Nat.le_trans hb.size hs.size)⟩, hb7.cell 6 _ rfl, hb7.soft 6⟩
  · rw [List.length_append, flatE_snoc]
    exact ownsRow_setCell_below ho (a := ⟨cb, 6, none⟩) h1 _
  · intro x hx
    have hsz : w6.heap.size ≤ (w7.setCell ⟨cb, 6, none⟩ (.slice (some ⟨g, 0, none⟩) (acc.length + 1) cap)).heap.size := Nat.le_trans hb.size hs.size
    rcases List.mem_append.1 hx with hx | hx
    · exact (hf x hx).keep hsz hkeep
    · rw [List.mem_singleton.1 hx]; exact hl.keep hsz hkeep
end Go.Proofs.YtnjdganikeganaaGreatDoor

/-
  The reference's Parse: a literal is read while the clause's block holds those before.
-/
namespace Go.Proofs.YtnjdganikeganaaGreatDoor
open Go.RowKit

section
variable {w1 : World} {B rb cb : Nat} {a0 a1 a2 a3 a4 a5 : Value} {s : ByteArray} {q : Option Addr} {c : Nat} {ts : List Tok} {k : Nat} {fr : Int} {acc : List Lp} {w : World}
theorem RJ.value {k' : Nat} {er fr : Int} (h : RJ w1 B rb cb a0 a1 a2 a3 a4 a5 s q c ts k' er fr acc w) {v : Value} (hb : Bk w cb 31 #[a0, a1, a2, a3, a4, a5, v]) :
    w.ownsRow B 28 6 v acc.length (flatE encL acc) ∧ ∀ l ∈ acc, Far w B v.ownBlock l := by
  obtain ⟨v2, h1, h2, h3⟩ := h.own
  have e2 : v2 = v := by
    have e := h1.cell 6 _ rfl
    rw [hb.cell 6 _ rfl] at e
    injection e with e; exact e.symm
  subst e2
  exact ⟨h2, h3⟩
theorem RJ.lit (h : RJ w1 B rb cb a0 a1 a2 a3 a4 a5 s q c ts k 0 fr acc w) {v : Value} (hv : Bk w cb 31 #[a0, a1, a2, a3, a4, a5, v]) :
    ∀ X, Below w.heap.size w X → Calls Tryz.prog 35 #[.pointer (some ⟨rb, 0, none⟩)] X fun e w' =>
      ∃ l q' c' k' er' fr', e = .returned (.agg #[.int .u8 l.kind, .string l.who.v, .string l.who.s, .int .i64 l.who.n, .string l.pred, .slice q' l.args.length c']) ∧ Hid ((er' = 0 ∧ fr' = fr ∧ litR s ts k = .ok (l, k')) ∨ (er' ≠ 0 ∧ litR s ts k = .error (er', fr'))) ∧ Hid (Far w' B v.ownBlock (l.at q' c')) ∧ Hid (Bk w' cb 31 #[a0, a1, a2, a3, a4, a5, v]) ∧ Hid (w'.ownsRow B 28 6 v acc.length (flatE encL acc)) ∧ Hid (∀ x ∈ acc, Far w' B v.ownBlock x) ∧ Hid (RJ w1 B rb cb a0 a1 a2 a3 a4 a5 s q c ts k' er' fr' acc w') := by
  intro X hX
  have hx := h.on hX
  refine (rliteral_any X rb s q c ts k fr hx.rr).mono fun e w' ⟨l, q', c', he, ht, hf, ho, hst⟩ => ?_
  have hst' : ∃ k' er' fr', Rr w' rb s q c ts k' er' fr' ∧ ((er' = 0 ∧ fr' = fr ∧ litR s ts k = .ok (l, k')) ∨ (er' ≠ 0 ∧ litR s ts k = .error (er', fr'))) := by
    rcases hst with ⟨k', h1, h2⟩ | ⟨k', n, p, h0, h1, h2⟩
    · exact ⟨_, _, _, h2, .inl ⟨rfl, rfl, h1⟩⟩
    · exact ⟨_, _, _, h2, .inr ⟨h0, h1⟩⟩
  obtain ⟨k', er', fr', hr, hd⟩ := hst'
  have hj := hx.step ho hr
  have hb2 := (hv.on hX).only ho (Nat.ne_of_gt h.n2)
  obtain ⟨ho2, hf2⟩ := hj.value hb2
  obtain ⟨ho1, _⟩ := h.value hv
  refine ⟨l, q', c', k', er', fr', he, Lib.hid hd, Lib.hid (Far.of ht fun b hb => ⟨?_, ?_⟩), Lib.hid hb2, Lib.hid ho2, Lib.hid hf2, Lib.hid hj⟩
  · have := hf b hb
    have := hX.size
    have := h.hi
    show B ≤ b.block
    omega
  · intro e
    have h8 := (ho1.lt b.block e).2
    have := hf b hb
    have := hX.size
    omega
end
end Go.Proofs.YtnjdganikeganaaGreatDoor

/-
  Contract: the reference's Parse of a text that is not all tokens.
-/
namespace Go.Proofs.YtnjdganikeganaaGreatDoor
open Go.RowKit

set_option maxHeartbeats 8000000 in
set_option maxRecDepth 100000 in
theorem refParse_lex (s : ByteArray) (w : World) (hm : s.size ≤ 140737488351232) (hx : (allL s.data.toList).err ≠ 0) :
    Calls Tryz.prog 12 #[.string s] w (ParsePost w (parseR s)) := by
  have HB := Lib.hid (below1 w)
  have HO := Lib.hid (show ∀ o, _ from fun o => ropen_any s (w.alloc o) hm)
  have HR := Lib.hid (show parseR s = .error ((allL s.data.toList).err, (allL s.data.toList).pl) by unfold parseR; rw [if_neg hx])
  generalize parseR s = R at *
  generalize (allL s.data.toList).err = er at *
  generalize (allL s.data.toList).toks = ts at *
  generalize (allL s.data.toList).pl = pl at *
  have hx' : (er != 0) = true := by simpa using hx
  go_enter Tryz.func12, Tryz.ntmps12
  go_wp2_with (go_at_call 32; refine (HO.out _).mono ?_; rintro e w1 ⟨rb, q, c, rfl, hge, hlt, hr1, hb1⟩; have HZ1 := Lib.hid ((Bk.new w _ _).on hb1); have HB1 := Lib.hid ((HB.out _).trans (hb1.mono (HB.out _).size)); obtain ⟨z0, z1, z2, z3, z4, z5, z6⟩ := HZ1.out.seven; obtain ⟨t0, t1, t2, t3, t4, t5, t6⟩ := HZ1.out.softs; clear hb1 hr1 hge)
  obtain ⟨q0, q1, q2', q3, q4, q5, q6⟩ := (load7 HZ1.out (.int .u8 0) (.string ⟨#[]⟩) (.string ⟨#[]⟩) (.int .i64 0) (.string ⟨#[]⟩) (.slice none 0 0) (.slice none 0 0)).seven
  refine bodyPost_ret (v := .tuple #[kpZ.agg, .int .i64 pl, .int .i64 er]) ?_ rfl ?_
  · simp [results, Tryz.results12, go_sem, q0, q1, q2', q3, q4, q5, q6, kpZ, lpZ, Kp.agg, tmZ]
  · rw [HR.out]
    exact ⟨rfl, HB1.out.trans (set7 (Nat.le_refl w.heap.size) _ _ _ _ _ _ _)⟩
end Go.Proofs.YtnjdganikeganaaGreatDoor

/-
  Joined of: CpyB, CpyC, Rql, Txt.
-/
import Derived.Test.YtfmkfabbiifolaaGreatDoorJa24
import Derived.Test.YtfmkfabbiifolaaGreatDoorJa25
import Derived.Test.YtfmkfabbiifolaaGreatDoorJa22
import Derived.Test.YtfmkfabbiifolaaGreatDoorJa18
import Derived.Lib.ItoaLen
set_option linter.unusedVariables false
set_option linter.unusedSimpArgs false
/-
  Contract: the reference's CopyLit.
-/
namespace Go.Proofs.YtfmkfabbiifolaaGreatDoor
open Go.RowKit

set_option maxHeartbeats 8000000 in
set_option maxRecDepth 100000 in
theorem copyLit_any (l : Lp) (w : World) (h : Tms w w.heap.size l.ptr l.args) (hl : l.args.length * 40 ≤ 140737488355328) :
    Calls Tryz.prog 31 #[l.agg] w fun e w' => ∃ q c, e = .returned (l.q.at q c).agg ∧ Tms w' w'.heap.size q l.args ∧ (∀ b, q = some b → w.heap.size ≤ b.block) ∧ Below w.heap.size w w' := by
  obtain ⟨i0, hii, hz0, hz1, hzb⟩ := info_parts infoTerm
  obtain ⟨kd, ⟨v, s, n⟩, p, q, c, xs⟩ := l
  simp only [Lp.agg, Lp.q, Lq.at] at h hl ⊢
  have HR := Lib.hid h
  have HL := Lib.hid hl
  have HM := Lib.hid (show xs.length ≤ maxLen from Nat.le_trans (Nat.le_trans (by omega) hl) (by decide))
  have HX := Lib.hid (show Bk (((w.alloc (.cells #[.int .u8 kd, .string v, .string s, .int .i64 n, .string p, .slice q xs.length c] 28)).alloc (.cells #[.int .u8 0, .string ⟨#[]⟩, .string ⟨#[]⟩, .int .i64 0, .string ⟨#[]⟩, .slice none 0 0] 28)).alloc (.cells #[] 25)) w.heap.size _ _ from (Bk.new1 w _ _ _).on (below1 _ _))
  have HZ := Lib.hid (show Bk (((w.alloc (.cells #[.int .u8 kd, .string v, .string s, .int .i64 n, .string p, .slice q xs.length c] 28)).alloc (.cells #[.int .u8 0, .string ⟨#[]⟩, .string ⟨#[]⟩, .int .i64 0, .string ⟨#[]⟩, .slice none 0 0] 28)).alloc (.cells #[] 25)) (w.heap.size + 1) _ _ from (Bk.new2 w _ _ _).on (below1 _ _))
  have HB3 := Lib.hid (below3 w (.cells #[.int .u8 kd, .string v, .string s, .int .i64 n, .string p, .slice q xs.length c] 28) (.cells #[.int .u8 0, .string ⟨#[]⟩, .string ⟨#[]⟩, .int .i64 0, .string ⟨#[]⟩, .slice none 0 0] 28) (.cells #[] 25))
  have HG := Lib.hid (grw_made (w := ((w.alloc (.cells #[.int .u8 kd, .string v, .string s, .int .i64 n, .string p, .slice q xs.length c] 28)).alloc (.cells #[.int .u8 0, .string ⟨#[]⟩, .string ⟨#[]⟩, .int .i64 0, .string ⟨#[]⟩, .slice none 0 0] 28))) (base := w.heap.size + 2) (E := 25) (k := 3) (by simp))
  obtain ⟨x0, x1, x2, x3, x4, x5⟩ := HX.out.six
  have hsz : (((w.alloc (.cells #[.int .u8 kd, .string v, .string s, .int .i64 n, .string p, .slice q xs.length c] 28)).alloc (.cells #[.int .u8 0, .string ⟨#[]⟩, .string ⟨#[]⟩, .int .i64 0, .string ⟨#[]⟩, .slice none 0 0] 28)).alloc (.cells #[] 25)).heap.size = w.heap.size + 3 := by simp
  have HS3 := Lib.hid hsz
  clear h hl hsz
  go_enter Tryz.func31, Tryz.ntmps31
  go_wp2_with (at_builtin; refine wpList_copyE EM rfl _ _ 26 rfl (w.heap.size + 2) 25 i0 _ 40 underTs hii hz0 hz1 hzb rfl _ 0 rfl (by simpa using HG.out) _ xs c rfl (HR.out.below HB3.out (Nat.le_refl _)) HM.out HL.out (by rw [HS3.out]; omega) ?_; intro p' cap w1 h1 h2 h3 h4; have H1 := Lib.hid h1; have H2 := Lib.hid h2; have H3 := Lib.hid h3; have H4 := Lib.hid h4; have HX1 := Lib.hid (HX.out.below h4 (by omega)); have HZ1 := Lib.hid (HZ.out.below h4 (by omega)); obtain ⟨f0, f1, f2, f3, f4, f5, f6⟩ := HX1.out.softs; obtain ⟨u0, u1, u2, u3, u4, u5⟩ := HX1.out.six; obtain ⟨t0, t1, t2, t3, t4, t5⟩ := HZ1.out.six; obtain ⟨g0, g1, g2, g3, g4, g5, g6⟩ := HZ1.out.softs; obtain ⟨y0, y1, y2, y3, y4, y5⟩ := (HX1.out.set 5 (.slice p' xs.length cap)).six; have HZ2 := Lib.hid (HZ1.out.other (b' := w.heap.size) (by omega) 5 (.slice p' xs.length cap)); obtain ⟨r0, r1, r2, r3, r4, r5⟩ := HZ2.out.six; obtain ⟨z0, z1, z2, z3, z4, z5, z6⟩ := HZ2.out.softs; clear h1 h2 h3 h4)
  have hf : ∀ b, p' = some b → w.heap.size + 2 ≤ b.block := by
    intro b hb
    rcases Nat.eq_zero_or_pos xs.length with h0 | h0
    · rw [(H3.out (List.length_eq_zero_iff.1 h0)).1] at hb; cases hb; exact Nat.le_refl _
    · rcases H1.out with h1 | h1
      · obtain ⟨g, cap2, he, hge, _⟩ := h1.form h0
        injection he with he _ _
        rw [he] at hb; cases hb; exact hge
      · rw [h1] at h0; simp at h0
  obtain ⟨q0, q1, q2, q3, q4, q5⟩ := (load6 HZ2.out (.int .u8 kd) (.string v) (.string s) (.int .i64 n) (.string p) (.slice p' xs.length cap)).six
  refine bodyPost_ret (v := .agg #[.int .u8 kd, .string v, .string s, .int .i64 n, .string p, .slice p' xs.length cap]) ?_ rfl ?_
  · simp [results, Tryz.results31, go_sem, q0, q1, q2, q3, q4, q5]
  · exact ⟨p', cap, rfl, (((Above.refl (w.heap.size + 2) w1).set (b := w.heap.size) (by omega) 5 _).set6 (b := w.heap.size + 1) (by omega) _ _ _ _ _ _).rd H2.out hf ((setB (B := 0) (Nat.zero_le _) 5 _).trans (set6 (Nat.zero_le _) _ _ _ _ _ _)).size, fun b hb => Nat.le_trans (by omega) (hf b hb), ((HB3.out.trans (H4.out.mono (by omega))).trans (setB (Nat.le_refl _) 5 _)).trans (set6 (by omega) _ _ _ _ _ _)⟩
end Go.Proofs.YtfmkfabbiifolaaGreatDoor

/-
  Contract: the reference's Same.
-/
namespace Go.Proofs.YtfmkfabbiifolaaGreatDoor
open Go.RowKit

def sameK (a b : Kp) : Bool := sameL a.head b.head && (decide (a.body.length = b.body.length) && (List.zip a.body b.body).all fun p => sameL p.1 p.2)
theorem zipL_eq : ∀ (l m : List Lp), l.length = m.length → (((List.zip l m).all fun p => sameL p.1 p.2) = true ↔ l.map Lp.q = m.map Lp.q)
  | [], [], _ => by simp
  | a :: l, b :: m, h => by
    have := zipL_eq l m (by simpa using h)
    simp only [List.zip_cons_cons, List.all_cons, Bool.and_eq_true, sameL_iff, this, List.map_cons, List.cons.injEq]
  | [], b :: m, h => by simp at h
  | a :: l, [], h => by simp at h
theorem sameK_iff {a b : Kp} : sameK a b = true ↔ a.q = b.q := by
  unfold sameK Kp.q
  simp only [Bool.and_eq_true, sameL_iff, decide_eq_true_eq, Cq.mk.injEq]
  constructor
  · rintro ⟨h1, h2, h3⟩; exact ⟨h1, (zipL_eq _ _ h2).1 h3⟩
  · rintro ⟨h1, h2⟩
    have h3 : a.body.length = b.body.length := by simpa using congrArg List.length h2
    exact ⟨h1, h3, (zipL_eq _ _ h3).2 h2⟩

set_option maxHeartbeats 8000000 in
set_option maxRecDepth 100000 in
theorem same_any (a b : Kp) (w : World) (ha : ClMem w a) (hb : ClMem w b) (hla : a.head.args.length ≤ 9223372036854775807) (hlc : a.body.length ≤ 9223372036854775807) (hlb : ∀ l ∈ a.body, l.args.length ≤ 9223372036854775807) :
    Calls Tryz.prog 26 #[a.agg, b.agg] w fun e w' => e = .returned (.bool (sameK a b)) ∧ Below w.heap.size w w' := by
  have HB := Lib.hid (below2 w)
  have HA := Lib.hid ha.body
  have HC := Lib.hid hb.body
  have HS := Lib.hid (show sameK a b = (sameL a.head b.head && (decide (a.body.length = b.body.length) && (List.zip a.body b.body).all fun p => sameL p.1 p.2)) from rfl)
  have HH := Lib.hid (show ∀ wx, Below w.heap.size w wx → Calls Tryz.prog 27 #[.agg #[.int .u8 a.head.kind, .string a.head.who.v, .string a.head.who.s, .int .i64 a.head.who.n, .string a.head.pred, .slice a.head.ptr a.head.args.length a.head.cap], .agg #[.int .u8 b.head.kind, .string b.head.who.v, .string b.head.who.s, .int .i64 b.head.who.n, .string b.head.pred, .slice b.head.ptr b.head.args.length b.head.cap]] wx fun e w' => e = .returned (.bool (sameL a.head b.head)) ∧ Below wx.heap.size wx w' from fun wx hx => sameLit_any a.head b.head wx (ha.head.grow hx) (hb.head.grow hx) hla)
  have HE := Lib.hid (show ∀ la ∈ a.body, ∀ lb ∈ b.body, ∀ wx, Below w.heap.size w wx → Calls Tryz.prog 27 #[.agg #[.int .u8 la.kind, .string la.who.v, .string la.who.s, .int .i64 la.who.n, .string la.pred, .slice la.ptr la.args.length la.cap], .agg #[.int .u8 lb.kind, .string lb.who.v, .string lb.who.s, .int .i64 lb.who.n, .string lb.pred, .slice lb.ptr lb.args.length lb.cap]] wx fun e w' => e = .returned (.bool (sameL la lb)) ∧ Below wx.heap.size wx w' from fun la h1 lb h2 wx hx => sameLit_any la lb wx ((ha.each la h1).grow hx) ((hb.each lb h2).grow hx) (hlb la h1))
  generalize sameK a b = R at *
  generalize sameL a.head b.head = r0 at *
  obtain ⟨⟨kd, ⟨v, s, n⟩, p, q, c, xs⟩, bp, bc, bs⟩ := a
  obtain ⟨⟨kd2, ⟨v2, s2, n2⟩, p2, q2, c2, xs2⟩, bp2, bc2, bs2⟩ := b
  unfold Kp.agg
  simp only at HA HC HS HH HE hlc ⊢
  clear ha hb hla hlb
  cases r0 with
  | false =>
    go_enter Tryz.func26, Tryz.ntmps26
    go_wp2_with (go_at_call 27; refine (HH.out _ (HB.out _ _)).mono ?_; rintro e w1 ⟨rfl, hb1⟩; have HB1 := Lib.hid ((HB.out _ _).trans (hb1.mono (HB.out _ _).size)); clear hb1)
    go_ret
    exact ⟨by rw [HS.out]; rfl, HB1.out⟩
  | true =>
  by_cases h6 : bs.length = bs2.length
  · have h6' : ((bs.length : Int) == (bs2.length : Int)) = true := by simp [h6]
    have h6'' : ((bs.length : Int) != (bs2.length : Int)) = false := by simp [h6]
    have HD := Lib.hid (show decide (bs.length = bs2.length) = true by simp [h6])
    go_enter Tryz.func26, Tryz.ntmps26
    go_wp2_with (go_at_call 27; refine (HH.out _ (HB.out _ _)).mono ?_; rintro e w1 ⟨rfl, hb1⟩; have HB1 := Lib.hid ((HB.out _ _).trans (hb1.mono (HB.out _ _).size)); have HX1 := Lib.hid ((Bk.new1 w _ _ _).on hb1); have HY1 := Lib.hid ((Bk.new2 w _ _ _).on hb1); have e5 := HX1.out.cell 6 _ rfl; have g5 := HY1.out.cell 6 _ rfl; clear hb1)
    clear e5 g5
    go_loopw [5] (fun i wr => ∃ j : Nat, j ≤ bs.length ∧ i = .int .i64 j ∧ Hid ((List.zip bs bs2).all (fun p => sameL p.1 p.2) = ((List.zip bs bs2).drop j).all fun p => sameL p.1 p.2) ∧ Hid (Bk wr w.heap.size 31 #[.int .u8 kd, .string v, .string s, .int .i64 n, .string p, .slice q xs.length c, .slice bp bs2.length bc]) ∧ Hid (Bk wr (w.heap.size + 1) 31 #[.int .u8 kd2, .string v2, .string s2, .int .i64 n2, .string p2, .slice q2 xs2.length c2, .slice bp2 bs2.length bc2]) ∧ Below w.heap.size w wr) (fun i _ => bs.length - (intOf i).toNat)
    case atStart => exact ⟨0, Nat.zero_le _, rfl, Lib.hid rfl, HX1, HY1, HB1.out⟩
    case round =>
      obtain ⟨j, hj, rfl, HZ, HX, HY, hbw⟩ := hrel
      have HBW := Lib.hid hbw
      have e5 := HX.out.cell 6 _ rfl
      have g5 := HY.out.cell 6 _ rfl
      clear hbw
      have hzl : (List.zip bs bs2).length = bs.length := by rw [List.length_zip]; omega
      by_cases hlt : j < bs.length
      · have hlt2 : j < bs2.length := by omega
        obtain ⟨b, o, rfl, hbb, x0, x1, x2, x3, x4, x5⟩ := rdL_at (HA.out.below HBW.out (Nat.le_refl _)) j hlt
        obtain ⟨b2, o2, rfl, hbb2, y0, y1, y2, y3, y4, y5⟩ := rdL_at (HC.out.below HBW.out (Nat.le_refl _)) j hlt2
        have HST := Lib.hid (show ((List.zip bs bs2).drop j).all (fun p => sameL p.1 p.2) = (sameL bs[j] bs2[j] && ((List.zip bs bs2).drop (j + 1)).all fun p => sameL p.1 p.2) by
          rw [all_step _ _ j (by omega)]
          simp only [List.getElem_zip])
        have HE0 := Lib.hid (HE.out bs[j] (List.getElem_mem hlt) bs2[j] (List.getElem_mem hlt2))
        have HE1 := Lib.hid (show ∀ X, Below wr.heap.size wr X → Calls Tryz.prog 27 #[.agg #[.int .u8 bs[j].kind, .string bs[j].who.v, .string bs[j].who.s, .int .i64 bs[j].who.n, .string bs[j].pred, .slice bs[j].ptr bs[j].args.length bs[j].cap], .agg #[.int .u8 bs2[j].kind, .string bs2[j].who.v, .string bs2[j].who.s, .int .i64 bs2[j].who.n, .string bs2[j].pred, .slice bs2[j].ptr bs2[j].args.length bs2[j].cap]] X fun e w' => e = .returned (.bool (sameL bs[j] bs2[j])) ∧ Below wr.heap.size wr w' from fun X hX => (HE0.out X (HBW.out.trans (hX.mono HBW.out.size))).mono fun e w' ⟨h1, h2⟩ => ⟨h1, hX.trans (h2.mono hX.size)⟩)
        have hj0 : (0 : Int) ≤ (j : Int) := by omega
        have hj1 : (j : Int) < (bs.length : Int) := by omega
        have hj2 : (j : Int) < (bs2.length : Int) := by omega
        have hbb := Nat.lt_of_lt_of_le hbb HBW.out.size
        have hbb2 := Nat.lt_of_lt_of_le hbb2 HBW.out.size
        clear HE0
        generalize sameL bs[j] bs2[j] = r1 at *
        generalize bs[j] = la at *
        generalize bs2[j] = lb at *
        have HSS := Lib.hid (show ∀ X, Below wr.heap.size wr X → X.cell? ⟨w.heap.size, 6, none⟩ = some (.slice (some ⟨b, o, none⟩) bs2.length bc) ∧ X.cell? ⟨w.heap.size + 1, 6, none⟩ = some (.slice (some ⟨b2, o2, none⟩) bs2.length bc2) ∧ X.cell? ⟨b, o + j * 6, none⟩ = some (.int .u8 la.kind) ∧ X.cell? ⟨b, o + j * 6 + 1, none⟩ = some (.string la.who.v) ∧ X.cell? ⟨b, o + j * 6 + 2, none⟩ = some (.string la.who.s) ∧ X.cell? ⟨b, o + j * 6 + 3, none⟩ = some (.int .i64 la.who.n) ∧ X.cell? ⟨b, o + j * 6 + 4, none⟩ = some (.string la.pred) ∧ X.cell? ⟨b, o + j * 6 + 5, none⟩ = some (.slice la.ptr la.args.length la.cap) ∧ X.cell? ⟨b2, o2 + j * 6, none⟩ = some (.int .u8 lb.kind) ∧ X.cell? ⟨b2, o2 + j * 6 + 1, none⟩ = some (.string lb.who.v) ∧ X.cell? ⟨b2, o2 + j * 6 + 2, none⟩ = some (.string lb.who.s) ∧ X.cell? ⟨b2, o2 + j * 6 + 3, none⟩ = some (.int .i64 lb.who.n) ∧ X.cell? ⟨b2, o2 + j * 6 + 4, none⟩ = some (.string lb.pred) ∧ X.cell? ⟨b2, o2 + j * 6 + 5, none⟩ = some (.slice lb.ptr lb.args.length lb.cap) ∧ Hid (Below wr.heap.size wr X) from fun X hX => ⟨(hX.cell (p := ⟨w.heap.size, 6, none⟩) HX.out.lt).trans e5, (hX.cell (p := ⟨w.heap.size + 1, 6, none⟩) HY.out.lt).trans g5, (hX.cell (p := ⟨b, o + j * 6, none⟩) hbb).trans x0, (hX.cell (p := ⟨b, o + j * 6 + 1, none⟩) hbb).trans x1, (hX.cell (p := ⟨b, o + j * 6 + 2, none⟩) hbb).trans x2, (hX.cell (p := ⟨b, o + j * 6 + 3, none⟩) hbb).trans x3, (hX.cell (p := ⟨b, o + j * 6 + 4, none⟩) hbb).trans x4, (hX.cell (p := ⟨b, o + j * 6 + 5, none⟩) hbb).trans x5, (hX.cell (p := ⟨b2, o2 + j * 6, none⟩) hbb2).trans y0, (hX.cell (p := ⟨b2, o2 + j * 6 + 1, none⟩) hbb2).trans y1, (hX.cell (p := ⟨b2, o2 + j * 6 + 2, none⟩) hbb2).trans y2, (hX.cell (p := ⟨b2, o2 + j * 6 + 3, none⟩) hbb2).trans y3, (hX.cell (p := ⟨b2, o2 + j * 6 + 4, none⟩) hbb2).trans y4, (hX.cell (p := ⟨b2, o2 + j * 6 + 5, none⟩) hbb2).trans y5, Lib.hid hX⟩)
        have HDB := Lib.hid (show Below wr.heap.size wr wr.drew from (Below.refl _ _).drew)
        have hI := Lib.hid (Below.refl wr.heap.size wr)
        have HDR := Lib.hid (HSS.out _ HDB.out)
        cases r1 with
        | false =>
          go_wp2_with fail
          go_region_held3 (fun X => X.cell? ⟨w.heap.size, 6, none⟩ = some (.slice (some ⟨b, o, none⟩) bs2.length bc) ∧ X.cell? ⟨w.heap.size + 1, 6, none⟩ = some (.slice (some ⟨b2, o2, none⟩) bs2.length bc2) ∧ X.cell? ⟨b, o + j * 6, none⟩ = some (.int .u8 la.kind) ∧ X.cell? ⟨b, o + j * 6 + 1, none⟩ = some (.string la.who.v) ∧ X.cell? ⟨b, o + j * 6 + 2, none⟩ = some (.string la.who.s) ∧ X.cell? ⟨b, o + j * 6 + 3, none⟩ = some (.int .i64 la.who.n) ∧ X.cell? ⟨b, o + j * 6 + 4, none⟩ = some (.string la.pred) ∧ X.cell? ⟨b, o + j * 6 + 5, none⟩ = some (.slice la.ptr la.args.length la.cap) ∧ X.cell? ⟨b2, o2 + j * 6, none⟩ = some (.int .u8 lb.kind) ∧ X.cell? ⟨b2, o2 + j * 6 + 1, none⟩ = some (.string lb.who.v) ∧ X.cell? ⟨b2, o2 + j * 6 + 2, none⟩ = some (.string lb.who.s) ∧ X.cell? ⟨b2, o2 + j * 6 + 3, none⟩ = some (.int .i64 lb.who.n) ∧ X.cell? ⟨b2, o2 + j * 6 + 4, none⟩ = some (.string lb.pred) ∧ X.cell? ⟨b2, o2 + j * 6 + 5, none⟩ = some (.slice lb.ptr lb.args.length lb.cap) ∧ Hid (Below wr.heap.size wr X))
            (first
              | (exact HSS.out _ (Hid.out hI))
              | (exact HDR.out)
              | go_keep)
            (first
              | (go_at_call 27; refine (HE1.out _ (by first | exact Hid.out hI | exact HDB.out)).mono ?_; rintro e wn ⟨rfl, hI'⟩; have hI := Lib.hid hI'; clear hI'))
          all_goals
            go_wp2_with fail
            go_ret
            exact ⟨by rw [HS.out, HD.out, HZ.out, HST.out]; rfl, HBW.out.trans ((Hid.out hI).mono HBW.out.size)⟩
        | true =>
          go_wp2_with fail
          go_region_held3 (fun X => X.cell? ⟨w.heap.size, 6, none⟩ = some (.slice (some ⟨b, o, none⟩) bs2.length bc) ∧ X.cell? ⟨w.heap.size + 1, 6, none⟩ = some (.slice (some ⟨b2, o2, none⟩) bs2.length bc2) ∧ X.cell? ⟨b, o + j * 6, none⟩ = some (.int .u8 la.kind) ∧ X.cell? ⟨b, o + j * 6 + 1, none⟩ = some (.string la.who.v) ∧ X.cell? ⟨b, o + j * 6 + 2, none⟩ = some (.string la.who.s) ∧ X.cell? ⟨b, o + j * 6 + 3, none⟩ = some (.int .i64 la.who.n) ∧ X.cell? ⟨b, o + j * 6 + 4, none⟩ = some (.string la.pred) ∧ X.cell? ⟨b, o + j * 6 + 5, none⟩ = some (.slice la.ptr la.args.length la.cap) ∧ X.cell? ⟨b2, o2 + j * 6, none⟩ = some (.int .u8 lb.kind) ∧ X.cell? ⟨b2, o2 + j * 6 + 1, none⟩ = some (.string lb.who.v) ∧ X.cell? ⟨b2, o2 + j * 6 + 2, none⟩ = some (.string lb.who.s) ∧ X.cell? ⟨b2, o2 + j * 6 + 3, none⟩ = some (.int .i64 lb.who.n) ∧ X.cell? ⟨b2, o2 + j * 6 + 4, none⟩ = some (.string lb.pred) ∧ X.cell? ⟨b2, o2 + j * 6 + 5, none⟩ = some (.slice lb.ptr lb.args.length lb.cap) ∧ Hid (Below wr.heap.size wr X))
            (first
              | (exact HSS.out _ (Hid.out hI))
              | (exact HDR.out)
              | go_keep)
            (first
              | (go_at_call 27; refine (HE1.out _ (by first | exact Hid.out hI | exact HDB.out)).mono ?_; rintro e wn ⟨rfl, hI'⟩; have hI := Lib.hid hI'; clear hI'))
          all_goals
            go_wp2_with fail
            go_roundw
            case rel => exact ⟨j + 1, by omega, by go_num, Lib.hid (by rw [HZ.out, HST.out]; rfl), Lib.hid (HX.out.on (Hid.out hI)), Lib.hid (HY.out.on (Hid.out hI)), HBW.out.trans ((Hid.out hI).mono HBW.out.size)⟩
            case measure => simp [intOf]; omega
      · have HED := Lib.hid (all_end (fun p : Lp × Lp => sameL p.1 p.2) (List.zip bs bs2) j (by omega))
        go_wp2_with fail
        go_ret
        exact ⟨by rw [HS.out, HD.out, HZ.out, HED.out]; rfl, HBW.out⟩
  · have h6' : ((bs.length : Int) == (bs2.length : Int)) = false := by simp; omega
    have h6'' : ((bs.length : Int) != (bs2.length : Int)) = true := by simp; omega
    have HD := Lib.hid (show decide (bs.length = bs2.length) = false by simp [h6])
    go_enter Tryz.func26, Tryz.ntmps26
    go_wp2_with (go_at_call 27; refine (HH.out _ (HB.out _ _)).mono ?_; rintro e w1 ⟨rfl, hb1⟩; have HB1 := Lib.hid ((HB.out _ _).trans (hb1.mono (HB.out _ _).size)); have HX1 := Lib.hid ((Bk.new1 w _ _ _).on hb1); have HY1 := Lib.hid ((Bk.new2 w _ _ _).on hb1); have e5 := HX1.out.cell 6 _ rfl; have g5 := HY1.out.cell 6 _ rfl; clear hb1)
    go_ret
    exact ⟨by rw [HS.out, HD.out]; rfl, HB1.out⟩
end Go.Proofs.YtfmkfabbiifolaaGreatDoor

/-
  Contract: the reference's Same of two requests that are alike. (Made by tools/mk_rql.py.)
-/
set_option linter.unusedVariables false
set_option linter.unusedSimpArgs false
namespace Go.Proofs.YtfmkfabbiifolaaGreatDoor
open Go.RowKit

set_option maxHeartbeats 8000000 in
set_option maxRecDepth 100000 in
theorem samereq_any (kd : Int) (lb : ByteArray) (lf no : Int) (a b : Kp) (x y : Lp) (w : World) (ha : ClMem w a) (hb : ClMem w b) (hx : Tms w w.heap.size x.ptr x.args) (hy : Tms w w.heap.size y.ptr y.args) (ea : a.q = b.q) (ex : x.q = y.q)
    (hla : a.head.args.length ≤ 9223372036854775807) (hlc : a.body.length ≤ 9223372036854775807) (hlb : ∀ l ∈ a.body, l.args.length ≤ 9223372036854775807) (hlx : x.args.length ≤ 9223372036854775807) :
    Calls Tryz.prog 10 #[.agg (rqC kd lb lf a no x), .agg (rqC kd lb lf b no y)] w fun e w' => e = .returned (.bool true) ∧ Below w.heap.size w w' := by
  have HB := Lib.hid (below2 w)
  have HSK := Lib.hid (fun X (hX : Below w.heap.size w X) => sameK_iff.2 ea ▸ same_any a b X (ha.on hX) (hb.on hX) hla hlc hlb)
  have HSL := Lib.hid (fun X (hX : Below w.heap.size w X) => sameL_iff.2 ex ▸ sameLit_any x y X (hx.grow hX) (hy.grow hX) hlx)
  unfold Kp.agg at HSK
  unfold Lp.agg at HSL
  clear ha hb hx hy ea ex hla hlc hlb hlx
  unfold rqC
  go_enter Tryz.func10, Tryz.ntmps10
  go_upto_region 1 with fail
  have HX := Lib.hid ((Bk.new w 33 #[.int .u8 kd, .string lb, .int .i64 lf, .int .u8 a.head.kind, .string a.head.who.v, .string a.head.who.s, .int .i64 a.head.who.n, .string a.head.pred, .slice a.head.ptr a.head.args.length a.head.cap, .slice a.ptr a.body.length a.cap, .int .i64 no, .int .u8 x.kind, .string x.who.v, .string x.who.s, .int .i64 x.who.n, .string x.pred, .slice x.ptr x.args.length x.cap]).on (below1 _ (.cells #[.int .u8 kd, .string lb, .int .i64 lf, .int .u8 b.head.kind, .string b.head.who.v, .string b.head.who.s, .int .i64 b.head.who.n, .string b.head.pred, .slice b.head.ptr b.head.args.length b.head.cap, .slice b.ptr b.body.length b.cap, .int .i64 no, .int .u8 y.kind, .string y.who.v, .string y.who.s, .int .i64 y.who.n, .string y.pred, .slice y.ptr y.args.length y.cap] 33)))
  have HY := Lib.hid (show Bk ((w.alloc (.cells #[.int .u8 kd, .string lb, .int .i64 lf, .int .u8 a.head.kind, .string a.head.who.v, .string a.head.who.s, .int .i64 a.head.who.n, .string a.head.pred, .slice a.head.ptr a.head.args.length a.head.cap, .slice a.ptr a.body.length a.cap, .int .i64 no, .int .u8 x.kind, .string x.who.v, .string x.who.s, .int .i64 x.who.n, .string x.pred, .slice x.ptr x.args.length x.cap] 33)).alloc (.cells #[.int .u8 kd, .string lb, .int .i64 lf, .int .u8 b.head.kind, .string b.head.who.v, .string b.head.who.s, .int .i64 b.head.who.n, .string b.head.pred, .slice b.head.ptr b.head.args.length b.head.cap, .slice b.ptr b.body.length b.cap, .int .i64 no, .int .u8 y.kind, .string y.who.v, .string y.who.s, .int .i64 y.who.n, .string y.pred, .slice y.ptr y.args.length y.cap] 33)) (w.heap.size + 1) 33 #[.int .u8 kd, .string lb, .int .i64 lf, .int .u8 b.head.kind, .string b.head.who.v, .string b.head.who.s, .int .i64 b.head.who.n, .string b.head.pred, .slice b.head.ptr b.head.args.length b.head.cap, .slice b.ptr b.body.length b.cap, .int .i64 no, .int .u8 y.kind, .string y.who.v, .string y.who.s, .int .i64 y.who.n, .string y.pred, .slice y.ptr y.args.length y.cap] from (by simpa using Bk.new (w.alloc (.cells #[.int .u8 kd, .string lb, .int .i64 lf, .int .u8 a.head.kind, .string a.head.who.v, .string a.head.who.s, .int .i64 a.head.who.n, .string a.head.pred, .slice a.head.ptr a.head.args.length a.head.cap, .slice a.ptr a.body.length a.cap, .int .i64 no, .int .u8 x.kind, .string x.who.v, .string x.who.s, .int .i64 x.who.n, .string x.pred, .slice x.ptr x.args.length x.cap] 33)) 33 #[.int .u8 kd, .string lb, .int .i64 lf, .int .u8 b.head.kind, .string b.head.who.v, .string b.head.who.s, .int .i64 b.head.who.n, .string b.head.pred, .slice b.head.ptr b.head.args.length b.head.cap, .slice b.ptr b.body.length b.cap, .int .i64 no, .int .u8 y.kind, .string y.who.v, .string y.who.s, .int .i64 y.who.n, .string y.pred, .slice y.ptr y.args.length y.cap]))
  have HW := Lib.hid (HB.out (.cells #[.int .u8 kd, .string lb, .int .i64 lf, .int .u8 a.head.kind, .string a.head.who.v, .string a.head.who.s, .int .i64 a.head.who.n, .string a.head.pred, .slice a.head.ptr a.head.args.length a.head.cap, .slice a.ptr a.body.length a.cap, .int .i64 no, .int .u8 x.kind, .string x.who.v, .string x.who.s, .int .i64 x.who.n, .string x.pred, .slice x.ptr x.args.length x.cap] 33) (.cells #[.int .u8 kd, .string lb, .int .i64 lf, .int .u8 b.head.kind, .string b.head.who.v, .string b.head.who.s, .int .i64 b.head.who.n, .string b.head.pred, .slice b.head.ptr b.head.args.length b.head.cap, .slice b.ptr b.body.length b.cap, .int .i64 no, .int .u8 y.kind, .string y.who.v, .string y.who.s, .int .i64 y.who.n, .string y.pred, .slice y.ptr y.args.length y.cap] 33))
  generalize (w.alloc (.cells #[.int .u8 kd, .string lb, .int .i64 lf, .int .u8 a.head.kind, .string a.head.who.v, .string a.head.who.s, .int .i64 a.head.who.n, .string a.head.pred, .slice a.head.ptr a.head.args.length a.head.cap, .slice a.ptr a.body.length a.cap, .int .i64 no, .int .u8 x.kind, .string x.who.v, .string x.who.s, .int .i64 x.who.n, .string x.pred, .slice x.ptr x.args.length x.cap] 33)).alloc (.cells #[.int .u8 kd, .string lb, .int .i64 lf, .int .u8 b.head.kind, .string b.head.who.v, .string b.head.who.s, .int .i64 b.head.who.n, .string b.head.pred, .slice b.head.ptr b.head.args.length b.head.cap, .slice b.ptr b.body.length b.cap, .int .i64 no, .int .u8 y.kind, .string y.who.v, .string y.who.s, .int .i64 y.who.n, .string y.pred, .slice y.ptr y.args.length y.cap] 33) = W2 at *
  clear HB
  obtain ⟨m0, m1, m2, m3, m4, m5, m6, m7, m8, m9, m10, m11, m12, m13, m14, m15, m16⟩ := HX.out.cells17
  obtain ⟨n0, n1, n2, n3, n4, n5, n6, n7, n8, n9, n10, n11, n12, n13, n14, n15, n16⟩ := HY.out.cells17
  go_wp2_with (first
    | (go_at_call 27; refine (HSL.out _ HW3.out).mono ?_; rintro e w4 ⟨rfl, hb4⟩; have HW4 := Lib.hid (HW3.out.trans (hb4.mono HW3.out.size)); clear hb4)
    | (go_at_call 26; refine (HSK.out _ HW.out).mono ?_; rintro e w3 ⟨rfl, hb3⟩; have HW3 := Lib.hid (HW.out.trans (hb3.mono HW.out.size)); obtain ⟨g0, g1, g2, g3, g4, g5, g6, g7, g8, g9, g10, g11, g12, g13, g14, g15, g16⟩ := (HX.out.on hb3).cells17; obtain ⟨h0, h1, h2, h3, h4, h5, h6, h7, h8, h9, h10, h11, h12, h13, h14, h15, h16⟩ := (HY.out.on hb3).cells17; clear hb3))
  go_ret
  exact ⟨rfl, HW4.out⟩
end Go.Proofs.YtfmkfabbiifolaaGreatDoor

/-
  Contracts: value.Text, clause.termText; how long the texts of terms are.
-/
namespace Go.Proofs.YtfmkfabbiifolaaGreatDoor
open Go.RowKit

set_option maxHeartbeats 1000000 in
theorem text_any (s : ByteArray) (n : Int) (w : World) (hs : s.size ≤ maxLen) (h0 : -9223372036854775808 ≤ n) (h1 : n ≤ 9223372036854775807) (he : Env w) :
    Calls Tryz.prog 140 #[.agg #[.string s, .int .i64 n]] w fun e w' => e = .returned (.tuple #[.string (textS s n), .bool (goodB s n)]) ∧ Below w.heap.size w w' := by
  have HE := Lib.hid he
  have HG := Lib.hid (fun wx => good_any s n wx hs)
  have HF := Lib.hid (fun wx hx => formatInt_any n wx h0 h1 hx)
  have HB := Lib.hid (below1 w)
  clear he
  cases hg : goodB s n with
  | true =>
    rw [hg] at HG
    cases h2 : s.toList.isEmpty with
    | true =>
      have H := Lib.hid (show textS s n = itoaS n by simp [textS, hg, h2])
      go_enter Tryz.func140, Tryz.ntmps140
      go_wp2_with (first
        | (go_at_call 143; refine (HG.out _).mono ?_; rintro e w1 ⟨rfl, hb1⟩; have e0 := box_cell hb1 0 _ rfl; have e1 := box_cell hb1 1 _ rfl; have HB1 := Lib.hid ((HB.out _).trans (hb1.mono (HB.out _).size)); clear hb1)
        | (go_at_call 96; refine (HF.out _ (HE.out.on HB1.out)).mono ?_; rintro e w2 ⟨rfl, hb2⟩))
      go_ret2
      exact ⟨by rw [H.out]; rfl, HB1.out.trans (hb2.mono HB1.out.size)⟩
    | false =>
      have H := Lib.hid (show textS s n = s by simp [textS, hg, h2])
      go_enter Tryz.func140, Tryz.ntmps140
      go_wp2_with (first
        | (go_at_call 143; refine (HG.out _).mono ?_; rintro e w1 ⟨rfl, hb1⟩; have e0 := box_cell hb1 0 _ rfl; have e1 := box_cell hb1 1 _ rfl; have HB1 := Lib.hid ((HB.out _).trans (hb1.mono (HB.out _).size)); clear hb1))
      go_ret2
      exact ⟨by rw [H.out]; rfl, HB1.out⟩
  | false =>
    rw [hg] at HG
    have H := Lib.hid (show textS s n = ⟨#[]⟩ by simp [textS, hg])
    go_enter Tryz.func140, Tryz.ntmps140
    go_wp2_with (go_at_call 143; refine (HG.out _).mono ?_; rintro e w1 ⟨rfl, hb1⟩; have HB1 := Lib.hid ((HB.out _).trans (hb1.mono (HB.out _).size)); clear hb1)
    go_ret2
    exact ⟨by rw [H.out]; rfl, HB1.out⟩

/-- a term's number can be one -/
def Tm.Nb (t : Tm) : Prop := -9223372036854775808 ≤ t.n ∧ t.n ≤ 9223372036854775807
structure Lp.Nb (l : Lp) : Prop where
  who : l.who.Nb
  args : ∀ t ∈ l.args, t.Nb
/-- a term's text -/
def Tm.txt (t : Tm) : ByteArray := if t.v.toList.isEmpty then textS t.s t.n else t.v
theorem kindL_two {l : List UInt8} (h : kindL l = 2) : l.length ≤ 16 := by
  unfold kindL at h
  split at h
  · exact absurd h (by decide)
  · split at h
    · rename_i h2; simp at h2; exact h2.2
    · split at h
      · exact absurd h (by decide)
      · split at h <;> exact absurd h (by decide)
theorem pieceL_two {l : List UInt8} {n : Nat} (hn : n ≤ l.length) (h : (pieceL l n).kind = 2) : (pieceL l n).len ≤ 16 := by
  unfold pieceL at h ⊢
  split at h
  · simp at h
  · rename_i hz
    rw [if_neg hz]
    have := kindL_two h
    rw [List.length_take] at this
    simp only; omega
theorem oneL_two {l : List UInt8} (h : (oneL l).kind = 2) : (oneL l).len ≤ 16 := by
  cases l with
  | nil => simp [oneL] at h
  | cons c r =>
    have hr := runL_le r
    have hp : ∀ h : (pieceL (c :: r) (1 + runL r)).kind = 2, (pieceL (c :: r) (1 + runL r)).len ≤ 16 := pieceL_two (by simp; omega)
    rw [oneL] at h ⊢
    split at h
    · simp at h
    rename_i h1; rw [if_neg h1]
    split at h
    · simp at h
    rename_i h2; rw [if_neg h2]
    split at h
    · split at h <;> simp at h
    rename_i h3; rw [if_neg h3]
    split at h
    · split at h <;> simp at h
    rename_i h4; rw [if_neg h4]
    split at h
    · rename_i h5; rw [if_pos h5]
      split at h
      · rename_i h6; rw [if_pos h6]; exact hp h
      · simp at h
    rename_i h5; rw [if_neg h5]
    split at h
    · rename_i h6; rw [if_pos h6]; exact hp h
    · simp at h
theorem var_size {s : ByteArray} (h : varB s = true) : s.size ≤ 16 := by
  unfold varB at h
  simp only [Bool.and_eq_true, beq_iff_eq] at h
  obtain ⟨⟨h1, h2⟩, h3⟩ := h
  rw [if_pos h1] at h3
  unfold oneA at h1 h2 h3
  split at h2
  · rename_i hl
    rw [if_pos hl] at h3
    have := oneL_two h2
    omega
  · simp at h2
theorem name_size {s : ByteArray} (h : nameB s = true) : s.size ≤ 16 := by
  rw [nameB_eq] at h
  unfold nameL at h
  simp only [Bool.and_eq_true, decide_eq_true_eq] at h
  have : s.data.toList.length = s.size := by simp
  omega
theorem txt_size {t : Tm} (h : t.ok = true) (hn : t.Nb) : t.txt.size ≤ 21 := by
  unfold Tm.ok termB at h
  unfold Tm.txt
  split
  · rename_i hv
    rw [if_pos hv] at h
    unfold textS
    rw [if_pos h]
    split
    · unfold itoaS
      have := Lib.itoa_length_le t.n hn.1 hn.2
      show (Lib.itoa t.n).toArray.size ≤ 21
      simpa using this
    · rename_i hs
      unfold goodB at h
      simp only [hs] at h
      have : nameB t.s = true := by simp at h; exact h.2
      have := name_size this
      omega
  · rename_i hv
    rw [if_neg hv] at h
    simp only [Bool.and_eq_true] at h
    have := var_size h.2
    omega

set_option maxHeartbeats 1000000 in
theorem termText_any (t : Tm) (w : World) (hs : t.Sz) (hn : t.Nb) (he : Env w) :
    Calls Tryz.prog 124 #[.agg #[.string t.v, .string t.s, .int .i64 t.n]] w fun e w' => e = .returned (.string t.txt) ∧ Below w.heap.size w w' := by
  have HE := Lib.hid he
  have HB := Lib.hid (below1 w)
  have HT := Lib.hid (show ∀ wx, Env wx → Calls Tryz.prog 140 #[.agg #[.string t.s, .int .i64 t.n]] wx fun e w' => e = .returned (.tuple #[.string (textS t.s t.n), .bool (goodB t.s t.n)]) ∧ Below wx.heap.size wx w' from fun wx hx => text_any t.s t.n wx (Nat.le_trans hs.s (by decide)) hn.1 hn.2 hx)
  have HX := Lib.hid (show t.txt = if t.v.toList.isEmpty then textS t.s t.n else t.v from rfl)
  generalize t.txt = tx at *
  generalize textS t.s t.n = ts at *
  generalize goodB t.s t.n = gd at *
  obtain ⟨v, s, n⟩ := t
  simp only at HX HT ⊢
  clear he hs hn
  cases h0 : v.toList.isEmpty with
  | true =>
    go_enter Tryz.func124, Tryz.ntmps124
    go_wp2_with (go_at_call 140; refine (HT.out _ (HE.out.on (HB.out _))).mono ?_; rintro e w1 ⟨rfl, hb1⟩)
    go_ret
    exact ⟨by rw [HX.out, h0]; rfl, (HB.out _).trans (hb1.mono (HB.out _).size)⟩
  | false =>
    go_enter Tryz.func124, Tryz.ntmps124
    go_wp2_with fail
    go_ret
    exact ⟨by rw [HX.out, h0]; rfl, HB.out _⟩
end Go.Proofs.YtfmkfabbiifolaaGreatDoor

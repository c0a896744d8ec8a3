/-
  The walk of mandatelaw10.BindBack: it answers true.
-/
import Derived.Test.YtmfaallipfhajaaBbm
import Derived.Deep.DeepCutAuto
namespace Go.Proofs.Ytmfaallipfhajaa
open Go.RowKit

theorem fpP_some (L : List Vl) (p : ByteArray) : fpP (some L) p = p := rfl
theorem fpL_some (L : List Vl) : fpL (some L) = L := rfl
/-- the same boxes, other bindings -/
theorem LM.with {w : World} {k : Int} {p : ByteArray} {qa : Option Addr} {args : List Tm} {ca : Nat} {tp : ByteArray} {qt : Option Addr} {vs : List Vl} {ct : Nat} {qb : Option Addr} {b : List Tm} {X : World} (h : LM w k p qa args ca tp qt vs ct qb b X) {q : Option Addr} {l : List Tm} (hr : Tms X X.heap.size q l) : LM w k p qa args ca tp qt vs ct q l X :=
  ⟨h.c0, h.c1, h.c2, h.d0, h.d1, h.lt, h.ra, h.rv, hr, h.bel⟩
/-- the boxes, in a world that goes on from W0 -/
structure LMB (W0 w : World) (k : Int) (p : ByteArray) (qa : Option Addr) (args : List Tm) (ca : Nat) (tp : ByteArray) (qt : Option Addr) (vs : List Vl) (ct : Nat) (qb : Option Addr) (b : List Tm) (X : World) : Prop where
  lm : LM w k p qa args ca tp qt vs ct qb b X
  bw : Below W0.heap.size W0 X
theorem LMB.on {W0 : World} {w : World} {k : Int} {p : ByteArray} {qa : Option Addr} {args : List Tm} {ca : Nat} {tp : ByteArray} {qt : Option Addr} {vs : List Vl} {ct : Nat} {qb : Option Addr} {b : List Tm} {X X' : World} (h : LMB W0 w k p qa args ca tp qt vs ct qb b X) (hb : Below X.heap.size X X') : LMB W0 w k p qa args ca tp qt vs ct qb b X' := ⟨h.lm.on hb, h.bw.trans (hb.mono h.bw.size)⟩
theorem LMB.S {W0 : World} {w : World} {k : Int} {p : ByteArray} {qa : Option Addr} {args : List Tm} {ca : Nat} {tp : ByteArray} {qt : Option Addr} {vs : List Vl} {ct : Nat} {qb : Option Addr} {b : List Tm} {X : World} (h : LMB W0 w k p qa args ca tp qt vs ct qb b X) :
    X.cell? ⟨w.heap.size, 0, none⟩ = some (.int .u8 k) ∧ X.cell? ⟨w.heap.size, 1, none⟩ = some (.string p) ∧ X.cell? ⟨w.heap.size, 2, none⟩ = some (.slice qa args.length ca) ∧ X.cell? ⟨w.heap.size + 1, 0, none⟩ = some (.string tp) ∧ X.cell? ⟨w.heap.size + 1, 1, none⟩ = some (.slice qt vs.length ct) ∧ Hid (LMB W0 w k p qa args ca tp qt vs ct qb b X) :=
  ⟨h.lm.c0, h.lm.c1, h.lm.c2, h.lm.d0, h.lm.d1, Lib.hid h⟩
theorem LMB.rb {W0 : World} {w : World} {k : Int} {p : ByteArray} {qa : Option Addr} {args : List Tm} {ca : Nat} {tp : ByteArray} {qt : Option Addr} {vs : List Vl} {ct : Nat} {qb : Option Addr} {b : List Tm} {X : World} (h : LMB W0 w k p qa args ca tp qt vs ct qb b X) : Tms X X.heap.size qb b := h.lm.rb
theorem copy_lm {W0 : World} {w : World} {k : Int} {p : ByteArray} {qa : Option Addr} {args : List Tm} {ca : Nat} {tp : ByteArray} {qt : Option Addr} {vs : List Vl} {ct : Nat} {qb : Option Addr} {b : List Tm} (hA : args.length * 40 ≤ 140737488355328) :
    ∀ (X : World), LMB W0 w k p qa args ca tp qt vs ct qb b X → Calls Try.prog 10 #[.agg #[.int .u8 k, .string p, .slice qa args.length ca]] X fun e w' => ∃ q c, e = .returned (.agg #[.int .u8 k, .string p, .slice q args.length c]) ∧ Made encM 3 args (.slice q args.length c) w' ∧ LMB W0 w k p qa args ca tp qt vs ct qb b w' ∧ Below X.heap.size X w' :=
  fun X h => (copyflat_any k p qa args ca X h.lm.ra hA).mono fun e w' ⟨v, h1, ⟨q, c, h2, h3⟩, h4⟩ => ⟨q, c, by rw [h1, h2], ⟨q, c, rfl, h3⟩, h.on h4, h4⟩
theorem match_lm {W0 : World} {w : World} {k : Int} {p : ByteArray} {qa : Option Addr} {args : List Tm} {ca : Nat} {tp : ByteArray} {qt : Option Addr} {vs : List Vl} {ct : Nat} {qb : Option Addr} {b : List Tm} (hA : args.length ≤ 100000) (hB : b.length ≤ 100000) (hlv : vs.length ≤ maxLen) :
    ∀ (X : World) (q1 q2 : Option Addr) (c1 c2 : Nat), LMB W0 w k p qa args ca tp qt vs ct qb b X → Made encM 3 args (.slice q1 args.length c1) X → Made encM 3 b (.slice q2 b.length c2) X → Calls Try.prog 9 #[.agg #[.int .u8 k, .string p, .slice q1 args.length c1], .agg #[.string tp, .slice qt vs.length ct], .slice q2 b.length c2] X fun e w' => MPair (matchF k p args tp vs b) X e w' ∧ LMB W0 w k p qa args ca tp qt vs ct qb b w' :=
  fun X q1 q2 c1 c2 h hm1 hm2 => by
    obtain ⟨q1', c1', e1, r1, _⟩ := hm1
    obtain ⟨q2', c2', e2, r2, l2, m2, n2⟩ := hm2
    cases e1
    cases e2
    refine (match_any k p tp q1 qt q2 args b vs c1 ct c2 X r1 h.lm.rv r2 l2 m2 n2 hA hB hlv).mono fun e w' hp => ?_
    have hp' := mpair_of hp
    exact ⟨hp', h.on hp'.choose_spec.choose_spec.2.2.2.2.2⟩

set_option maxHeartbeats 8000000 in
set_option maxRecDepth 100000 in
theorem back_walk (k : Int) (p tp : ByteArray) (qa qt qb : Option Addr) (args b : List Tm) (vs : List Vl) (ca ct cb : Nat) (w : World) (h1 : Tms w w.heap.size qa args) (h2 : Rd encV 2 w w.heap.size qt vs) (h3 : Tms w w.heap.size qb b) (ha : SzM args) (hv : SzOk vs) (hbz : SzM b) (hp : p.size ≤ maxLen) (htp : tp.size ≤ maxLen) (hla : args.length ≤ maxLen) (hlv : vs.length ≤ maxLen) (hlb : b.length ≤ maxLen) :
    Calls Try.prog 6 #[.agg #[.int .u8 k, .string p, .slice qa args.length ca], .agg #[.string tp, .slice qt vs.length ct], .slice qb b.length cb] w fun e w' => e = .returned (.bool true) ∧ Below w.heap.size w w' := by
  have hb0 := below2 w (.cells #[.int .u8 k, .string p, .slice qa args.length ca] 24) (.cells #[.string tp, .slice qt vs.length ct] 27)
  have HI := Lib.hid (show LM w k p qa args ca tp qt vs ct qb b ((w.alloc (.cells #[.int .u8 k, .string p, .slice qa args.length ca] 24)).alloc (.cells #[.string tp, .slice qt vs.length ct] 27)) from
    ⟨by simp [go_sem], by simp [go_sem], by simp [go_sem], by simp [go_sem], by simp [go_sem], by simp, h1.grow hb0, h2.grow hb0, h3.grow hb0, hb0⟩)
  have HF := Lib.hid (fixed_any ((w.alloc (.cells #[.int .u8 k, .string p, .slice qa args.length ca] 24)).alloc (.cells #[.string tp, .slice qt vs.length ct] 27)))
  have HSA := Lib.hid ha
  have HSV := Lib.hid hv
  have HSB := Lib.hid hbz
  have hla0 := hla
  have hlb0 := hlb
  have hlv0 := hlv
  unfold maxLen at hla0 hlb0 hlv0
  clear h1 h2 h3 hb0 ha hv hbz
  go_enter Try.func6, Try.ntmps6
  go_wp2_with fail
  refine HF.out.mono ?_
  rintro e w1 ⟨rfl, hb1⟩
  have HI1 := Lib.hid (HI.out.on hb1)
  clear hb1 HF HI
  have x2 := HI1.out.c2
  by_cases hA : 100 < args.length
  · go_wp2_with fail
    go_ret
    exact ⟨rfl, HI1.out.bel⟩
  · by_cases hB : 100 < b.length
    · go_wp2_with fail
      go_ret
      exact ⟨rfl, HI1.out.bel⟩
    · have x0 := HI1.out.c0
      have x1 := HI1.out.c1
      have y0 := HI1.out.d0
      have y1 := HI1.out.d1
      obtain ⟨i0, hi, hz0, hz1, hzb⟩ := info_parts infoBind
      have HMB4 := Lib.hid (show b.length * 40 ≤ 140737488355328 by omega)
      have HMB := Lib.hid hlb
      have HL1 := Lib.hid (show LMB w1 w k p qa args ca tp qt vs ct qb b w1 from ⟨HI1.out, Below.refl _ _⟩)
      have HCF := Lib.hid (copy_lm (W0 := w1) (w := w) (k := k) (p := p) (qa := qa) (args := args) (ca := ca) (tp := tp) (qt := qt) (vs := vs) (ct := ct) (qb := qb) (b := b) (by omega))
      have HMT := Lib.hid (match_lm (W0 := w1) (w := w) (k := k) (p := p) (qa := qa) (args := args) (ca := ca) (tp := tp) (qt := qt) (vs := vs) (ct := ct) (qb := qb) (b := b) (by omega) (by omega) hlv)
      have HML := Lib.hid (mpL_len (k := k) (p := p) (args := args) (tp := tp) (vs := vs) (b := b))
      go_wp2_with fail
      have HDR := Lib.hid (HL1.out.on (Below.drew (Below.refl _ _)))
      have hI := HL1
      clear x0 x1 x2 y0 y1
      go_cut [7, 8] (fun s7 s8 wx => ∃ q c, s7 = .slice q (mpL (matchF k p args tp vs b)).length c ∧ s8 = .bool (matchF k p args tp vs b).isSome ∧ Hid ((Tms wx wx.heap.size q (mpL (matchF k p args tp vs b)) ∧ (mpL (matchF k p args tp vs b)).length ≤ c ∧ c ≤ maxLen ∧ (q = none → c = 0)) ∧ LMB w1 w k p qa args ca tp qt vs ct qb b wx))
      case first =>
        obtain ⟨x0, x1, x2, y0, y1, _⟩ := HL1.out.S
        go_region_held3 (fun X => X.cell? ⟨w.heap.size, 0, none⟩ = some (.int .u8 k) ∧ X.cell? ⟨w.heap.size, 1, none⟩ = some (.string p) ∧ X.cell? ⟨w.heap.size, 2, none⟩ = some (.slice qa args.length ca) ∧ X.cell? ⟨w.heap.size + 1, 0, none⟩ = some (.string tp) ∧ X.cell? ⟨w.heap.size + 1, 1, none⟩ = some (.slice qt vs.length ct) ∧ Hid (LMB w1 w k p qa args ca tp qt vs ct qb b X))
          (first
            | (exact LMB.S (Hid.out hI))
            | (exact LMB.S (LMB.on (Hid.out hI) (below1 _ _)))
            | (exact LMB.S (LMB.on (Hid.out hI) (below1 _ _).drew))
            | (exact HDR.out.S)
            | go_keep)
          (first
            | (go_at_call 10; refine (HCF.out _ (by first | exact Hid.out hI | exact HDR.out | exact LMB.on (Hid.out hI) (below1 _ _) | exact LMB.on (Hid.out hI) (below1 _ _).drew | exact LMB.on HDR.out (below1 _ _))).mono ?_; rintro e wn ⟨qA, cA, rfl, hm1, hI', hx1⟩; have hI := Lib.hid hI'; (try (have hm2 := Made.grow hm2 hx1)); clear hI')
            | (refine step_copyN EM rfl (.tmp 30) (.tmp 31) 28 rfl 50 i0 _ 40 underB hi hz0 hz1 hzb rfl _ (by rfl) qb b cb (by rfl) (LMB.rb (by first | exact Hid.out hI | exact LMB.on (Hid.out hI) (below1 _ _) | exact LMB.on (Hid.out hI) (below1 _ _).drew | exact LMB.on HDR.out (below1 _ _))) HMB.out HMB4.out ?_; intro qB cB wn hm2 hx2; have hI' := LMB.on (by first | exact Hid.out hI | exact LMB.on (Hid.out hI) (below1 _ _) | exact LMB.on (Hid.out hI) (below1 _ _).drew | exact LMB.on HDR.out (below1 _ _)) hx2; have hI := Lib.hid hI'; (try (have hm1 := Made.grow hm1 (by first | exact hx2 | exact (below1 _ _).trans (hx2.mono (by simp)) | exact (below1 _ _).drew.trans (hx2.mono (by simp))))); clear hI')
            | (go_at_call 9; refine (HMT.out _ _ _ _ _ (Hid.out hI) hm1 hm2).mono ?_; rintro e wn ⟨⟨q', c', rfl, hr, hr1, hr2, hr3, _⟩, hI'⟩; have hI := Lib.hid hI'; clear hI'))
        all_goals
          go_wp2_with fail
          go_meet
          exact ⟨q', c', rfl, rfl, Lib.hid ⟨⟨hr, hr1, hr2, hr3⟩, Hid.out hI⟩⟩
      case rest =>
        obtain ⟨q, c, rfl, rfl, HQ⟩ := hcut
        obtain ⟨x0, x1, x2, y0, y1, _⟩ := HQ.out.2.S
        go_wp2_with fail
        refine (HCF.out _ HQ.out.2).mono ?_
        rintro e w2 ⟨qA, cA, rfl, hm1, hI2, hb2⟩
        have HM2 := Lib.hid hm1
        have HI2 := Lib.hid hI2.lm
        have HI2' := Lib.hid (hI2.lm.on (below1 w2 (.cells #[] 50)))
        have HQ2 := Lib.hid (HQ.out.1.1.grow hb2)
        have HQC := Lib.hid HQ.out.1.2
        clear hm1 hI2 hb2 x0 x1 x2 y0 y1 HL1 HDR hI
        go_wp2_with (at_builtin; refine wpList_copyN EM rfl _ _ 28 rfl 50 i0 _ 40 underB hi hz0 hz1 hzb rfl _ rfl qb b cb rfl HI2'.out.rb HMB.out HMB4.out ?_; intro qB cB w3 hm3 hb3)
        obtain ⟨qB', cB', he, hrB, _⟩ := hm3
        cases he
        have HB23 := Lib.hid (show Below w2.heap.size w2 w3 from (below1 w2 _).trans (hb3.mono (by simp)))
        have HI3 := Lib.hid (HI2.out.on HB23.out)
        have HM3 := Lib.hid (HM2.out.grow HB23.out)
        have HQ3 := Lib.hid (HQ2.out.grow HB23.out)
        have HRB3 := Lib.hid hrB
        clear hb3 hrB
        have hfp := HM3.out
        obtain ⟨qA', cA', he, hrA, _⟩ := hfp
        cases he
        refine (fill_pair k p qA qB args b cA cB w3 hrA HRB3.out (by omega) HMB.out).mono ?_
        rintro e w4 ⟨q4, c4, rfl, hr4, hb4⟩
        have hb45 := hb4.trans ((below1 w4 (.cells #[.string (fpP (fillF k args b) p), .slice q4 (fpL (fillF k args b)).length c4] 27)).mono hb4.size)
        have HI5 := Lib.hid (HI3.out.on hb45)
        have HQ5 := Lib.hid (HQ3.out.grow hb45)
        have HR5 := Lib.hid (hr4.grow (below1 w4 (.cells #[.string (fpP (fillF k args b) p), .slice q4 (fpL (fillF k args b)).length c4] 27)))
        have U0 := Lib.hid (show (w4.alloc (.cells #[.string (fpP (fillF k args b) p), .slice q4 (fpL (fillF k args b)).length c4] 27)).cell? ⟨w4.heap.size, 0, none⟩ = some (.string (fpP (fillF k args b) p)) by simp [go_sem])
        have U1 := Lib.hid (show (w4.alloc (.cells #[.string (fpP (fillF k args b) p), .slice q4 (fpL (fillF k args b)).length c4] 27)).cell? ⟨w4.heap.size, 1, none⟩ = some (.slice q4 (fpL (fillF k args b)).length c4) by simp [go_sem])
        have UZ := Lib.hid (show w4.heap.size < (w4.alloc (.cells #[.string (fpP (fillF k args b) p), .slice q4 (fpL (fillF k args b)).length c4] 27)).heap.size by simp)
        clear hb4 hr4 hb45 hrA HM3 HRB3 HI3 HQ3 HB23 HM2 HI2 HI2' HQ2 HQ HCF HMT
        have HZL := Lib.hid (fpL_sz (k := k) HSA.out HSB.out)
        have HZN := Lib.hid (show (fpL (fillF k args b)).length ≤ maxLen from by have := fpL_len (k := k) (args := args) (b := b); unfold maxLen; omega)
        cases hmf : matchF k p args tp vs b with
        | none =>
          have HNO := Lib.hid (fun L hf => fillF_no (b := b) (L := L) hmf hf)
          simp only [hmf] at *
          clear hmf
          cases hff : fillF k args b with
          | none =>
            simp only [hff, Option.isSome_none] at *
            clear hff
            go_wp2_with fail
            go_ret
            exact ⟨rfl, HI5.out.bel⟩
          | some L =>
            have HNE := Lib.hid (show (cmpT ⟨tp, qt, ct, vs⟩ ⟨p, q4, c4, L⟩ == 0) = false by
              have h2 := mt (cmpT_zero ⟨tp, qt, ct, vs⟩ ⟨p, q4, c4, L⟩).1 (HNO.out L hff)
              simpa using h2)
            simp only [hff, Option.isSome_some, fpP, fpL] at *
            clear hff
            have y0 := HI5.out.d0
            have y1 := HI5.out.d1
            have v0 := U0.out
            have v1 := U1.out
            have hlt := HI5.out.lt
            go_wp2_with fail
            refine (same_tuples ⟨tp, qt, ct, vs⟩ ⟨p, q4, c4, L⟩ _ ⟨vals_rd HI5.out.rv, hlv⟩ ⟨vals_rd HR5.out, HZN.out⟩ htp hp HSV.out HZL.out).mono ?_
            rintro e w6 ⟨rfl, hb6⟩
            have HB6 := Lib.hid (HI5.out.on hb6).bel
            rw [HNE.out]
            clear hb6
            go_wp2_with fail
            go_ret
            exact ⟨rfl, HB6.out⟩
        | some L =>
          obtain ⟨rfl, hfL, hmL, e, hLe⟩ := matchF_back hmf
          have HFL := Lib.hid hfL
          have HMLL := Lib.hid hmL
          have HLE := Lib.hid hLe
          clear hfL hmL hLe
          simp only [hmf, mpL, Option.isSome_some] at *
          clear hmf
          have hLb : L.length ≤ b.length + args.length := HML.out
          have hbL : b.length ≤ L.length := by rw [HLE.out]; simp
          have x0 := HI5.out.c0
          have x1 := HI5.out.c1
          have x2 := HI5.out.c2
          have hltx := HI5.out.lt
          go_wp2_with fail
          clear x0 x1 x2 hltx
          generalize w4.alloc (.cells #[.string (fpP (fillF k args b) p), .slice q4 (fpL (fillF k args b)).length c4] 27) = W5 at *
          have HI6 := Lib.hid (HI5.out.with HQ5.out)
          have HL6 := Lib.hid (show LMB W5 w k p qa args ca p qt vs ct q L W5 from ⟨HI6.out, Below.refl _ _⟩)
          have HCF := Lib.hid (copy_lm (W0 := W5) (w := w) (k := k) (p := p) (qa := qa) (args := args) (ca := ca) (tp := p) (qt := qt) (vs := vs) (ct := ct) (qb := q) (b := L) (by omega))
          have HLL4 := Lib.hid (show L.length * 40 ≤ 140737488355328 by omega)
          have HLLm := Lib.hid (show L.length ≤ maxLen by unfold maxLen; omega)
          refine (HCF.out _ HL6.out).mono ?_
          rintro e w7 ⟨q7, c7, rfl, hm7, hI7, hb7⟩
          obtain ⟨q7', c7', he, hr7, _⟩ := hm7
          cases he
          have HI7 := Lib.hid hI7
          have hf := fill_pair k p q7 q args L c7 c w7 hr7 hI7.rb (by omega) HLLm.out
          rw [HFL.out] at hf
          have HF7 := Lib.hid hf
          clear hr7 hI7 hb7 hf
          go_wp2_with fail
          refine HF7.out.mono ?_
          rintro e w8 ⟨q8, c8, rfl, hr8, hb8⟩
          simp only [fpP_some, fpL_some, Option.isSome_some] at hr8 ⊢
          have hb89 := hb8.trans ((below1 w8 (.cells #[.string p, .slice q8 vs.length c8] 27)).mono hb8.size)
          have HI9 := Lib.hid (HI7.out.on hb89)
          have HR9 := Lib.hid (hr8.grow (below1 w8 (.cells #[.string p, .slice q8 vs.length c8] 27)))
          have V0 := Lib.hid (show (w8.alloc (.cells #[.string p, .slice q8 vs.length c8] 27)).cell? ⟨w8.heap.size, 0, none⟩ = some (.string p) by simp [go_sem])
          have V1 := Lib.hid (show (w8.alloc (.cells #[.string p, .slice q8 vs.length c8] 27)).cell? ⟨w8.heap.size, 1, none⟩ = some (.slice q8 vs.length c8) by simp [go_sem])
          have VZ := Lib.hid (show w8.heap.size < (w8.alloc (.cells #[.string p, .slice q8 vs.length c8] 27)).heap.size by simp)
          have HRB9 := Lib.hid (HI5.out.rb.grow HI9.out.bw)
          clear hb8 hr8 hb89 HF7
          go_wp2_with fail
          generalize w8.alloc (.cells #[.string p, .slice q8 vs.length c8] 27) = W9 at *
          have HL9 := Lib.hid (show LMB W9 w k p qa args ca p qt vs ct q L W9 from ⟨HI9.out.lm, Below.refl _ _⟩)
          have HCF9 := Lib.hid (copy_lm (W0 := W9) (w := w) (k := k) (p := p) (qa := qa) (args := args) (ca := ca) (tp := p) (qt := qt) (vs := vs) (ct := ct) (qb := q) (b := L) (by omega))
          have HMT9 := Lib.hid (match_lm (W0 := W9) (w := w) (k := k) (p := p) (qa := qa) (args := args) (ca := ca) (tp := p) (qt := qt) (vs := vs) (ct := ct) (qb := q) (b := L) (by omega) (by omega) hlv)
          have HDR := Lib.hid (HL9.out.on (Below.drew (Below.refl _ _)))
          have hI := HL9
          go_cut [13, 14] (fun s7 s8 wx => ∃ q' c', s7 = .slice q' (mpL (matchF k p args p vs L)).length c' ∧ s8 = .bool (matchF k p args p vs L).isSome ∧ Hid ((Tms wx wx.heap.size q' (mpL (matchF k p args p vs L)) ∧ (mpL (matchF k p args p vs L)).length ≤ c' ∧ c' ≤ maxLen ∧ (q' = none → c' = 0)) ∧ LMB W9 w k p qa args ca p qt vs ct q L wx))
          case first =>
            obtain ⟨x0, x1, x2, y0, y1, _⟩ := HL9.out.S
            go_region_held3 (fun X => X.cell? ⟨w.heap.size, 0, none⟩ = some (.int .u8 k) ∧ X.cell? ⟨w.heap.size, 1, none⟩ = some (.string p) ∧ X.cell? ⟨w.heap.size, 2, none⟩ = some (.slice qa args.length ca) ∧ X.cell? ⟨w.heap.size + 1, 0, none⟩ = some (.string p) ∧ X.cell? ⟨w.heap.size + 1, 1, none⟩ = some (.slice qt vs.length ct) ∧ Hid (LMB W9 w k p qa args ca p qt vs ct q L X))
              (first
                | (exact LMB.S (Hid.out hI))
                | (exact LMB.S (LMB.on (Hid.out hI) (below1 _ _)))
                | (exact LMB.S (LMB.on (Hid.out hI) (below1 _ _).drew))
                | (exact HDR.out.S)
                | go_keep)
              (first
                | (go_at_call 10; refine (HCF9.out _ (by first | exact Hid.out hI | exact HDR.out | exact LMB.on (Hid.out hI) (below1 _ _) | exact LMB.on (Hid.out hI) (below1 _ _).drew | exact LMB.on HDR.out (below1 _ _))).mono ?_; rintro e wn ⟨qA, cA, rfl, hm1, hI', hx1⟩; have hI := Lib.hid hI'; (try (have hm2 := Made.grow hm2 hx1)); clear hI')
                | (refine step_copyN EM rfl (.tmp 66) (.tmp 67) 28 rfl 50 i0 _ 40 underB hi hz0 hz1 hzb rfl _ (by rfl) q L c (by rfl) (LMB.rb (by first | exact Hid.out hI | exact LMB.on (Hid.out hI) (below1 _ _) | exact LMB.on (Hid.out hI) (below1 _ _).drew | exact LMB.on HDR.out (below1 _ _))) HLLm.out HLL4.out ?_; intro qB cB wn hm2 hx2; have hI' := LMB.on (by first | exact Hid.out hI | exact LMB.on (Hid.out hI) (below1 _ _) | exact LMB.on (Hid.out hI) (below1 _ _).drew | exact LMB.on HDR.out (below1 _ _)) hx2; have hI := Lib.hid hI'; (try (have hm1 := Made.grow hm1 (by first | exact hx2 | exact (below1 _ _).trans (hx2.mono (by simp)) | exact (below1 _ _).drew.trans (hx2.mono (by simp))))); clear hI')
                | (go_at_call 9; refine (HMT9.out _ _ _ _ _ (Hid.out hI) hm1 hm2).mono ?_; rintro e wn ⟨⟨q', c', rfl, hr, hr1, hr2, hr3, _⟩, hI'⟩; have hI := Lib.hid hI'; clear hI'))
            all_goals
              go_wp2_with fail
              go_meet
              exact ⟨q', c', rfl, rfl, Lib.hid ⟨⟨hr, hr1, hr2, hr3⟩, Hid.out hI⟩⟩
          case rest =>
            obtain ⟨q10, c10, rfl, rfl, HQ⟩ := hcut
            rw [HMLL.out] at HQ ⊢
            simp only [mpL, Option.isSome_some] at HQ ⊢
            have HC := Lib.hid HQ.out.2.lm
            have HBW := Lib.hid HQ.out.2.bw
            have HR10 := Lib.hid (HR9.out.grow HBW.out)
            have HA10 := Lib.hid HQ.out.1.1
            have HRB10 := Lib.hid (HRB9.out.grow HBW.out)
            have v0 := (HBW.out.cell (p := ⟨w8.heap.size, 0, none⟩) VZ.out).trans V0.out
            have v1 := (HBW.out.cell (p := ⟨w8.heap.size, 1, none⟩) VZ.out).trans V1.out
            have y0 := HC.out.d0
            have y1 := HC.out.d1
            go_wp2_with fail
            refine (same_pairs p vs q8 qt c8 ct wc HR10.out HC.out.rv hp HSV.out hlv).mono ?_
            rintro e' w11 ⟨rfl, hb11⟩
            have HC11 := Lib.hid (HC.out.on hb11)
            have HA11 := Lib.hid (HA10.out.grow hb11)
            have HRB11 := Lib.hid (HRB10.out.grow hb11)
            clear hb11 v0 v1 y0 y1
            go_wp2_with fail
            refine (same_binds q q10 L c c10 w11 HC11.out.rb HA11.out HLLm.out).mono ?_
            rintro e' w12 ⟨rfl, hb12⟩
            have HC12 := Lib.hid (HC11.out.on hb12)
            have HRB12 := Lib.hid (HRB11.out.grow hb12)
            have x2 := HC12.out.c2
            have HPR := Lib.hid (show Tms w12 w12.heap.size q b from rd_prefix (e := e) (by have := HC12.out.rb; rwa [HLE.out] at this))
            have hbc : b.length ≤ c := Nat.le_trans hbL HQC.out.1
            have hcm : c ≤ 9223372036854775807 := by have := HQC.out.2.1; unfold maxLen at this; omega
            have HQN := Lib.hid HQC.out.2.2
            have d1 : ¬ L.length < b.length := by omega
            have d2 : ¬ b.length + args.length < L.length := by omega
            clear hb12
            cases q with
            | none =>
              have hc0 : c = 0 := HQN.out rfl
              have hb0 : b.length = 0 := by omega
              have hL0 : L.length = 0 := by have := HQC.out.1; omega
              obtain rfl : L = [] := List.length_eq_zero_iff.1 hL0
              obtain rfl : b = [] := List.length_eq_zero_iff.1 hb0
              subst hc0
              clear hb0 hL0
              go_wp2_with fail
              refine (same_binds none qb [] 0 cb w12 .nil .nil (Nat.zero_le _)).mono ?_
              rintro e' w13 ⟨rfl, hb13⟩
              have HB13 := Lib.hid (HC12.out.on hb13).bel
              clear hb13
              go_wp2_with fail
              go_ret
              exact ⟨rfl, HB13.out⟩
            | some aq =>
              go_wp2_with fail
              refine (same_binds (some aq) qb b c cb w12 HPR.out HRB12.out HMB.out).mono ?_
              rintro e' w13 ⟨rfl, hb13⟩
              have HB13 := Lib.hid (HC12.out.on hb13).bel
              clear hb13
              go_wp2_with fail
              go_ret
              exact ⟨rfl, HB13.out⟩
end Go.Proofs.Ytmfaallipfhajaa

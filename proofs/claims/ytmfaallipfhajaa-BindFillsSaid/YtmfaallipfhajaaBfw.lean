/-
  The walk of mandatelaw10.BindFills: it answers true.
-/
import Derived.Test.YtmfaallipfhajaaBfp
namespace Go.Proofs.Ytmfaallipfhajaa
open Go.RowKit

/-- a literal's box, and what is there of it and of bindings -/
structure LF (w : World) (k : Int) (p : ByteArray) (qa : Option Addr) (args : List Tm) (ca : Nat) (qb : Option Addr) (b : List Tm) (X : World) : Prop where
  c0 : X.cell? ⟨w.heap.size, 0, none⟩ = some (.int .u8 k)
  c1 : X.cell? ⟨w.heap.size, 1, none⟩ = some (.string p)
  c2 : X.cell? ⟨w.heap.size, 2, none⟩ = some (.slice qa args.length ca)
  lt : w.heap.size < X.heap.size
  ra : Tms X X.heap.size qa args
  rb : Tms X X.heap.size qb b
  bel : Below w.heap.size w X
theorem LF.on {w : World} {k : Int} {p : ByteArray} {qa : Option Addr} {args : List Tm} {ca : Nat} {qb : Option Addr} {b : List Tm} {X X' : World} (h : LF w k p qa args ca qb b X) (hb : Below X.heap.size X X') : LF w k p qa args ca qb b X' :=
  ⟨(hb.cell (p := ⟨w.heap.size, 0, none⟩) h.lt).trans h.c0, (hb.cell (p := ⟨w.heap.size, 1, none⟩) h.lt).trans h.c1, (hb.cell (p := ⟨w.heap.size, 2, none⟩) h.lt).trans h.c2, Nat.lt_of_lt_of_le h.lt hb.size, h.ra.grow hb, h.rb.grow hb, h.bel.trans (hb.mono (Nat.le_of_lt h.lt))⟩

set_option maxHeartbeats 8000000 in
set_option maxRecDepth 100000 in
theorem fills_walk (k : Int) (p : ByteArray) (qa qb : Option Addr) (args b : List Tm) (ca cb : Nat) (w : World) (h1 : Tms w w.heap.size qa args) (h2 : Tms w w.heap.size qb b) (ha : SzM args) (hb : SzM b) (hp : p.size ≤ maxLen) (hla : args.length ≤ maxLen) (hlb : b.length ≤ maxLen) :
    Calls Try.prog 4 #[.agg #[.int .u8 k, .string p, .slice qa args.length ca], .slice qb b.length cb] w fun e w' => e = .returned (.bool true) ∧ Below w.heap.size w w' := by
  have hb0 := below1 w (.cells #[.int .u8 k, .string p, .slice qa args.length ca] 24)
  have HI := Lib.hid (show LF w k p qa args ca qb b (w.alloc (.cells #[.int .u8 k, .string p, .slice qa args.length ca] 24)) from
    ⟨by simp [go_sem], by simp [go_sem], by simp [go_sem], by simp, h1.grow hb0, h2.grow hb0, hb0⟩)
  have HF := Lib.hid (fixed_any (w.alloc (.cells #[.int .u8 k, .string p, .slice qa args.length ca] 24)))
  have HSA := Lib.hid ha
  have HSB := Lib.hid hb
  have hla0 := hla
  have hlb0 := hlb
  unfold maxLen at hla0 hlb0
  clear h1 h2 hb0 ha hb
  go_enter Try.func4, Try.ntmps4
  go_wp2_with fail
  refine HF.out.mono ?_
  rintro e w1 ⟨rfl, hb1⟩
  have HI1 := Lib.hid (HI.out.on hb1)
  clear hb1 HF HI
  have x2 := HI1.out.c2
  by_cases hA : 100 < args.length
  · go_wp2_with fail
    go_ret
    exact ⟨rfl, HI1.out.bel⟩
  · by_cases hB : 100 < b.length
    · go_wp2_with fail
      go_ret
      exact ⟨rfl, HI1.out.bel⟩
    · have x0 := HI1.out.c0
      have x1 := HI1.out.c1
      obtain ⟨i0, hi, hz0, hz1, hzb⟩ := info_parts infoBind
      have HMB := Lib.hid hlb
      have HMB4 := Lib.hid (show b.length * 40 ≤ 140737488355328 by omega)
      have HCF := Lib.hid (fun (X : World) (h : LF w k p qa args ca qb b X) => copyflat_any k p qa args ca X h.ra (by omega))
      have HMA := Lib.hid (show args.length ≤ 100000 by omega)
      have HZL := Lib.hid (fpL_sz (k := k) HSA.out HSB.out)
      have HZN := Lib.hid (show (fpL (fillF k args b)).length ≤ maxLen from by have := fpL_len (k := k) (args := args) (b := b); unfold maxLen; omega)
      have HZP := Lib.hid (fpP_sz (r := fillF k args b) hp)
      go_wp2_with fail
      refine (HCF.out _ HI1.out).mono ?_
      rintro e w2 ⟨_, rfl, ⟨qA, cA, rfl, hrA, _⟩, hb2⟩
      have HI2 := Lib.hid (HI1.out.on hb2)
      have HRA := Lib.hid hrA
      have HI2' := Lib.hid (HI2.out.on (below1 w2 (.cells #[] 50)))
      clear hb2 hrA x0 x1 x2
      go_wp2_with (at_builtin; refine wpList_copyN EM rfl _ _ 28 rfl 50 i0 _ 40 underB hi hz0 hz1 hzb rfl _ rfl qb b cb rfl HI2'.out.rb HMB.out HMB4.out ?_; intro qB cB w3 hm2 hb3)
      obtain ⟨qB', cB', he, hrB, _⟩ := hm2
      cases he
      have HB23 := Lib.hid (show Below w2.heap.size w2 w3 from (below1 w2 _).trans (hb3.mono (by simp)))
      have HI3 := Lib.hid (HI2.out.on HB23.out)
      have HRA3 := Lib.hid (HRA.out.grow HB23.out)
      have HRB3 := Lib.hid hrB
      clear hb3 hrB
      refine (fill_pair k p qA qB args b cA cB w3 HRA3.out HRB3.out HMA.out HMB.out).mono ?_
      rintro e w4 ⟨q4, c4, rfl, hr4, hb4⟩
      have HI4 := Lib.hid (HI3.out.on (hb4.trans ((below1 w4 (.cells #[.string (fpP (fillF k args b) p), .slice q4 (fpL (fillF k args b)).length c4] 27)).mono hb4.size)))
      have HR4 := Lib.hid (hr4.grow (below1 w4 (.cells #[.string (fpP (fillF k args b) p), .slice q4 (fpL (fillF k args b)).length c4] 27)))
      have HW4 := Lib.hid (show w4.heap.size < (w4.alloc (.cells #[.string (fpP (fillF k args b) p), .slice q4 (fpL (fillF k args b)).length c4] 27)).heap.size by simp)
      have e50 : (w4.alloc (.cells #[.string (fpP (fillF k args b) p), .slice q4 (fpL (fillF k args b)).length c4] 27)).cell? ⟨w4.heap.size, 0, none⟩ = some (.string (fpP (fillF k args b) p)) := by simp [go_sem]
      have e51 : (w4.alloc (.cells #[.string (fpP (fillF k args b) p), .slice q4 (fpL (fillF k args b)).length c4] 27)).cell? ⟨w4.heap.size, 1, none⟩ = some (.slice q4 (fpL (fillF k args b)).length c4) := by simp [go_sem]
      have E50 := Lib.hid e50
      have E51 := Lib.hid e51
      have x0 := HI4.out.c0
      have x1 := HI4.out.c1
      have x2 := HI4.out.c2
      clear hb4 hr4 e50 e51 HI1 HI2 HI2' HI3 HRA3 HRB3 HRA HB23
      go_wp2_with fail
      generalize w4.alloc (.cells #[.string (fpP (fillF k args b) p), .slice q4 (fpL (fillF k args b)).length c4] 27) = W5 at *
      refine (reffill_pair k p qa qb args b ca cb W5 HI4.out.ra HI4.out.rb HSA.out HMA.out HMB.out).mono ?_
      rintro e w6 ⟨q6, c6, rfl, hr6, hb6⟩
      have hb67 := hb6.trans ((below1 w6 (.cells #[.string (fpP (fillF k args b) p), .slice q6 (fpL (fillF k args b)).length c6] 27)).mono hb6.size)
      have HI7 := Lib.hid (HI4.out.on hb67)
      have HR7 := Lib.hid (HR4.out.grow hb67)
      have HR7b := Lib.hid (hr6.grow (below1 w6 (.cells #[.string (fpP (fillF k args b) p), .slice q6 (fpL (fillF k args b)).length c6] 27)))
      have E70 := Lib.hid ((hb67.cell (p := ⟨w4.heap.size, 0, none⟩) HW4.out).trans E50.out)
      have E71 := Lib.hid ((hb67.cell (p := ⟨w4.heap.size, 1, none⟩) HW4.out).trans E51.out)
      have HW7 := Lib.hid (Nat.lt_of_lt_of_le HW4.out hb67.size)
      have HW7b := Lib.hid (show w6.heap.size < (w6.alloc (.cells #[.string (fpP (fillF k args b) p), .slice q6 (fpL (fillF k args b)).length c6] 27)).heap.size by simp)
      have E72 := Lib.hid (show (w6.alloc (.cells #[.string (fpP (fillF k args b) p), .slice q6 (fpL (fillF k args b)).length c6] 27)).cell? ⟨w6.heap.size, 0, none⟩ = some (.string (fpP (fillF k args b) p)) by simp [go_sem])
      have E73 := Lib.hid (show (w6.alloc (.cells #[.string (fpP (fillF k args b) p), .slice q6 (fpL (fillF k args b)).length c6] 27)).cell? ⟨w6.heap.size, 1, none⟩ = some (.slice q6 (fpL (fillF k args b)).length c6) by simp [go_sem])
      clear hb6 hr6 hb67 x0 x1 x2 HI4 HR4 HW4 E50 E51
      have x0 := HI7.out.c0
      have x1 := HI7.out.c1
      have x2 := HI7.out.c2
      go_wp2_with fail
      generalize w6.alloc (.cells #[.string (fpP (fillF k args b) p), .slice q6 (fpL (fillF k args b)).length c6] 27) = W7 at *
      refine (HCF.out _ HI7.out).mono ?_
      rintro e w8 ⟨_, rfl, ⟨qC, cC, rfl, hrC, _⟩, hb8⟩
      have HI8 := Lib.hid (HI7.out.on hb8)
      have HRC := Lib.hid hrC
      have HI8' := Lib.hid (HI8.out.on (below1 w8 (.cells #[] 50)))
      have HB8 := Lib.hid hb8
      clear hb8 hrC x0 x1 x2
      go_wp2_with (at_builtin; refine wpList_copyN EM rfl _ _ 28 rfl 50 i0 _ 40 underB hi hz0 hz1 hzb rfl _ rfl qb b cb rfl HI8'.out.rb HMB.out HMB4.out ?_; intro qD cD w9 hm9 hb9)
      obtain ⟨qD', cD', he, hrD, _⟩ := hm9
      cases he
      have HB89 := Lib.hid (show Below w8.heap.size w8 w9 from (below1 w8 _).trans (hb9.mono (by simp)))
      have HI9 := Lib.hid (HI8.out.on HB89.out)
      have HRC9 := Lib.hid (HRC.out.grow HB89.out)
      have HRD9 := Lib.hid hrD
      clear hb9 hrD
      refine (holds_any k p qC qD args b cC cD w9 HRC9.out HRD9.out hla hlb).mono ?_
      rintro e w10 ⟨rfl, hb10⟩
      have HI10 := Lib.hid (HI9.out.on hb10)
      have HB10 := Lib.hid (HB8.out.trans ((HB89.out.trans (hb10.mono HB89.out.size)).mono HB8.out.size))
      have x0 := HI10.out.c0
      have x1 := HI10.out.c1
      have x2 := HI10.out.c2
      clear hb10 HI8 HI8' HI9 HRC HRC9 HRD9 HB8 HB89
      go_wp2_with fail
      refine (refholds_any k p qa qb args b ca cb w10 HI10.out.ra HI10.out.rb hla hlb HSA.out HSB.out).mono ?_
      rintro e w11 ⟨rfl, hb11⟩
      have HI11 := Lib.hid (HI10.out.on hb11)
      have HB11 := Lib.hid (HB10.out.trans (hb11.mono HB10.out.size))
      have y0 := (HB11.out.cell (p := ⟨w4.heap.size, 0, none⟩) HW7.out).trans E70.out
      have y1 := (HB11.out.cell (p := ⟨w4.heap.size, 1, none⟩) HW7.out).trans E71.out
      have y2 := (HB11.out.cell (p := ⟨w6.heap.size, 0, none⟩) HW7b.out).trans E72.out
      have y3 := (HB11.out.cell (p := ⟨w6.heap.size, 1, none⟩) HW7b.out).trans E73.out
      have HRX := Lib.hid (HR7.out.grow HB11.out)
      have HRY := Lib.hid (HR7b.out.grow HB11.out)
      clear hb11 x0 x1 x2
      generalize (holdsS k args b).1 = hx1 at *
      generalize (holdsS k args b).2 = hx2 at *
      generalize (fillF k args b).isSome = fs at *
      cases hx1 <;> cases hx2 <;> cases fs
      all_goals
        go_wp2_with fail
        refine (same_pairs _ _ q4 q6 c4 c6 w11 HRX.out HRY.out HZP.out HZL.out HZN.out).mono ?_
        rintro e w12 ⟨rfl, hb12⟩
        have HB12 := Lib.hid (HI11.out.on hb12).bel
        clear hb12
        go_wp2_with fail
        go_ret
        exact ⟨rfl, HB12.out⟩
end Go.Proofs.Ytmfaallipfhajaa

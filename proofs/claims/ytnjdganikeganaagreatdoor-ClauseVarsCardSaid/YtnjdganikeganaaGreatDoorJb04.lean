/-
  Joined of: VarWc, VarWd, VarW.
-/
import Derived.Test.YtnjdganikeganaaGreatDoorJb02
import Derived.Test.YtnjdganikeganaaGreatDoorJb03
set_option linter.unusedVariables false
set_option linter.unusedSimpArgs false
/-
  The walk of mandatelaw06.ClauseVars: a case.
-/
namespace Go.Proofs.YtnjdganikeganaaGreatDoor
open Go.RowKit

set_option maxHeartbeats 16000000 in
set_option maxRecDepth 100000 in
theorem vars_c (k : Kp) (w : World) (he : Env w) (ha : k.Arg w) (hck : k.check = true) (hb0 : k.body.length = 0) (hv0 : k.vars.length ≠ 0) :
    Calls Tryz.prog 6 #[k.agg] w fun e w' => e = .returned (.bool true) ∧ Below w.heap.size w w' := by
  have HS0 := Lib.hid (FS.start k w ha he)
  have HF := Lib.hid (show ∀ wx, Env wx → _ from fun wx hx => fixed_any wx hx)
  have HCP := Lib.hid (show ∀ wx, k.Arg wx → _ from fun wx hx => copy_arg k wx hx)
  have HFT := Lib.hid (show ∀ wx d, d.Arg wx ∧ d.q = k.q → Env wx → _ from fun wx d h1 h2 => fact_arg k d wx h1 h2)
  have HVS := Lib.hid (show ∀ wx d, d.Arg wx ∧ d.q = k.q → Env wx → _ from fun wx d h1 h2 => vars_arg k d wx h1 h2)
  have HRV := Lib.hid (show ∀ wx, k.Arg wx → _ from fun wx hx => refvars_any k wx hx.kin)
  have HRC := Lib.hid (show ∀ wx, k.Arg wx → _ from fun wx hx => refcheck_any k wx hx.kin)
  have HFA := Lib.hid (show k.fact = (k.check && (decide (k.body.length = 0) && decide (k.vars.length = 0))) from rfl)
  have hvl : k.vars.length ≤ 1000 := vars_bd k
  unfold Kp.agg at HCP HFT HVS HRV HRC ⊢
  generalize k.fact = ft at *
  generalize k.check = ck at *
  generalize k.vars = vs at *
  have Hhck := Lib.hid hck
  have Hhb0 := Lib.hid hb0
  have Hhv0 := Lib.hid hv0
  clear ha he hck hb0 hv0
  go_enter Tryz.func6, Tryz.ntmps6
  go_wp2_with (first
    | (go_at_call 13; refine (HF.out _ HS3.out.e).mono ?_; rintro e w4 ⟨rfl, hb4⟩; have HS4 := Lib.hid (HS3.out.on hb4); have HR4 := Lib.hid (HR3.out.grow hb4); have HT4 := Lib.hid (HT3.out.grow hb4); clear hb4)
    | (go_at_call 27; refine (HRV.out _ HS2.out.a).mono ?_; rintro e w3 ⟨q2, c2, rfl, hr3, hb3⟩; have HS3 := Lib.hid (HS2.out.on hb3); have HR3 := Lib.hid (HR2.out.grow hb3); have HT3 := Lib.hid hr3; clear hb3 hr3)
    | (go_at_call 26; refine (HVS.out _ d1 (Hid.out HD1) HS1.out.e).mono ?_; rintro e w2 ⟨q1, c1, rfl, hr2, hb2⟩; have HS2 := Lib.hid (HS1.out.on hb2); have HR2 := Lib.hid hr2; obtain ⟨y0, y1, y2, y3, y4, y5, y6⟩ := HS2.out.x.seven; clear hb2 hr2)
    | (go_at_call 19; refine (HCP.out _ HS0.out.a).mono ?_; rintro e w1 ⟨d1, HD1, rfl, hb1⟩; have HS1 := Lib.hid (HS0.out.on hb1); clear hb1))
  clear y0 y1 y2 y3 y4 y5 y6
  go_loopw [5] (fun i wr => ∃ j : Nat, j ≤ vs.length ∧ i = .int .i64 j ∧ Hid (FS k w wr) ∧ Hid (Rd encS 1 wr wr.heap.size q1 vs) ∧ Hid (Rd encS 1 wr wr.heap.size q2 vs)) (fun i _ => vs.length - (intOf i).toNat)
  case atStart => exact ⟨0, Nat.zero_le _, rfl, HS4, HR4, HT4⟩
  case round =>
    obtain ⟨j, hj, rfl, HSR, HR, HT⟩ := hrel
    by_cases hlt : j < vs.length
    · obtain ⟨b, o, rfl, hbb, x0⟩ := rdS_at HR.out j hlt
      obtain ⟨b2, o2, rfl, hbb2, x1⟩ := rdS_at HT.out j hlt
      have hj0 : (0 : Int) ≤ (j : Int) := by omega
      have hj1 : (j : Int) < (vs.length : Int) := by omega
      have hq : ((vs[j]).toList == (vs[j]).toList) = true := by simp
      have hq2 : ((vs[j]).toList != (vs[j]).toList) = false := by simp
      have HB := Lib.hid (fun n => below_drewN' (Below.refl wr.heap.size wr) n)
      go_wp2_with fail
      go_quiet (fail)
      go_wp2_with fail
      go_roundw
      case rel => exact ⟨j + 1, by omega, by go_num, Lib.hid (HSR.out.on (HB.out _)), Lib.hid (HR.out.grow (HB.out _)), Lib.hid (HT.out.grow (HB.out _))⟩
      case measure => simp [intOf]; omega
    · have HSS := Lib.hid (show ∀ X, FS k w X → _ from fun X hX => FS.cells hX)
      have hI := HSR
      have HDB := Lib.hid (HSR.out.on (Below.drew (Below.refl wr.heap.size wr)))
      have HDR := Lib.hid (FS.cells HDB.out)
      go_wp2_with fail
      clear HR HT
      have hck := Hhck.out
      have hb0 := Hhb0.out
      have hv0 := Hhv0.out
      subst hck
      clear Hhck Hhb0 Hhv0
      have hb1 : ((k.body.length : Int) == 0) = true := by simp [hb0]
      have hv1 : ((vs.length : Int) == 0) = false := beq_eq_false_iff_ne.2 (by omega)
      have HFB := Lib.hid (show ft = false by rw [HFA.out]; simp [hv0])
      clear hb0 hv0
      go_region_held3 (fun X => X.cell? ⟨w.heap.size, 0, none⟩ = some (.int .u8 k.head.kind) ∧ X.cell? ⟨w.heap.size, 1, none⟩ = some (.string k.head.who.v) ∧ X.cell? ⟨w.heap.size, 2, none⟩ = some (.string k.head.who.s) ∧ X.cell? ⟨w.heap.size, 3, none⟩ = some (.int .i64 k.head.who.n) ∧ X.cell? ⟨w.heap.size, 4, none⟩ = some (.string k.head.pred) ∧ X.cell? ⟨w.heap.size, 5, none⟩ = some (.slice k.head.ptr k.head.args.length k.head.cap) ∧ X.cell? ⟨w.heap.size, 6, none⟩ = some (.slice k.ptr k.body.length k.cap) ∧ Hid (FS k w X))
        (first
          | (exact HSS.out _ (Hid.out hI))
          | (exact HDR.out)
          | go_keep)
        (first
          | (go_at_call 28; refine (HFT.out _ d8 (by first | exact Hid.out HD8 | exact ⟨(Hid.out HD8).1.on (Below.drew (Below.refl _ _)), (Hid.out HD8).2⟩) (by first | exact (Hid.out hI).e | exact HDB.out.e)).mono ?_; rintro e wn ⟨rfl, hb9⟩; have hI' := Lib.hid (by first | exact (Hid.out hI).on hb9 | exact HDB.out.on hb9); have hI := hI'; clear hI' hb9)
          | (go_at_call 29; refine (HRC.out _ (by first | exact (Hid.out hI).a | exact HDB.out.a)).mono ?_; rintro e wn ⟨rfl, hb9⟩; have hI' := Lib.hid (by first | exact (Hid.out hI).on hb9 | exact HDB.out.on hb9); have hI := hI'; clear hI' hb9)
          | (go_at_call 19; refine (HCP.out _ (by first | exact (Hid.out hI).a | exact HDB.out.a)).mono ?_; rintro e w8 ⟨d8, HD8, rfl, hb8⟩; have hI' := Lib.hid (by first | exact (Hid.out hI).on hb8 | exact HDB.out.on hb8); have hI := hI'; clear hI' hb8))
      all_goals go_wp2_with fail
      all_goals go_ret
      all_goals exact ⟨by rw [HFB.out]; first | rfl | simp, (Hid.out hI).b⟩
end Go.Proofs.YtnjdganikeganaaGreatDoor

/-
  The walk of mandatelaw06.ClauseVars: a case.
-/
namespace Go.Proofs.YtnjdganikeganaaGreatDoor
open Go.RowKit

set_option maxHeartbeats 16000000 in
set_option maxRecDepth 100000 in
theorem vars_d (k : Kp) (w : World) (he : Env w) (ha : k.Arg w) (hck : k.check = true) (hb0 : k.body.length = 0) (hv0 : k.vars.length = 0) :
    Calls Tryz.prog 6 #[k.agg] w fun e w' => e = .returned (.bool true) ∧ Below w.heap.size w w' := by
  have HS0 := Lib.hid (FS.start k w ha he)
  have HF := Lib.hid (show ∀ wx, Env wx → _ from fun wx hx => fixed_any wx hx)
  have HCP := Lib.hid (show ∀ wx, k.Arg wx → _ from fun wx hx => copy_arg k wx hx)
  have HFT := Lib.hid (show ∀ wx d, d.Arg wx ∧ d.q = k.q → Env wx → _ from fun wx d h1 h2 => fact_arg k d wx h1 h2)
  have HVS := Lib.hid (show ∀ wx d, d.Arg wx ∧ d.q = k.q → Env wx → _ from fun wx d h1 h2 => vars_arg k d wx h1 h2)
  have HRV := Lib.hid (show ∀ wx, k.Arg wx → _ from fun wx hx => refvars_any k wx hx.kin)
  have HRC := Lib.hid (show ∀ wx, k.Arg wx → _ from fun wx hx => refcheck_any k wx hx.kin)
  have HFA := Lib.hid (show k.fact = (k.check && (decide (k.body.length = 0) && decide (k.vars.length = 0))) from rfl)
  have hvl : k.vars.length ≤ 1000 := vars_bd k
  unfold Kp.agg at HCP HFT HVS HRV HRC ⊢
  generalize k.fact = ft at *
  generalize k.check = ck at *
  generalize k.vars = vs at *
  have Hhck := Lib.hid hck
  have Hhb0 := Lib.hid hb0
  have Hhv0 := Lib.hid hv0
  clear ha he hck hb0 hv0
  go_enter Tryz.func6, Tryz.ntmps6
  go_wp2_with (first
    | (go_at_call 13; refine (HF.out _ HS3.out.e).mono ?_; rintro e w4 ⟨rfl, hb4⟩; have HS4 := Lib.hid (HS3.out.on hb4); have HR4 := Lib.hid (HR3.out.grow hb4); have HT4 := Lib.hid (HT3.out.grow hb4); clear hb4)
    | (go_at_call 27; refine (HRV.out _ HS2.out.a).mono ?_; rintro e w3 ⟨q2, c2, rfl, hr3, hb3⟩; have HS3 := Lib.hid (HS2.out.on hb3); have HR3 := Lib.hid (HR2.out.grow hb3); have HT3 := Lib.hid hr3; clear hb3 hr3)
    | (go_at_call 26; refine (HVS.out _ d1 (Hid.out HD1) HS1.out.e).mono ?_; rintro e w2 ⟨q1, c1, rfl, hr2, hb2⟩; have HS2 := Lib.hid (HS1.out.on hb2); have HR2 := Lib.hid hr2; obtain ⟨y0, y1, y2, y3, y4, y5, y6⟩ := HS2.out.x.seven; clear hb2 hr2)
    | (go_at_call 19; refine (HCP.out _ HS0.out.a).mono ?_; rintro e w1 ⟨d1, HD1, rfl, hb1⟩; have HS1 := Lib.hid (HS0.out.on hb1); clear hb1))
  clear y0 y1 y2 y3 y4 y5 y6
  go_loopw [5] (fun i wr => ∃ j : Nat, j ≤ vs.length ∧ i = .int .i64 j ∧ Hid (FS k w wr) ∧ Hid (Rd encS 1 wr wr.heap.size q1 vs) ∧ Hid (Rd encS 1 wr wr.heap.size q2 vs)) (fun i _ => vs.length - (intOf i).toNat)
  case atStart => exact ⟨0, Nat.zero_le _, rfl, HS4, HR4, HT4⟩
  case round =>
    obtain ⟨j, hj, rfl, HSR, HR, HT⟩ := hrel
    by_cases hlt : j < vs.length
    · obtain ⟨b, o, rfl, hbb, x0⟩ := rdS_at HR.out j hlt
      obtain ⟨b2, o2, rfl, hbb2, x1⟩ := rdS_at HT.out j hlt
      have hj0 : (0 : Int) ≤ (j : Int) := by omega
      have hj1 : (j : Int) < (vs.length : Int) := by omega
      have hq : ((vs[j]).toList == (vs[j]).toList) = true := by simp
      have hq2 : ((vs[j]).toList != (vs[j]).toList) = false := by simp
      have HB := Lib.hid (fun n => below_drewN' (Below.refl wr.heap.size wr) n)
      go_wp2_with fail
      go_quiet (fail)
      go_wp2_with fail
      go_roundw
      case rel => exact ⟨j + 1, by omega, by go_num, Lib.hid (HSR.out.on (HB.out _)), Lib.hid (HR.out.grow (HB.out _)), Lib.hid (HT.out.grow (HB.out _))⟩
      case measure => simp [intOf]; omega
    · have HSS := Lib.hid (show ∀ X, FS k w X → _ from fun X hX => FS.cells hX)
      have hI := HSR
      have HDB := Lib.hid (HSR.out.on (Below.drew (Below.refl wr.heap.size wr)))
      have HDR := Lib.hid (FS.cells HDB.out)
      go_wp2_with fail
      clear HR HT
      have hck := Hhck.out
      have hb0 := Hhb0.out
      have hv0 := Hhv0.out
      subst hck
      clear Hhck Hhb0 Hhv0
      have hb1 : ((k.body.length : Int) == 0) = true := by simp [hb0]
      have hv1 : ((vs.length : Int) == 0) = true := by simp [hv0]
      have HFB := Lib.hid (show ft = true by rw [HFA.out, hb0, hv0]; rfl)
      clear hb0 hv0
      go_region_held3 (fun X => X.cell? ⟨w.heap.size, 0, none⟩ = some (.int .u8 k.head.kind) ∧ X.cell? ⟨w.heap.size, 1, none⟩ = some (.string k.head.who.v) ∧ X.cell? ⟨w.heap.size, 2, none⟩ = some (.string k.head.who.s) ∧ X.cell? ⟨w.heap.size, 3, none⟩ = some (.int .i64 k.head.who.n) ∧ X.cell? ⟨w.heap.size, 4, none⟩ = some (.string k.head.pred) ∧ X.cell? ⟨w.heap.size, 5, none⟩ = some (.slice k.head.ptr k.head.args.length k.head.cap) ∧ X.cell? ⟨w.heap.size, 6, none⟩ = some (.slice k.ptr k.body.length k.cap) ∧ Hid (FS k w X))
        (first
          | (exact HSS.out _ (Hid.out hI))
          | (exact HDR.out)
          | go_keep)
        (first
          | (go_at_call 28; refine (HFT.out _ d8 (by first | exact Hid.out HD8 | exact ⟨(Hid.out HD8).1.on (Below.drew (Below.refl _ _)), (Hid.out HD8).2⟩) (by first | exact (Hid.out hI).e | exact HDB.out.e)).mono ?_; rintro e wn ⟨rfl, hb9⟩; have hI' := Lib.hid (by first | exact (Hid.out hI).on hb9 | exact HDB.out.on hb9); have hI := hI'; clear hI' hb9)
          | (go_at_call 29; refine (HRC.out _ (by first | exact (Hid.out hI).a | exact HDB.out.a)).mono ?_; rintro e wn ⟨rfl, hb9⟩; have hI' := Lib.hid (by first | exact (Hid.out hI).on hb9 | exact HDB.out.on hb9); have hI := hI'; clear hI' hb9)
          | (go_at_call 19; refine (HCP.out _ (by first | exact (Hid.out hI).a | exact HDB.out.a)).mono ?_; rintro e w8 ⟨d8, HD8, rfl, hb8⟩; have hI' := Lib.hid (by first | exact (Hid.out hI).on hb8 | exact HDB.out.on hb8); have hI := hI'; clear hI' hb8))
      all_goals go_wp2_with fail
      all_goals go_ret
      all_goals exact ⟨by rw [HFB.out]; first | rfl | simp, (Hid.out hI).b⟩
end Go.Proofs.YtnjdganikeganaaGreatDoor

/-
  The walk of mandatelaw06.ClauseVars: it answers true.
-/
namespace Go.Proofs.YtnjdganikeganaaGreatDoor
open Go.RowKit

theorem vars_walk (k : Kp) (w : World) (he : Env w) (ha : k.Arg w) :
    Calls Tryz.prog 6 #[k.agg] w fun e w' => e = .returned (.bool true) ∧ Below w.heap.size w w' := by
  cases hck : k.check with
  | false => exact vars_a k w he ha hck
  | true =>
    by_cases hb0 : k.body.length = 0
    · by_cases hv0 : k.vars.length = 0
      · exact vars_d k w he ha hck hb0 hv0
      · exact vars_c k w he ha hck hb0 hv0
    · exact vars_b k w he ha hck hb0
end Go.Proofs.YtnjdganikeganaaGreatDoor

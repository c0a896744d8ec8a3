/-
  Joined of: VarWa, VarWb.
-/
import Derived.Test.YtnjdganikeganaaGreatDoorJb02
set_option linter.unusedVariables false
set_option linter.unusedSimpArgs false
/-
  The walk of mandatelaw06.ClauseVars: a case.
-/
namespace Go.Proofs.YtnjdganikeganaaGreatDoor
open Go.RowKit

set_option maxHeartbeats 16000000 in
set_option maxRecDepth 100000 in
theorem vars_a (k : Kp) (w : World) (he : Env w) (ha : k.Arg w) (hck : k.check = false) :
    Calls Tryz.prog 6 #[k.agg] w fun e w' => e = .returned (.bool true) ∧ Below w.heap.size w w' := by
  have HS0 := Lib.hid (FS.start k w ha he)
  have HF := Lib.hid (show ∀ wx, Env wx → _ from fun wx hx => fixed_any wx hx)
  have HCP := Lib.hid (show ∀ wx, k.Arg wx → _ from fun wx hx => copy_arg k wx hx)
  have HFT := Lib.hid (show ∀ wx d, d.Arg wx ∧ d.q = k.q → Env wx → _ from fun wx d h1 h2 => fact_arg k d wx h1 h2)
  have HVS := Lib.hid (show ∀ wx d, d.Arg wx ∧ d.q = k.q → Env wx → _ from fun wx d h1 h2 => vars_arg k d wx h1 h2)
  have HRV := Lib.hid (show ∀ wx, k.Arg wx → _ from fun wx hx => refvars_any k wx hx.kin)
  have HRC := Lib.hid (show ∀ wx, k.Arg wx → _ from fun wx hx => refcheck_any k wx hx.kin)
  have HFA := Lib.hid (show k.fact = (k.check && (decide (k.body.length = 0) && decide (k.vars.length = 0))) from rfl)
  have hvl : k.vars.length ≤ 1000 := vars_bd k
  unfold Kp.agg at HCP HFT HVS HRV HRC ⊢
  generalize k.fact = ft at *
  generalize k.check = ck at *
  generalize k.vars = vs at *
  have Hhck := Lib.hid hck
  clear ha he hck
  go_enter Tryz.func6, Tryz.ntmps6
  go_wp2_with (first
    | (go_at_call 13; refine (HF.out _ HS3.out.e).mono ?_; rintro e w4 ⟨rfl, hb4⟩; have HS4 := Lib.hid (HS3.out.on hb4); have HR4 := Lib.hid (HR3.out.grow hb4); have HT4 := Lib.hid (HT3.out.grow hb4); clear hb4)
    | (go_at_call 27; refine (HRV.out _ HS2.out.a).mono ?_; rintro e w3 ⟨q2, c2, rfl, hr3, hb3⟩; have HS3 := Lib.hid (HS2.out.on hb3); have HR3 := Lib.hid (HR2.out.grow hb3); have HT3 := Lib.hid hr3; clear hb3 hr3)
    | (go_at_call 26; refine (HVS.out _ d1 (Hid.out HD1) HS1.out.e).mono ?_; rintro e w2 ⟨q1, c1, rfl, hr2, hb2⟩; have HS2 := Lib.hid (HS1.out.on hb2); have HR2 := Lib.hid hr2; obtain ⟨y0, y1, y2, y3, y4, y5, y6⟩ := HS2.out.x.seven; clear hb2 hr2)
    | (go_at_call 19; refine (HCP.out _ HS0.out.a).mono ?_; rintro e w1 ⟨d1, HD1, rfl, hb1⟩; have HS1 := Lib.hid (HS0.out.on hb1); clear hb1))
  clear y0 y1 y2 y3 y4 y5 y6
  go_loopw [5] (fun i wr => ∃ j : Nat, j ≤ vs.length ∧ i = .int .i64 j ∧ Hid (FS k w wr) ∧ Hid (Rd encS 1 wr wr.heap.size q1 vs) ∧ Hid (Rd encS 1 wr wr.heap.size q2 vs)) (fun i _ => vs.length - (intOf i).toNat)
  case atStart => exact ⟨0, Nat.zero_le _, rfl, HS4, HR4, HT4⟩
  case round =>
    obtain ⟨j, hj, rfl, HSR, HR, HT⟩ := hrel
    by_cases hlt : j < vs.length
    · obtain ⟨b, o, rfl, hbb, x0⟩ := rdS_at HR.out j hlt
      obtain ⟨b2, o2, rfl, hbb2, x1⟩ := rdS_at HT.out j hlt
      have hj0 : (0 : Int) ≤ (j : Int) := by omega
      have hj1 : (j : Int) < (vs.length : Int) := by omega
      have hq : ((vs[j]).toList == (vs[j]).toList) = true := by simp
      have hq2 : ((vs[j]).toList != (vs[j]).toList) = false := by simp
      have HB := Lib.hid (fun n => below_drewN' (Below.refl wr.heap.size wr) n)
      go_wp2_with fail
      go_quiet (fail)
      go_wp2_with fail
      go_roundw
      case rel => exact ⟨j + 1, by omega, by go_num, Lib.hid (HSR.out.on (HB.out _)), Lib.hid (HR.out.grow (HB.out _)), Lib.hid (HT.out.grow (HB.out _))⟩
      case measure => simp [intOf]; omega
    · have HSS := Lib.hid (show ∀ X, FS k w X → _ from fun X hX => FS.cells hX)
      have hI := HSR
      have HDB := Lib.hid (HSR.out.on (Below.drew (Below.refl wr.heap.size wr)))
      have HDR := Lib.hid (FS.cells HDB.out)
      go_wp2_with fail
      clear HR HT HSS HDR hI
      have hck := Hhck.out
      subst hck
      clear Hhck
      have HFB := Lib.hid (show ft = false by rw [HFA.out]; rfl)
      have hft := HFB.out
      subst hft
      refine wp_region_held_drew (S := fun X => X.cell? ⟨w.heap.size, 0, none⟩ = some (.int .u8 k.head.kind) ∧ X.cell? ⟨w.heap.size, 1, none⟩ = some (.string k.head.who.v) ∧ X.cell? ⟨w.heap.size, 2, none⟩ = some (.string k.head.who.s) ∧ X.cell? ⟨w.heap.size, 3, none⟩ = some (.int .i64 k.head.who.n) ∧ X.cell? ⟨w.heap.size, 4, none⟩ = some (.string k.head.pred) ∧ X.cell? ⟨w.heap.size, 5, none⟩ = some (.slice k.head.ptr k.head.args.length k.head.cap) ∧ X.cell? ⟨w.heap.size, 6, none⟩ = some (.slice k.ptr k.body.length k.cap) ∧ Hid (FS k w X)) (by kernel_rfl) (FS.cells HDB.out) (fun hHeld => ?_)
      refine wpAnyH_take (i := 0) (v := ?_) rfl (by kernel_rfl) (by kernel_rfl) (by kernel_rfl) (fun _ _ _ h => h) (Or.inl ⟨by rfl, ?hy⟩) (by assumption) ?_
      case hy =>
        intro w hSw
        (try dsimp only at hSw)
        go_simp
        all_goals with_reducible rfl
      (try simp only [Act.put, List.setIfInBounds_toArray, List.set_cons_zero, List.set_cons_succ])
      refine wpAnyH_take (i := 3) (v := ?_) rfl (by kernel_rfl) (by kernel_rfl) (by kernel_rfl) (fun _ _ _ h => h) (Or.inl ⟨by rfl, ?hy⟩) (by assumption) ?_
      case hy =>
        intro w hSw
        (try dsimp only at hSw)
        go_simp
        all_goals with_reducible rfl
      (try simp only [Act.put, List.setIfInBounds_toArray, List.set_cons_zero, List.set_cons_succ])
      refine wpAnyH_ready (rs := [1]) (by kernel_rfl) (by simp) ?_
      refine AllReadyH.cons rfl (fun K hK => ?_) AllReadyH.nil
      go_simp
      go_at_call 19
      refine (HCP.out _ HDB.out.a).mono ?_
      rintro e w8 ⟨d8, HD8, rfl, hb8⟩
      have HI8 := Lib.hid (HDB.out.on hb8)
      clear hb8
      refine hK.out _ _ ?_ (fun hHeld => ?_)
      · exact FS.cells HI8.out
      clear hK K
      (try simp only [Act.put, List.setIfInBounds_toArray, List.set_cons_zero, List.set_cons_succ])
      refine wpAnyH_ready (rs := [2]) (by kernel_rfl) (by simp) ?_
      refine AllReadyH.cons rfl (fun K hK => ?_) AllReadyH.nil
      go_simp
      go_at_call 28
      refine (HFT.out _ d8 (Hid.out HD8) HI8.out.e).mono ?_
      rintro e w9 ⟨rfl, hb9⟩
      have HI9 := Lib.hid (HI8.out.on hb9)
      clear hb9
      refine hK.out _ _ ?_ (fun hHeld => ?_)
      · exact FS.cells HI9.out
      clear hK K
      (try simp only [Act.put, List.setIfInBounds_toArray, List.set_cons_zero, List.set_cons_succ])
      refine wpAnyH_ready (rs := [4]) (by kernel_rfl) (by simp) ?_
      refine AllReadyH.cons rfl (fun K hK => ?_) AllReadyH.nil
      go_simp
      go_at_call 29
      refine (HRC.out _ HI9.out.a).mono ?_
      rintro e w10 ⟨rfl, hb10⟩
      have HI10 := Lib.hid (HI9.out.on hb10)
      clear hb10
      refine hK.out _ _ ?_ (fun hHeld => ?_)
      · exact FS.cells HI10.out
      clear hK K
      (try simp only [Act.put, List.setIfInBounds_toArray, List.set_cons_zero, List.set_cons_succ])
      refine wpAnyH_take (i := 5) (v := .bool false) rfl (by kernel_rfl) (by kernel_rfl) (by kernel_rfl) (fun _ _ _ h => h) (Or.inl ⟨by rfl, ?hy⟩) (by assumption) ?_
      case hy =>
        intro w hSw
        (try dsimp only at hSw)
        go_simp
        all_goals with_reducible rfl
      (try simp only [Act.put, List.setIfInBounds_toArray, List.set_cons_zero, List.set_cons_succ])
      refine wpAnyH_take (i := 6) (v := undef) rfl (by kernel_rfl) (by kernel_rfl) (by kernel_rfl) (fun _ _ _ h => h) (Or.inr ⟨by simp [Region.wanted, yielded], rfl⟩) (by assumption) ?_
      (try simp only [Act.put, List.setIfInBounds_toArray, List.set_cons_zero, List.set_cons_succ])
      refine wpAnyH_take (i := 7) (v := undef) rfl (by kernel_rfl) (by kernel_rfl) (by kernel_rfl) (fun _ _ _ h => h) (Or.inr ⟨by simp [Region.wanted, yielded], rfl⟩) (by assumption) ?_
      (try simp only [Act.put, List.setIfInBounds_toArray, List.set_cons_zero, List.set_cons_succ])
      refine wpAnyH_take (i := 8) (v := undef) rfl (by kernel_rfl) (by kernel_rfl) (by kernel_rfl) (fun _ _ _ h => h) (Or.inr ⟨by simp [Region.wanted, yielded], rfl⟩) (by assumption) ?_
      (try simp only [Act.put, List.setIfInBounds_toArray, List.set_cons_zero, List.set_cons_succ])
      refine wpAnyH_take (i := 9) (v := undef) rfl (by kernel_rfl) (by kernel_rfl) (by kernel_rfl) (fun _ _ _ h => h) (Or.inr ⟨by simp [Region.wanted, yielded], rfl⟩) (by assumption) ?_
      (try simp only [Act.put, List.setIfInBounds_toArray, List.set_cons_zero, List.set_cons_succ])
      refine wpAnyH_take (i := 10) (v := .bool false) rfl (by kernel_rfl) (by kernel_rfl) (by kernel_rfl) (fun _ _ _ h => h) (Or.inl ⟨by rfl, ?hy⟩) (by assumption) ?_
      case hy =>
        intro w hSw
        (try dsimp only at hSw)
        go_simp
        all_goals with_reducible rfl
      (try simp only [Act.put, List.setIfInBounds_toArray, List.set_cons_zero, List.set_cons_succ])
      refine wpAnyH_take (i := 11) (v := .bool false) rfl (by kernel_rfl) (by kernel_rfl) (by kernel_rfl) (fun _ _ _ h => h) (Or.inl ⟨by rfl, ?hy⟩) (by assumption) ?_
      case hy =>
        intro w hSw
        (try dsimp only at hSw)
        go_simp
        all_goals with_reducible rfl
      (try simp only [Act.put, List.setIfInBounds_toArray, List.set_cons_zero, List.set_cons_succ])
      refine wpAnyH_take (i := 12) (v := undef) rfl (by kernel_rfl) (by kernel_rfl) (by kernel_rfl) (fun _ _ _ h => h) (Or.inr ⟨by simp [Region.wanted, yielded], rfl⟩) (by assumption) ?_
      (try simp only [Act.put, List.setIfInBounds_toArray, List.set_cons_zero, List.set_cons_succ])
      refine wpAnyH_take (i := 13) (v := undef) rfl (by kernel_rfl) (by kernel_rfl) (by kernel_rfl) (fun _ _ _ h => h) (Or.inr ⟨by simp [Region.wanted, yielded], rfl⟩) (by assumption) ?_
      (try simp only [Act.put, List.setIfInBounds_toArray, List.set_cons_zero, List.set_cons_succ])
      refine wpAnyH_take (i := 14) (v := undef) rfl (by kernel_rfl) (by kernel_rfl) (by kernel_rfl) (fun _ _ _ h => h) (Or.inr ⟨by simp [Region.wanted, yielded], rfl⟩) (by assumption) ?_
      (try simp only [Act.put, List.setIfInBounds_toArray, List.set_cons_zero, List.set_cons_succ])
      refine wpAnyH_take (i := 15) (v := .bool false) rfl (by kernel_rfl) (by kernel_rfl) (by kernel_rfl) (fun _ _ _ h => h) (Or.inl ⟨by rfl, ?hy⟩) (by assumption) ?_
      case hy =>
        intro w hSw
        (try dsimp only at hSw)
        go_simp
        all_goals with_reducible rfl
      (try simp only [Act.put, List.setIfInBounds_toArray, List.set_cons_zero, List.set_cons_succ])
      refine wpAnyH_take (i := 16) (v := .bool true) rfl (by kernel_rfl) (by kernel_rfl) (by kernel_rfl) (fun _ _ _ h => h) (Or.inl ⟨by rfl, ?hy⟩) (by assumption) ?_
      case hy =>
        intro w hSw
        (try dsimp only at hSw)
        go_simp
        all_goals with_reducible rfl
      (try simp only [Act.put, List.setIfInBounds_toArray, List.set_cons_zero, List.set_cons_succ])
      refine wpAnyH_take (i := 17) (v := .bool true) rfl (by kernel_rfl) (by kernel_rfl) (by kernel_rfl) (fun _ _ _ h => h) (Or.inl ⟨by rfl, ?hy⟩) (by assumption) ?_
      case hy =>
        intro w hSw
        (try dsimp only at hSw)
        go_simp
        all_goals with_reducible rfl
      (try simp only [Act.put, List.setIfInBounds_toArray, List.set_cons_zero, List.set_cons_succ])
      refine wpAnyH_done (by kernel_rfl) ?_ _
      go_wp2_with fail
      go_ret
      exact ⟨by first | rfl | simp, HI10.out.b⟩
end Go.Proofs.YtnjdganikeganaaGreatDoor

/-
  The walk of mandatelaw06.ClauseVars: a case.
-/
namespace Go.Proofs.YtnjdganikeganaaGreatDoor
open Go.RowKit

set_option maxHeartbeats 16000000 in
set_option maxRecDepth 100000 in
theorem vars_b (k : Kp) (w : World) (he : Env w) (ha : k.Arg w) (hck : k.check = true) (hb0 : k.body.length ≠ 0) :
    Calls Tryz.prog 6 #[k.agg] w fun e w' => e = .returned (.bool true) ∧ Below w.heap.size w w' := by
  have HS0 := Lib.hid (FS.start k w ha he)
  have HF := Lib.hid (show ∀ wx, Env wx → _ from fun wx hx => fixed_any wx hx)
  have HCP := Lib.hid (show ∀ wx, k.Arg wx → _ from fun wx hx => copy_arg k wx hx)
  have HFT := Lib.hid (show ∀ wx d, d.Arg wx ∧ d.q = k.q → Env wx → _ from fun wx d h1 h2 => fact_arg k d wx h1 h2)
  have HVS := Lib.hid (show ∀ wx d, d.Arg wx ∧ d.q = k.q → Env wx → _ from fun wx d h1 h2 => vars_arg k d wx h1 h2)
  have HRV := Lib.hid (show ∀ wx, k.Arg wx → _ from fun wx hx => refvars_any k wx hx.kin)
  have HRC := Lib.hid (show ∀ wx, k.Arg wx → _ from fun wx hx => refcheck_any k wx hx.kin)
  have HFA := Lib.hid (show k.fact = (k.check && (decide (k.body.length = 0) && decide (k.vars.length = 0))) from rfl)
  have hvl : k.vars.length ≤ 1000 := vars_bd k
  unfold Kp.agg at HCP HFT HVS HRV HRC ⊢
  generalize k.fact = ft at *
  generalize k.check = ck at *
  generalize k.vars = vs at *
  have Hhck := Lib.hid hck
  have Hhb0 := Lib.hid hb0
  clear ha he hck hb0
  go_enter Tryz.func6, Tryz.ntmps6
  go_wp2_with (first
    | (go_at_call 13; refine (HF.out _ HS3.out.e).mono ?_; rintro e w4 ⟨rfl, hb4⟩; have HS4 := Lib.hid (HS3.out.on hb4); have HR4 := Lib.hid (HR3.out.grow hb4); have HT4 := Lib.hid (HT3.out.grow hb4); clear hb4)
    | (go_at_call 27; refine (HRV.out _ HS2.out.a).mono ?_; rintro e w3 ⟨q2, c2, rfl, hr3, hb3⟩; have HS3 := Lib.hid (HS2.out.on hb3); have HR3 := Lib.hid (HR2.out.grow hb3); have HT3 := Lib.hid hr3; clear hb3 hr3)
    | (go_at_call 26; refine (HVS.out _ d1 (Hid.out HD1) HS1.out.e).mono ?_; rintro e w2 ⟨q1, c1, rfl, hr2, hb2⟩; have HS2 := Lib.hid (HS1.out.on hb2); have HR2 := Lib.hid hr2; obtain ⟨y0, y1, y2, y3, y4, y5, y6⟩ := HS2.out.x.seven; clear hb2 hr2)
    | (go_at_call 19; refine (HCP.out _ HS0.out.a).mono ?_; rintro e w1 ⟨d1, HD1, rfl, hb1⟩; have HS1 := Lib.hid (HS0.out.on hb1); clear hb1))
  clear y0 y1 y2 y3 y4 y5 y6
  go_loopw [5] (fun i wr => ∃ j : Nat, j ≤ vs.length ∧ i = .int .i64 j ∧ Hid (FS k w wr) ∧ Hid (Rd encS 1 wr wr.heap.size q1 vs) ∧ Hid (Rd encS 1 wr wr.heap.size q2 vs)) (fun i _ => vs.length - (intOf i).toNat)
  case atStart => exact ⟨0, Nat.zero_le _, rfl, HS4, HR4, HT4⟩
  case round =>
    obtain ⟨j, hj, rfl, HSR, HR, HT⟩ := hrel
    by_cases hlt : j < vs.length
    · obtain ⟨b, o, rfl, hbb, x0⟩ := rdS_at HR.out j hlt
      obtain ⟨b2, o2, rfl, hbb2, x1⟩ := rdS_at HT.out j hlt
      have hj0 : (0 : Int) ≤ (j : Int) := by omega
      have hj1 : (j : Int) < (vs.length : Int) := by omega
      have hq : ((vs[j]).toList == (vs[j]).toList) = true := by simp
      have hq2 : ((vs[j]).toList != (vs[j]).toList) = false := by simp
      have HB := Lib.hid (fun n => below_drewN' (Below.refl wr.heap.size wr) n)
      go_wp2_with fail
      go_quiet (fail)
      go_wp2_with fail
      go_roundw
      case rel => exact ⟨j + 1, by omega, by go_num, Lib.hid (HSR.out.on (HB.out _)), Lib.hid (HR.out.grow (HB.out _)), Lib.hid (HT.out.grow (HB.out _))⟩
      case measure => simp [intOf]; omega
    · have HSS := Lib.hid (show ∀ X, FS k w X → _ from fun X hX => FS.cells hX)
      have hI := HSR
      have HDB := Lib.hid (HSR.out.on (Below.drew (Below.refl wr.heap.size wr)))
      have HDR := Lib.hid (FS.cells HDB.out)
      go_wp2_with fail
      clear HR HT HSS HDR hI
      have hck := Hhck.out
      have hb0 := Hhb0.out
      subst hck
      clear Hhck Hhb0
      have hb1 : ((k.body.length : Int) == 0) = false := beq_eq_false_iff_ne.2 (by omega)
      have HFB := Lib.hid (show ft = false by rw [HFA.out]; simp [hb0])
      clear hb0
      have hft := HFB.out
      subst hft
      refine wp_region_held_drew (S := fun X => X.cell? ⟨w.heap.size, 0, none⟩ = some (.int .u8 k.head.kind) ∧ X.cell? ⟨w.heap.size, 1, none⟩ = some (.string k.head.who.v) ∧ X.cell? ⟨w.heap.size, 2, none⟩ = some (.string k.head.who.s) ∧ X.cell? ⟨w.heap.size, 3, none⟩ = some (.int .i64 k.head.who.n) ∧ X.cell? ⟨w.heap.size, 4, none⟩ = some (.string k.head.pred) ∧ X.cell? ⟨w.heap.size, 5, none⟩ = some (.slice k.head.ptr k.head.args.length k.head.cap) ∧ X.cell? ⟨w.heap.size, 6, none⟩ = some (.slice k.ptr k.body.length k.cap) ∧ Hid (FS k w X)) (by kernel_rfl) (FS.cells HDB.out) (fun hHeld => ?_)
      refine wpAnyH_take (i := 0) (v := ?_) rfl (by kernel_rfl) (by kernel_rfl) (by kernel_rfl) (fun _ _ _ h => h) (Or.inl ⟨by rfl, ?hy⟩) (by assumption) ?_
      case hy =>
        intro w hSw
        (try dsimp only at hSw)
        go_simp
        all_goals with_reducible rfl
      (try simp only [Act.put, List.setIfInBounds_toArray, List.set_cons_zero, List.set_cons_succ])
      refine wpAnyH_take (i := 3) (v := ?_) rfl (by kernel_rfl) (by kernel_rfl) (by kernel_rfl) (fun _ _ _ h => h) (Or.inl ⟨by rfl, ?hy⟩) (by assumption) ?_
      case hy =>
        intro w hSw
        (try dsimp only at hSw)
        go_simp
        all_goals with_reducible rfl
      (try simp only [Act.put, List.setIfInBounds_toArray, List.set_cons_zero, List.set_cons_succ])
      refine wpAnyH_ready (rs := [1]) (by kernel_rfl) (by simp) ?_
      refine AllReadyH.cons rfl (fun K hK => ?_) AllReadyH.nil
      go_simp
      go_at_call 19
      refine (HCP.out _ HDB.out.a).mono ?_
      rintro e w8 ⟨d8, HD8, rfl, hb8⟩
      have HI8 := Lib.hid (HDB.out.on hb8)
      clear hb8
      refine hK.out _ _ ?_ (fun hHeld => ?_)
      · exact FS.cells HI8.out
      clear hK K
      (try simp only [Act.put, List.setIfInBounds_toArray, List.set_cons_zero, List.set_cons_succ])
      refine wpAnyH_ready (rs := [2]) (by kernel_rfl) (by simp) ?_
      refine AllReadyH.cons rfl (fun K hK => ?_) AllReadyH.nil
      go_simp
      go_at_call 28
      refine (HFT.out _ d8 (Hid.out HD8) HI8.out.e).mono ?_
      rintro e w9 ⟨rfl, hb9⟩
      have HI9 := Lib.hid (HI8.out.on hb9)
      clear hb9
      refine hK.out _ _ ?_ (fun hHeld => ?_)
      · exact FS.cells HI9.out
      clear hK K
      (try simp only [Act.put, List.setIfInBounds_toArray, List.set_cons_zero, List.set_cons_succ])
      refine wpAnyH_ready (rs := [4]) (by kernel_rfl) (by simp) ?_
      refine AllReadyH.cons rfl (fun K hK => ?_) AllReadyH.nil
      go_simp
      go_at_call 29
      refine (HRC.out _ HI9.out.a).mono ?_
      rintro e w10 ⟨rfl, hb10⟩
      have HI10 := Lib.hid (HI9.out.on hb10)
      clear hb10
      refine hK.out _ _ ?_ (fun hHeld => ?_)
      · exact FS.cells HI10.out
      clear hK K
      (try simp only [Act.put, List.setIfInBounds_toArray, List.set_cons_zero, List.set_cons_succ])
      refine wpAnyH_take (i := 5) (v := .bool true) rfl (by kernel_rfl) (by kernel_rfl) (by kernel_rfl) (fun _ _ _ h => h) (Or.inl ⟨by rfl, ?hy⟩) (by assumption) ?_
      case hy =>
        intro w hSw
        (try dsimp only at hSw)
        go_simp
        all_goals with_reducible rfl
      (try simp only [Act.put, List.setIfInBounds_toArray, List.set_cons_zero, List.set_cons_succ])
      refine wpAnyH_take (i := 6) (v := ?_) rfl (by kernel_rfl) (by kernel_rfl) (by kernel_rfl) (fun _ _ _ h => h) (Or.inl ⟨by rfl, ?hy⟩) (by assumption) ?_
      case hy =>
        intro w hSw
        (try dsimp only at hSw)
        go_simp
        all_goals with_reducible rfl
      (try simp only [Act.put, List.setIfInBounds_toArray, List.set_cons_zero, List.set_cons_succ])
      refine wpAnyH_take (i := 7) (v := ?_) rfl (by kernel_rfl) (by kernel_rfl) (by kernel_rfl) (fun _ _ _ h => h) (Or.inl ⟨by rfl, ?hy⟩) (by assumption) ?_
      case hy =>
        intro w hSw
        (try dsimp only at hSw)
        go_simp
        all_goals with_reducible rfl
      (try simp only [Act.put, List.setIfInBounds_toArray, List.set_cons_zero, List.set_cons_succ])
      refine wpAnyH_take (i := 8) (v := ?_) rfl (by kernel_rfl) (by kernel_rfl) (by kernel_rfl) (fun _ _ _ h => h) (Or.inl ⟨by rfl, ?hy⟩) (by assumption) ?_
      case hy =>
        intro w hSw
        (try dsimp only at hSw)
        go_simp
        all_goals with_reducible rfl
      (try simp only [Act.put, List.setIfInBounds_toArray, List.set_cons_zero, List.set_cons_succ])
      refine wpAnyH_take (i := 9) (v := .bool false) rfl (by kernel_rfl) (by kernel_rfl) (by kernel_rfl) (fun _ _ _ h => h) (Or.inl ⟨by rfl, ?hy⟩) (by assumption) ?_
      case hy =>
        intro w hSw
        (try dsimp only at hSw)
        go_simp
        all_goals with_reducible rfl
      (try simp only [Act.put, List.setIfInBounds_toArray, List.set_cons_zero, List.set_cons_succ])
      refine wpAnyH_take (i := 10) (v := .bool false) rfl (by kernel_rfl) (by kernel_rfl) (by kernel_rfl) (fun _ _ _ h => h) (Or.inl ⟨by rfl, ?hy⟩) (by assumption) ?_
      case hy =>
        intro w hSw
        (try dsimp only at hSw)
        go_simp
        all_goals with_reducible rfl
      (try simp only [Act.put, List.setIfInBounds_toArray, List.set_cons_zero, List.set_cons_succ])
      refine wpAnyH_take (i := 11) (v := .bool false) rfl (by kernel_rfl) (by kernel_rfl) (by kernel_rfl) (fun _ _ _ h => h) (Or.inl ⟨by rfl, ?hy⟩) (by assumption) ?_
      case hy =>
        intro w hSw
        (try dsimp only at hSw)
        go_simp
        all_goals with_reducible rfl
      (try simp only [Act.put, List.setIfInBounds_toArray, List.set_cons_zero, List.set_cons_succ])
      refine wpAnyH_take (i := 12) (v := undef) rfl (by kernel_rfl) (by kernel_rfl) (by kernel_rfl) (fun _ _ _ h => h) (Or.inr ⟨by simp [Region.wanted, yielded], rfl⟩) (by assumption) ?_
      (try simp only [Act.put, List.setIfInBounds_toArray, List.set_cons_zero, List.set_cons_succ])
      refine wpAnyH_take (i := 13) (v := undef) rfl (by kernel_rfl) (by kernel_rfl) (by kernel_rfl) (fun _ _ _ h => h) (Or.inr ⟨by simp [Region.wanted, yielded], rfl⟩) (by assumption) ?_
      (try simp only [Act.put, List.setIfInBounds_toArray, List.set_cons_zero, List.set_cons_succ])
      refine wpAnyH_take (i := 14) (v := undef) rfl (by kernel_rfl) (by kernel_rfl) (by kernel_rfl) (fun _ _ _ h => h) (Or.inr ⟨by simp [Region.wanted, yielded], rfl⟩) (by assumption) ?_
      (try simp only [Act.put, List.setIfInBounds_toArray, List.set_cons_zero, List.set_cons_succ])
      refine wpAnyH_take (i := 15) (v := .bool false) rfl (by kernel_rfl) (by kernel_rfl) (by kernel_rfl) (fun _ _ _ h => h) (Or.inl ⟨by rfl, ?hy⟩) (by assumption) ?_
      case hy =>
        intro w hSw
        (try dsimp only at hSw)
        go_simp
        all_goals with_reducible rfl
      (try simp only [Act.put, List.setIfInBounds_toArray, List.set_cons_zero, List.set_cons_succ])
      refine wpAnyH_take (i := 16) (v := .bool true) rfl (by kernel_rfl) (by kernel_rfl) (by kernel_rfl) (fun _ _ _ h => h) (Or.inl ⟨by rfl, ?hy⟩) (by assumption) ?_
      case hy =>
        intro w hSw
        (try dsimp only at hSw)
        go_simp
        all_goals with_reducible rfl
      (try simp only [Act.put, List.setIfInBounds_toArray, List.set_cons_zero, List.set_cons_succ])
      refine wpAnyH_take (i := 17) (v := .bool true) rfl (by kernel_rfl) (by kernel_rfl) (by kernel_rfl) (fun _ _ _ h => h) (Or.inl ⟨by rfl, ?hy⟩) (by assumption) ?_
      case hy =>
        intro w hSw
        (try dsimp only at hSw)
        go_simp
        all_goals with_reducible rfl
      (try simp only [Act.put, List.setIfInBounds_toArray, List.set_cons_zero, List.set_cons_succ])
      refine wpAnyH_done (by kernel_rfl) ?_ _
      go_wp2_with fail
      go_ret
      exact ⟨by first | rfl | simp, HI10.out.b⟩
end Go.Proofs.YtnjdganikeganaaGreatDoor

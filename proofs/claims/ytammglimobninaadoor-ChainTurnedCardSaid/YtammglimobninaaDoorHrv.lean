/-
  Contracts: the reference's Head and Verify, of any entries.
-/
import Derived.Test.YtammglimobninaaDoorHrh
set_option linter.unusedVariables false
set_option linter.unusedSimpArgs false
namespace Go.Proofs.YtammglimobninaaDoor
open Go.RowKit Nm

theorem okS_right (cut : Int) (l : List En) : (l.all goodB && (decide (1 ≤ cut) && decide (cut ≤ 32))) = okS cut l := by
  unfold okS; rw [Bool.and_comm]
theorem rhead_ok (cut : Int) (q : Option Addr) (l : List En) (c : Nat) (w : World) (hL : Ens w q l) (hn : l.length < 1000000000000) (h : okS cut l = true) :
    Calls Tryd.prog 41 #[.int .i64 cut, .slice q l.length c] w fun r w' => ∃ q' c', r = .returned (.slice q' (headS cut l).length c') ∧ Rd0 w' q' (headS cut l) ∧ Below w.heap.size w w' := by
  have h2 := h
  simp only [okS, Bool.and_eq_true, decide_eq_true_eq] at h2
  obtain ⟨n, rfl⟩ : ∃ n : Nat, cut = (n : Int) := ⟨cut.toNat, by omega⟩
  have e : headS (n : Int) l = (linkS n l l.length).take n := by unfold headS; rw [if_pos h]; rfl
  rw [e]
  exact rhead_any n q l c w hL hn (by omega) (by omega) h2.2

set_option maxRecDepth 100000 in
theorem rhead_both (cut : Int) (q : Option Addr) (l : List En) (c : Nat) (w : World) (hL : Ens w q l) (hn : l.length < 1000000000000) :
    Calls Tryd.prog 17 #[.int .i64 cut, .slice q l.length c] w fun r w' => ∃ q' c', r = .returned (.tuple #[.slice q' (headS cut l).length c', .int .i64 (headE cut l)]) ∧ Rd0 w' q' (headS cut l) ∧ Below w.heap.size w w' := by
  have HL := Lib.hid hL
  have HR := Lib.hid (right_any cut q l c w hL (by omega))
  have HH := Lib.hid (fun wx (hx : Ens wx q l) => rhead_ok cut q l c wx hx hn)
  rw [okS_right] at HR
  unfold headE
  cases h : okS cut l with
  | false =>
    have e : headS cut l = [] := by unfold headS; rw [h]; rfl
    rw [h] at HR
    rw [e]
    clear hL hn HH h e
    go_enter Tryd.func17, Tryd.ntmps17
    go_wp2_with (go_at_call 40; refine HR.out.mono ?_; rintro r w1 ⟨rfl, hb⟩; have HB := Lib.hid hb; clear hb)
    exact bodyPost_ret (results_tmp2 rfl _ _ _) rfl ⟨none, ⟨0, rfl⟩, .inl rfl, HB.out⟩
  | true =>
    rw [h] at HR
    have HH2 := Lib.hid (fun wx hx => HH.out wx hx h)
    clear hL hn HH h
    generalize headS cut l = L at *
    go_enter Tryd.func17, Tryd.ntmps17
    go_wp2_with (first
      | (go_at_call 40; refine HR.out.mono ?_; rintro r w1 ⟨rfl, hb⟩; have HB := Lib.hid hb; clear hb)
      | (go_at_call 41; refine (HH2.out _ (HL.out.on HB.out)).mono ?_; rintro r w2 ⟨q2, c2, rfl, hR, hb⟩; have HR2 := Lib.hid hR; have HB2 := Lib.hid (HB.out.trans (hb.mono HB.out.size)); clear hb hR))
    exact bodyPost_ret (results_tmp2 rfl _ _ _) rfl ⟨q2, ⟨c2, rfl⟩, HR2.out, HB2.out⟩

set_option maxRecDepth 100000 in
theorem rverify_any (cut : Int) (q : Option Addr) (l : List En) (c : Nat) (p : Option Addr) (m : List UInt8) (d : Nat) (w : World) (hL : Ens w q l) (hn : l.length < 1000000000000) (hm : Rd0 w p m) :
    Calls Tryd.prog 19 #[.int .i64 cut, .slice q l.length c, .slice p m.length d] w fun r w' => r = .returned (.int .i64 (verS cut l m)) ∧ Below w.heap.size w w' := by
  have HL := Lib.hid hL
  have HM := Lib.hid hm
  have HR := Lib.hid (right_any cut q l c w hL (by omega))
  have HH := Lib.hid (fun wx (hx : Ens wx q l) => rhead_ok cut q l c wx hx hn)
  rw [okS_right] at HR
  unfold verS
  cases h : okS cut l with
  | false =>
    rw [h] at HR
    clear hL hn hm HH h
    go_enter Tryd.func19, Tryd.ntmps19
    go_wp2_with (go_at_call 40; refine HR.out.mono ?_; rintro r w1 ⟨rfl, hb⟩; have HB := Lib.hid hb; clear hb)
    go_ret
    exact ⟨by rfl, HB.out⟩
  | true =>
    rw [h] at HR
    have HH := Lib.hid (fun wx hx => HH.out wx hx h)
    clear hL hn hm h
    generalize headS cut l = L at *
    go_enter Tryd.func19, Tryd.ntmps19
    go_upto_region 3 with (go_at_call 40; refine HR.out.mono ?_; rintro r w1 ⟨rfl, hb⟩; have HR1 := Lib.hid (show Ens w1 q l ∧ Rd0 w1 p m ∧ Below w.heap.size w w1 from ⟨HL.out.on hb, HM.out.on hb, hb⟩); clear hb)
    have HR3 := Lib.hid (show Ens w1.drew q l ∧ Rd0 w1.drew p m ∧ Below w.heap.size w w1.drew from ⟨HR1.out.1.on (Below.refl _ _).drew, HR1.out.2.1.on (Below.refl _ _).drew, HR1.out.2.2.drew⟩)
    clear HR1 HL HM HR
    refine wp_region_held_drew (S := fun X => Rd0 X p m) (by kernel_rfl) (HR3.out.2.1) (fun hHeld => ?_)
    refine wpAnyH_take (i := 0) (v := ?_) rfl (by kernel_rfl) (by kernel_rfl) (by kernel_rfl) (fun _ _ _ h => h) (Or.inl ⟨by rfl, ?hy⟩) (by assumption) ?_
    case hy =>
      intro w hSw
      go_simp
      all_goals with_reducible rfl
    (try simp only [Act.put, List.setIfInBounds_toArray, List.set_cons_zero, List.set_cons_succ])
    refine wpAnyH_take (i := 1) (v := ?_) rfl (by kernel_rfl) (by kernel_rfl) (by kernel_rfl) (fun _ _ _ h => h) (Or.inl ⟨by rfl, ?hy⟩) (by assumption) ?_
    case hy =>
      intro w hSw
      go_simp
      all_goals with_reducible rfl
    (try simp only [Act.put, List.setIfInBounds_toArray, List.set_cons_zero, List.set_cons_succ])
    refine wpAnyH_take (i := 4) (v := ?_) rfl (by kernel_rfl) (by kernel_rfl) (by kernel_rfl) (fun _ _ _ h => h) (Or.inl ⟨by rfl, ?hy⟩) (by assumption) ?_
    case hy =>
      intro w hSw
      go_simp
      all_goals with_reducible rfl
    (try simp only [Act.put, List.setIfInBounds_toArray, List.set_cons_zero, List.set_cons_succ])
    refine wpAnyH_take (i := 5) (v := .string ⟨m.toArray⟩) rfl (by kernel_rfl) (by kernel_rfl) (by kernel_rfl) (fun _ _ _ h => h) (Or.inl ⟨by rfl, ?hy⟩) (by assumption) ?_
    case hy =>
      intro w hSw
      have hcv := run_back8 w p m d hSw
      go_simp
    (try simp only [Act.put, List.setIfInBounds_toArray, List.set_cons_zero, List.set_cons_succ])
    refine wpAnyH_ready (rs := [2]) (by kernel_rfl) (by simp) ?_
    refine AllReadyH.cons rfl (fun K hK => ?_) AllReadyH.nil
    go_simp
    go_at_call 41
    refine (HH.out _ HR3.out.1).mono ?_
    rintro r w3 ⟨q3, c3, rfl, hr3, hb3⟩
    have hcv1 := run_back8 w3 q3 L c3 hr3
    have HR4 := Lib.hid (show Ens w3 q l ∧ Rd0 w3 p m ∧ Below w.heap.size w w3 from ⟨HR3.out.1.on hb3, HR3.out.2.1.on hb3, HR3.out.2.2.trans (hb3.mono HR3.out.2.2.size)⟩)
    clear hr3 hb3
    refine hK.out _ _ (HR4.out.2.1) (fun hHeld => ?_)
    clear hK K
    (try simp only [Act.put, List.setIfInBounds_toArray, List.set_cons_zero, List.set_cons_succ])
    refine wpAnyH_ready (rs := [3]) (by kernel_rfl) (by simp) ?_
    refine AllReadyH.cons rfl (fun K hK => ?_) AllReadyH.nil
    go_simp
    skip
    refine hK.out _ _ (HR4.out.2.1) (fun hHeld => ?_)
    clear hK K
    (try simp only [Act.put, List.setIfInBounds_toArray, List.set_cons_zero, List.set_cons_succ])
    refine wpAnyH_ready (rs := [6]) (by kernel_rfl) (by simp) ?_
    refine AllReadyH.cons rfl (fun K hK => ?_) AllReadyH.nil
    go_simp
    skip
    refine hK.out _ _ (HR4.out.2.1) (fun hHeld => ?_)
    clear hK K
    (try simp only [Act.put, List.setIfInBounds_toArray, List.set_cons_zero, List.set_cons_succ])
    refine wpAnyH_done (by kernel_rfl) ?_ _
    cases hq : L == m with
    | true =>
      go_wp2_with fail
      go_ret
      exact ⟨by simp [hq], HR4.out.2.2⟩
    | false =>
      go_wp2_with fail
      go_ret
      exact ⟨by simp [hq], HR4.out.2.2⟩
end Go.Proofs.YtammglimobninaaDoor

/-
  Contract: Same, of lists that are the same.
-/
import Derived.Test.YtnhnmlkfpnbfjaaDoorWrs
set_option linter.unusedVariables false
set_option linter.unusedSimpArgs false
namespace Go.Proofs.YtnhnmlkfpnbfjaaDoor
open Go.RowKit

theorem Pl.at {w : World} {base : Nat} {v : Value} {l : List SlA} (h : Pl w base v l) (k : Nat) (hk : k < l.length) : ∃ g cap, v = .slice (some ⟨g, 0, none⟩) l.length cap ∧ g < w.heap.size ∧ w.cell? ⟨g, k, none⟩ = some (.slice l[k].q l[k].m.length l[k].c) ∧ Rd0 w l[k].q l[k].m := by
  obtain ⟨g, cap, rfl, hge, hgl⟩ := h.own.form (by omega)
  refine ⟨g, cap, rfl, hgl, ?_, (h.ok _ (List.getElem_mem hk)).1⟩
  have := h.own.cells (g := g) rfl k (.slice l[k].q l[k].m.length l[k].c) (by
    have := flatE_get ES l k hk 0 (by decide)
    rw [Nat.mul_one, Nat.add_zero] at this
    rw [this]; rfl)
  rwa [Addr.add_mid, Nat.zero_add] at this

set_option maxRecDepth 100000 in
set_option maxHeartbeats 4000000 in
theorem same_any (b1 b2 : Nat) (p1 p2 : Option Addr) (d1 d2 K : Nat) (l1 l2 : List SlA) (w : World) (h1 : Pl w b1 (.slice p1 K d1) l1) (h2 : Pl w b2 (.slice p2 K d2) l2) (hk1 : l1.length = K) (hk2 : l2.length = K) (hm : l1.map (·.m) = l2.map (·.m)) :
    Calls Tryd.prog 14 #[.slice p1 K d1, .slice p2 K d2] w fun r w' => r = .returned (.bool true) ∧ Below w.heap.size w w' := by
  have H1 := Lib.hid h1
  have H2 := Lib.hid h2
  have HK1 := Lib.hid hk1
  have HK2 := Lib.hid hk2
  have HM := Lib.hid hm
  have hkb : K ≤ 9223372036854775807 := by
    rcases h1.own.2 with ⟨_, h⟩ | ⟨_, cap, _, _, _, _, h5, h6, _⟩
    · have := h; omega
    · unfold maxLen at h6; omega
  clear h1 h2 hk1 hk2 hm
  go_enter Tryd.func14, Tryd.ntmps14
  go_wp2_with fail
  go_loopw [5] (fun i wr => ∃ k : Nat, k ≤ K ∧ i = .int .i64 k ∧ Below w.heap.size w wr) (fun i _ => K - (intOf i).toNat)
  case atStart => exact ⟨0, by omega, rfl, Below.refl _ _⟩
  case round =>
    obtain ⟨k, hk, rfl, hb⟩ := hrel
    have HB := Lib.hid hb
    clear hb
    have v3 : (0 : Int) ≤ (k : Int) := by omega
    by_cases hlt : k < K
    · have v4 : (k : Int) < (K : Int) := by omega
      have hx1 : k < l1.length := by rw [HK1.out]; exact hlt
      have hx2 : k < l2.length := by rw [HK2.out]; exact hlt
      obtain ⟨g1, c1, e1, hg1, hc1, hr1⟩ := H1.out.at k hx1
      obtain ⟨g2, c2, e2, hg2, hc2, hr2⟩ := H2.out.at k hx2
      rw [HK1.out] at e1
      rw [HK2.out] at e2
      have hmm : l1[k].m = l2[k].m := by
        have := congrArg (fun z => z[k]?) HM.out
        simpa [List.getElem?_map, List.getElem?_eq_getElem hx1, List.getElem?_eq_getElem hx2] using this
      rw [← hmm] at hc2 hr2
      cases e1
      cases e2
      have HD := Lib.hid (show wr.drew.cell? ⟨g1, k, none⟩ = some (.slice l1[k].q l1[k].m.length l1[k].c) ∧ wr.drew.cell? ⟨g2, k, none⟩ = some (.slice l2[k].q l1[k].m.length l2[k].c) ∧ Rd0 wr.drew l1[k].q l1[k].m ∧ Rd0 wr.drew l2[k].q l1[k].m from
        ⟨(HB.out.drew.cell (p := ⟨g1, k, none⟩) hg1).trans hc1, (HB.out.drew.cell (p := ⟨g2, k, none⟩) hg2).trans hc2, hr1.on HB.out.drew, hr2.on HB.out.drew⟩)
      have HBD := Lib.hid HB.out.drew
      clear hc1 hc2 hr1 hr2 hmm
      generalize l1[k].q = qx at *
      generalize l1[k].m = mx at *
      generalize l1[k].c = cx at *
      generalize l2[k].q = qy at *
      generalize l2[k].c = cy at *
      clear hx1 hx2 H1 H2 HM HK1 HK2
      go_upto_region 6 with fail
      refine wp_region_held_drew (S := fun X => X.cell? ⟨g1, k, none⟩ = some (.slice qx mx.length cx) ∧ X.cell? ⟨g2, k, none⟩ = some (.slice qy mx.length cy) ∧ Rd0 X qx mx ∧ Rd0 X qy mx) (by kernel_rfl) (HD.out) (fun hHeld => ?_)
      refine wpAnyH_take (i := 0) (v := ?_) rfl (by kernel_rfl) (by kernel_rfl) (by kernel_rfl) (fun _ _ _ h => h) (Or.inl ⟨by rfl, ?hy⟩) (by assumption) ?_
      case hy =>
        intro X hSw
        obtain ⟨h1, h2, h3, h4⟩ := hSw
        go_simp
        all_goals with_reducible rfl
      (try simp only [Act.put, List.getElem_toArray, List.getElem_cons_succ, List.getElem_cons_zero, List.setIfInBounds_toArray, List.set_cons_zero, List.set_cons_succ])
      refine wpAnyH_take (i := 1) (v := ?_) rfl (by kernel_rfl) (by kernel_rfl) (by kernel_rfl) (fun _ _ _ h => h) (Or.inl ⟨by rfl, ?hy⟩) (by assumption) ?_
      case hy =>
        intro X hSw
        obtain ⟨h1, h2, h3, h4⟩ := hSw
        go_simp
        all_goals with_reducible rfl
      (try simp only [Act.put, List.getElem_toArray, List.getElem_cons_succ, List.getElem_cons_zero, List.setIfInBounds_toArray, List.set_cons_zero, List.set_cons_succ])
      refine wpAnyH_take (i := 2) (v := ?_) rfl (by kernel_rfl) (by kernel_rfl) (by kernel_rfl) (fun _ _ _ h => h) (Or.inl ⟨by rfl, ?hy⟩) (by assumption) ?_
      case hy =>
        intro X hSw
        obtain ⟨h1, h2, h3, h4⟩ := hSw
        go_simp
        all_goals with_reducible rfl
      (try simp only [Act.put, List.getElem_toArray, List.getElem_cons_succ, List.getElem_cons_zero, List.setIfInBounds_toArray, List.set_cons_zero, List.set_cons_succ])
      refine wpAnyH_take (i := 3) (v := ?_) rfl (by kernel_rfl) (by kernel_rfl) (by kernel_rfl) (fun _ _ _ h => h) (Or.inl ⟨by rfl, ?hy⟩) (by assumption) ?_
      case hy =>
        intro X hSw
        obtain ⟨h1, h2, h3, h4⟩ := hSw
        go_simp
        all_goals with_reducible rfl
      (try simp only [Act.put, List.getElem_toArray, List.getElem_cons_succ, List.getElem_cons_zero, List.setIfInBounds_toArray, List.set_cons_zero, List.set_cons_succ])
      refine wpAnyH_take (i := 4) (v := ?_) rfl (by kernel_rfl) (by kernel_rfl) (by kernel_rfl) (fun _ _ _ h => h) (Or.inl ⟨by rfl, ?hy⟩) (by assumption) ?_
      case hy =>
        intro X hSw
        obtain ⟨h1, h2, h3, h4⟩ := hSw
        have hc := run_back8 X qx mx cx h3
        go_simp
        all_goals with_reducible rfl
      (try simp only [Act.put, List.getElem_toArray, List.getElem_cons_succ, List.getElem_cons_zero, List.setIfInBounds_toArray, List.set_cons_zero, List.set_cons_succ])
      refine wpAnyH_take (i := 5) (v := ?_) rfl (by kernel_rfl) (by kernel_rfl) (by kernel_rfl) (fun _ _ _ h => h) (Or.inl ⟨by rfl, ?hy⟩) (by assumption) ?_
      case hy =>
        intro X hSw
        obtain ⟨h1, h2, h3, h4⟩ := hSw
        go_simp
        all_goals with_reducible rfl
      (try simp only [Act.put, List.getElem_toArray, List.getElem_cons_succ, List.getElem_cons_zero, List.setIfInBounds_toArray, List.set_cons_zero, List.set_cons_succ])
      refine wpAnyH_take (i := 6) (v := ?_) rfl (by kernel_rfl) (by kernel_rfl) (by kernel_rfl) (fun _ _ _ h => h) (Or.inl ⟨by rfl, ?hy⟩) (by assumption) ?_
      case hy =>
        intro X hSw
        obtain ⟨h1, h2, h3, h4⟩ := hSw
        go_simp
        all_goals with_reducible rfl
      (try simp only [Act.put, List.getElem_toArray, List.getElem_cons_succ, List.getElem_cons_zero, List.setIfInBounds_toArray, List.set_cons_zero, List.set_cons_succ])
      refine wpAnyH_take (i := 7) (v := ?_) rfl (by kernel_rfl) (by kernel_rfl) (by kernel_rfl) (fun _ _ _ h => h) (Or.inl ⟨by rfl, ?hy⟩) (by assumption) ?_
      case hy =>
        intro X hSw
        obtain ⟨h1, h2, h3, h4⟩ := hSw
        go_simp
        all_goals with_reducible rfl
      (try simp only [Act.put, List.getElem_toArray, List.getElem_cons_succ, List.getElem_cons_zero, List.setIfInBounds_toArray, List.set_cons_zero, List.set_cons_succ])
      refine wpAnyH_take (i := 8) (v := ?_) rfl (by kernel_rfl) (by kernel_rfl) (by kernel_rfl) (fun _ _ _ h => h) (Or.inl ⟨by rfl, ?hy⟩) (by assumption) ?_
      case hy =>
        intro X hSw
        obtain ⟨h1, h2, h3, h4⟩ := hSw
        go_simp
        all_goals with_reducible rfl
      (try simp only [Act.put, List.getElem_toArray, List.getElem_cons_succ, List.getElem_cons_zero, List.setIfInBounds_toArray, List.set_cons_zero, List.set_cons_succ])
      refine wpAnyH_take (i := 9) (v := ?_) rfl (by kernel_rfl) (by kernel_rfl) (by kernel_rfl) (fun _ _ _ h => h) (Or.inl ⟨by rfl, ?hy⟩) (by assumption) ?_
      case hy =>
        intro X hSw
        obtain ⟨h1, h2, h3, h4⟩ := hSw
        have hc := run_back8 X qy mx cy h4
        go_simp
        all_goals with_reducible rfl
      (try simp only [Act.put, List.getElem_toArray, List.getElem_cons_succ, List.getElem_cons_zero, List.setIfInBounds_toArray, List.set_cons_zero, List.set_cons_succ])
      refine wpAnyH_take (i := 10) (v := .bool false) rfl (by kernel_rfl) (by kernel_rfl) (by kernel_rfl) (fun _ _ _ h => h) (Or.inl ⟨by rfl, ?hy⟩) (by assumption) ?_
      case hy =>
        intro X hSw
        obtain ⟨h1, h2, h3, h4⟩ := hSw
        go_simp
        all_goals (first | with_reducible rfl | simp)
      (try simp only [Act.put, List.getElem_toArray, List.getElem_cons_succ, List.getElem_cons_zero, List.setIfInBounds_toArray, List.set_cons_zero, List.set_cons_succ])
      refine wpAnyH_done (by kernel_rfl) ?_ _
      go_wp2_with fail
      go_roundw
      case rel => exact ⟨k + 1, by omega, by go_num, HBD.out⟩
      case measure => simp [intOf]; omega
    · obtain rfl : k = K := by omega
      go_wp2_with fail
      go_ret
      exact ⟨by rfl, HB.out⟩
end Go.Proofs.YtnhnmlkfpnbfjaaDoor

/-
  Contract: the law's own 'fixed': the chapter's example holds.
-/
import Derived.Test.YtkgcloggnnjioaaDoorFixA
namespace Go.Proofs.YtkgcloggnnjioaaDoor
open Go.RowKit Go.Shelf

attribute [local go_sem] Oper.semAt_some

set_option maxRecDepth 100000 in
set_option maxHeartbeats 16000000 in
theorem fixed_any (w : World) (hT : Tab w) (hg : 0 < w.heap.size) : Calls Tryd.prog 11 #[] w fun e W' => e = .returned (.bool true) ∧ Below w.heap.size w W' := by
  refine (callsIn_wide (n := 12)).1 ?_
  have HT := Lib.hid hT
  clear hT
  refine callsIn_of_wp_marks Tryd.func11 rfl trivial ?_ rfl
  simp only [Tryd.ntmps11, List.size_toArray, List.length_nil, Nat.reduceSub, Array.replicate_succ, Array.replicate_zero, List.push_toArray, List.append_toArray, List.nil_append, List.cons_append]
  have k1 := World.alloc_heap_new w (.cells #[.int .i64 0, .int .i64 1, .int .i64 1, .int .i64 2] 44)
  have hb1 := (Below.refl w.heap.size w).alloc (Nat.le_refl _) (.cells #[.int .i64 0, .int .i64 1, .int .i64 1, .int .i64 2] 44)
  have HC1 := Lib.hid (build_3 (w.alloc (.cells #[.int .i64 0, .int .i64 1, .int .i64 1, .int .i64 2] 44)) w.heap.size (by simp) k1 (HT.out.below hb1 hg) (by simp))
  clear k1
  have HB1 := Lib.hid hb1
  clear hb1
  gi_wp2
  refine ⟨trivial, (callsIn_wide.2 HC1.out).mono ?_⟩
  rintro e W1 ⟨g, rfl, hG⟩
  have HG1 := Lib.hid (show GG w g W1 from ⟨hG.row, HB1.out.trans (hG.below.mono HB1.out.size), by have := hG.base; simp at this; omega⟩)
  clear hG HC1 HB1
  have k2 := World.alloc_heap_new W1 (.cells #[.int .i64 0, .int .i64 1, .int .i64 1, .int .i64 0] 44)
  have HG1' := Lib.hid (HG1.out.alloc (.cells #[.int .i64 0, .int .i64 1, .int .i64 1, .int .i64 0] 44))
  have HC2 := Lib.hid (build_2 (W1.alloc (.cells #[.int .i64 0, .int .i64 1, .int .i64 1, .int .i64 0] 44)) W1.heap.size (by simp) k2 (HG1'.out.tab HT.out hg) (HG1'.out.pos hg))
  clear k2
  gi_wp2
  refine ⟨trivial, (callsIn_wide.2 HC2.out).mono ?_⟩
  rintro e W2 ⟨rfl, hb2⟩
  have HG2 := Lib.hid (HG1'.out.step hb2)
  clear hb2 HC2 HG1 HG1'
  have HJ := Lib.hid (join_any U3 (some ⟨g, 0, none⟩) 3 0 2 W2 (by decide) u3_small HG2.out.us (HG2.out.tab HT.out hg) (HG2.out.pos hg))
  rw [u3_join] at HJ
  gi_wp2
  refine ⟨trivial, (callsIn_wide.2 HJ.out).mono ?_⟩
  rintro e W3 ⟨rfl, hb3⟩
  have HG3 := Lib.hid (HG2.out.step hb3)
  clear hb3 HJ HG2
  have HP := Lib.hid (pairs_any U3 (some ⟨g, 0, none⟩) 3 W3 (by decide) u3_small HG3.out.us (HG3.out.tab HT.out hg) (HG3.out.pos hg))
  rw [u3_pairs] at HP
  gi_wp2
  refine ⟨trivial, (callsIn_wide.2 HP.out).mono ?_⟩
  rintro e W4 ⟨⟨v, rfl, hown⟩, hb4⟩
  have HG4 := Lib.hid (HG3.out.step hb4)
  obtain ⟨h, cap, rfl⟩ := ownsRow_succ (k := 1) hown
  have HOW := Lib.hid (show W4.ownsRow W3.heap.size 44 2 (.slice (some ⟨h, 0, none⟩) 2 cap) 2 [.int .i64 0, .int .i64 1, .int .i64 1, .int .i64 2] from hown)
  clear hb4 HP HG3 hown
  have HG4' := Lib.hid (HG4.out.alloc (.cells #[.int .u64 7, .int .u64 6, .int .u64 4] 36))
  have HM := Lib.hid (masks_any (some ⟨g, 0, none⟩) (some ⟨W4.heap.size, 0, none⟩) U3 U3 3 3 (W4.alloc (.cells #[.int .u64 7, .int .u64 6, .int .u64 4] 36)) HG4'.out.us (.inr ⟨W4.heap.size, 0, rfl, by simp, fun i hi => by
    have : i = 0 ∨ i = 1 ∨ i = 2 := by have : U3.length = 3 := rfl; omega
    rcases this with rfl | rfl | rfl <;> simp [go_sem] <;> rfl⟩) (by decide) (by decide))
  rw [show decide (U3 = U3) = true by simp] at HM
  gi_wp2
  refine ⟨trivial, (callsIn_wide.2 HM.out).mono ?_⟩
  rintro e W5 ⟨rfl, hb5⟩
  have HG5 := Lib.hid (HG4'.out.step hb5)
  have hh := (World.ownsRow.lt HOW.out h rfl).2
  have p2 : W5.cell? ⟨h, 2, none⟩ = some (.int .i64 1) := by
    rw [hb5.cell (p := ⟨h, 2, none⟩) (by simp; omega), World.cell?_alloc_past _ _ _ (by simpa using hh)]
    exact World.ownsRow.cellAt HOW.out 2 (by decide)
  have p3 : W5.cell? ⟨h, 2 + 1, none⟩ = some (.int .i64 2) := by
    rw [hb5.cell (p := ⟨h, 2 + 1, none⟩) (by simp; omega), World.cell?_alloc_past _ _ _ (by simpa using hh)]
    exact World.ownsRow.cellAt HOW.out 3 (by decide)
  have p3' : W5.cell? ⟨h, 3, none⟩ = some (.int .i64 2) := p3
  have hq := run_neqPair 1 2 1 2 true (by decide)
  have hgd := Tryd.guard44
  clear hb5 HM HG4 HG4' hh HOW
  have HRI := Lib.hid (right_any U3 (some ⟨g, 0, none⟩) 3 W5 (by decide) u3_small HG5.out.us (HG5.out.tab HT.out hg) (HG5.out.pos hg))
  rw [ordB_true u3_ord] at HRI
  gi_wp2
  refine ⟨trivial, (callsIn_wide.2 HRI.out).mono ?_⟩
  rintro e W6 ⟨rfl, hb6⟩
  have HG6 := Lib.hid (HG5.out.step hb6)
  clear hb6 HRI HG5 p2 p3 p3' hq hgd
  have HA := Lib.hid (at_any U3 (some ⟨g, 0, none⟩) 3 0 2 W6 (by decide) u3_small HG6.out.us (HG6.out.tab HT.out hg) (HG6.out.pos hg))
  rw [u3_at1] at HA
  gi_wp2
  refine ⟨trivial, (callsIn_wide.2 HA.out).mono ?_⟩
  rintro e W7 ⟨rfl, hb7⟩
  have HG7 := Lib.hid (HG6.out.step hb7)
  clear hb7 HA HG6
  have HA := Lib.hid (at_any U3 (some ⟨g, 0, none⟩) 3 2 0 W7 (by decide) u3_small HG7.out.us (HG7.out.tab HT.out hg) (HG7.out.pos hg))
  rw [u3_at2] at HA
  gi_wp2
  refine ⟨trivial, (callsIn_wide.2 HA.out).mono ?_⟩
  rintro e W8 ⟨rfl, hb8⟩
  have HG8 := Lib.hid (HG7.out.step hb8)
  clear hb8 HA HG7
  have HA := Lib.hid (above_any U3 (some ⟨g, 0, none⟩) 3 1 W8 (by decide) u3_small HG8.out.us (HG8.out.tab HT.out hg) (HG8.out.pos hg))
  rw [u3_above] at HA
  gi_wp2
  refine ⟨trivial, (callsIn_wide.2 HA.out).mono ?_⟩
  rintro e W9 ⟨rfl, hb9⟩
  have HG9 := Lib.hid (HG8.out.step hb9)
  clear hb9 HA HG8
  have HA := Lib.hid (below_any U3 (some ⟨g, 0, none⟩) 3 1 W9 (by decide) u3_small HG9.out.us (HG9.out.tab HT.out hg) (HG9.out.pos hg))
  rw [u3_below] at HA
  gi_wp2
  refine ⟨trivial, (callsIn_wide.2 HA.out).mono ?_⟩
  rintro e WA ⟨rfl, hbA⟩
  have HGA := Lib.hid (HG9.out.step hbA)
  clear hbA HA HG9
  gi_wp2
  refine ⟨trivial, (callsIn_wide.2 (bits_any _ _)).mono ?_⟩
  rintro e w' ⟨rfl, rfl⟩
  have b0 := (Boxed.new WA 3 (.int .i64 0)).alloc (.cells #[.int .u64 10] 36)
  have b1 := (cellNew (WA.alloc (.cells #[.int .i64 0] 3)) (.int .u64 10) 36).1
  have hbl := (HGA.out.below.alloc HGA.out.below.size (.cells #[.int .i64 0] 3)).alloc (by have := HGA.out.below.size; simp; omega) (.cells #[.int .u64 10] 36)
  have hsz : ((WA.alloc (.cells #[.int .i64 0] 3)).alloc (.cells #[.int .u64 10] 36)).heap.size = WA.heap.size + 2 := by simp
  have hsw := HGA.out.below.size
  rw [World.size_alloc] at b1 ⊢
  have HB0 := Lib.hid b0
  have HBL := Lib.hid hbl
  have hbc := b0.cell
  have HTL := Lib.hid (HT.out.below hbl hg)
  clear b0 hbl
  generalize ((WA.alloc (.cells #[.int .i64 0] 3)).alloc (.cells #[.int .u64 10] 36)) = WL at *
  generalize WA.heap.size = q at *
  have HSL := Lib.hid hsz
  clear hsz
  gi_wp2
  refine wpIn_rangeFunc_ownF rfl (by omega) (gf := 39) (lb := #[.pointer (some ⟨q + 1, 0, none⟩)]) rfl trivial (enters_of Tryd.func39 (by kernel_rfl) rfl)
    (bits_stops 11 (by omega) (q + 1) w.heap.size 10 (by decide) (by omega) WL (by have := HSL.out; omega) (by have := HSL.out; omega) b1 HTL.out) belowK_t (belowK_b (by have := HSL.out; omega)) (Below.refl _ _) (fun _ => rfl)
    (fun pre W => (∃ n : Int, Boxed W q 3 (.int .i64 n) ∧ (pre.map (·.1) = [] → n = 0) ∧ (pre.map (·.1) = [1] → n = 1) ∧ (pre.map (·.1) = [1, 3] → n = 13)) ∧ Below w.heap.size w W)
    (fun c' pre W => False ∧ Below w.heap.size w W)
    (OwnFrom.and (Own.from (fun s A B row hs hg hr => by
      obtain ⟨n, h1, h2⟩ := hs
      exact ⟨n, h1.kept hg (fun e' => by obtain ⟨o, ho, hc⟩ := hr _ e'.symm; rw [show A.heap[q]? = _ from h1] at ho; cases ho; cases hc), h2⟩) _) (ownFrom_below (Nat.le_refl _) (by have := HSL.out; omega)))
    (fun c' => OwnFrom.and (Own.from (fun s A B row hs hg hr => hs) _) (ownFrom_below (Nat.le_refl _) (by have := HSL.out; omega)))
    ⟨⟨0, HB0.out, ⟨fun _ => rfl, fun h => absurd h (by simp), fun h => absurd h (by simp)⟩⟩, HBL.out⟩ ?a1 ?assign ?body ?done ?stop
  case assign =>
    intro l x W K hK
    gi_wp2
    exact hK
  case body =>
    rintro l pre ⟨x, hx⟩ W ⟨⟨n, hbx, hn⟩, hB⟩ _
    have hway : (n = 0 ∧ x = 1 ∧ pre.map (·.1) = []) ∨ (n = 1 ∧ x = 3 ∧ pre.map (·.1) = [1]) ∨ (¬ (pre.map (·.1) = [] ∧ x = 1) ∧ ¬ (pre.map (·.1) = [1] ∧ x = 3)) := by
      by_cases h1 : pre.map (·.1) = [] ∧ x = 1
      · exact .inl ⟨hn.1 h1.1, h1.2, h1.1⟩
      · by_cases h2 : pre.map (·.1) = [1] ∧ x = 3
        · exact .inr (.inl ⟨hn.2.1 h2.1, h2.2, h2.1⟩)
        · exact .inr (.inr ⟨h1, h2⟩)
    have hmap : (pre ++ [(⟨x, hx⟩ : BitT 10)]).map (·.1) = pre.map (·.1) ++ [x] := by simp
    have HMAP := Lib.hid hmap
    have HBX := Lib.hid hbx
    have hbc := hbx.cell
    have hbf := hbx.frozen
    have HBW := Lib.hid hB
    clear hmap hbx hB hn
    have HEND := Lib.hid (show ∀ v : Int, (pre.map (·.1) = [] ∧ x = 1 → v = 1) → (pre.map (·.1) = [1] ∧ x = 3 → v = 13) → ownPostK (Below w.heap.size) (fun pre W => (∃ n : Int, Boxed W q 3 (.int .i64 n) ∧ (pre.map (·.1) = [] → n = 0) ∧ (pre.map (·.1) = [1] → n = 1) ∧ (pre.map (·.1) = [1, 3] → n = 13)) ∧ Below w.heap.size w W)
      (fun c' pre W => False ∧ Below w.heap.size w W) (pre ++ [(⟨x, hx⟩ : BitT 10)]) W Exit.normal { tmps := #[], defers := [] } (W.setCell ⟨q, 0, none⟩ (.int .i64 v)) from fun v h1 h2 => by
      refine ⟨KeepsOthers.setCell W ⟨q, 0, none⟩ _, (Below.refl _ W).setCell (p := ⟨q, 0, none⟩) hsw _, ⟨v, HBX.out.set _, ?_, ?_, ?_⟩, HBW.out.setCell (p := ⟨q, 0, none⟩) hsw _⟩
      · rw [HMAP.out]; intro h; simp at h
      · rw [HMAP.out]; intro h
        have := List.append_eq_singleton_iff.1 h
        rcases this with ⟨e1, e2⟩ | ⟨e1, e2⟩
        · exact h1 ⟨e1, by simpa using e2⟩
        · cases e2
      · rw [HMAP.out]; intro h
        have e1 : pre.map (·.1) ++ [x] = [1] ++ [3] := h
        have := List.append_inj' e1 rfl
        exact h2 ⟨this.1, by simpa using this.2⟩)
    rcases hway with ⟨rfl, rfl, h⟩ | ⟨rfl, rfl, h⟩ | ⟨h1, h2⟩
    · have HH := Lib.hid h
      clear h
      gi_wp2
      exact HEND.out 1 (fun _ => rfl) (fun h => by have := h.2; omega)
    · have HH := Lib.hid h
      clear h
      gi_wp2
      exact HEND.out 13 (fun h => by have := h.2; omega) (fun _ => rfl)
    · have HH := Lib.hid (And.intro h1 h2)
      clear h1 h2
      gi_wp2
      exact HEND.out _ (fun h => absurd h HH.out.1) (fun h => absurd h HH.out.2)
  case done =>
    rintro D ys W hD hys ⟨⟨n, hbx, hn⟩, hB⟩ hK
    have hn13 : n = 13 := hn.2.2 (hys.trans bits10)
    subst hn13
    have hbc := hbx.cell
    clear hn hbx
    gi_wp2
    refine ⟨by simp, .inl ⟨_, _, rfl, run_takeDeferred hK, ?_⟩⟩
    refine ⟨.bool true, ?_, rfl, hB.trans (belowK_b (w := w) (Nat.le_refl _) W D _ _ (by have := HSL.out; omega) hK rfl rfl)⟩
    simp [results, Tryd.f11, go_sem]
  case stop =>
    rintro D c' pre W hD hpre ⟨hf, _⟩ hK
    exact hf.elim
end Go.Proofs.YtkgcloggnnjioaaDoor

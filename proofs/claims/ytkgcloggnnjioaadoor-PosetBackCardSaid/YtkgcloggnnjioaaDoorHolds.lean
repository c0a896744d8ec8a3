/-
  Contracts: poset.holds.
-/
import Derived.Test.YtkgcloggnnjioaaDoorBits
import Derived.Laws.BitsAllLaws
import Derived.Test.YtkgcloggnnjioaaDoorRoundQ
import Derived.RangeFuncWrites
import Derived.RegionIn
import Derived.StillTailTactics
import Derived.BigRegionIn
namespace Go.Proofs.YtkgcloggnnjioaaDoor
open Go.RowKit Go.Shelf

attribute [local go_sem] Oper.semAt_some

theorem cellNew (W : World) (v : Value) (t : TypeId) : (W.alloc (.cells #[v] t)).cell? ⟨W.heap.size, 0, none⟩ = some v ∧ (W.alloc (.cells #[v] t)).frozen? ⟨W.heap.size, 0, none⟩ = false := ⟨by simp [go_sem], by simp [go_sem]⟩
theorem cellOn {W : World} {a : Addr} {v : Value} (o : Obj) (h : W.cell? a = some v) : (W.alloc o).cell? a = some v := cell_kept h (World.grownBy_alloc W o none) (fun r e => by cases e)
theorem keepsN (W : World) (n : Nat) : KeepsOthers W (W.drewN n) := ⟨Nat.le_refl _, fun _ _ h _ => h⟩
def okB (ms : List Nat) (a x : Nat) : Bool := !(ms.getD x 0).testBit a && (andn (ms.getD x 0) (ms.getD a 0) == 0)
def holdsB (ms : List Nat) (a : Nat) : Bool := (bitsOf (andn (ms.getD a 0) (2 ^ a))).all fun b => okB ms a b
theorem holdsB_iff (ms : List Nat) (a : Nat) : holdsB ms a = true ↔ HoldsC ms a := by
  unfold holdsB HoldsC okB
  rw [List.all_eq_true]
  constructor
  · intro h b hb
    have := h b hb
    simpa using this
  · intro h b hb
    simpa using h b hb
theorem bit_val (a : Nat) (h : a < 64) (w : World) : Calls Tryd.prog 37 #[.int .i64 a] w fun e w' => e = .returned (.int .u64 ((2 ^ a : Nat) : Int)) ∧ w = w' :=
  (bit_any a h w).mono fun _e _w' ⟨h1, h2⟩ => ⟨h1, h2.symm⟩

set_option maxRecDepth 100000 in
set_option maxHeartbeats 4000000 in
theorem holds_any (ms : List Nat) (b off c a : Nat) (w : World) (ha : a < ms.length) (hn : ms.length ≤ 64) (hs : Small ms) (hin : ∀ i, (ms.getD a 0).testBit i = true → i < ms.length)
    (hb : b < w.heap.size) (hcs : ∀ i (h : i < ms.length), w.cell? ⟨b, off + i, none⟩ = some (mask ms[i])) (hT : Tab w) :
    Calls Tryd.prog 34 #[.slice (some ⟨b, off, none⟩) ms.length c, .int .i64 a] w fun e W' => e = .returned (.bool (holdsB ms a)) ∧ Below w.heap.size w W' := by
  refine (callsIn_wide (n := 9)).1 ?_
  have x0 := hcs a ha
  have ha64 : a < 64 := by omega
  unfold mask at x0
  rw [← getD_at ha] at x0
  have hma := small_getD hs a
  have hev : holdsB ms a = (bitsOf (andn (ms.getD a 0) (2 ^ a))).all fun b => okB ms a b := rfl
  have hok : ∀ x, okB ms a x = (!(ms.getD x 0).testBit a && (andn (ms.getD x 0) (ms.getD a 0) == 0)) := fun _ => rfl
  generalize ms.getD a 0 = m at *
  have hpw := pow_lt64 ha64
  have hand : bits .andNot .u64 (m : Int) ((2 ^ a : Nat) : Int) = ((andn m (2 ^ a) : Nat) : Int) := u64_andNot_nat _ _ hma hpw
  have hbut := fun x => bits_but m a x hma ha64
  generalize hpa : 2 ^ a = pa at *
  have HEV := Lib.hid hev
  have HOK := Lib.hid hok
  have HIN := Lib.hid hin
  have HBUT := Lib.hid hbut
  have HCS := Lib.hid hcs
  have HS := Lib.hid hs
  have HT := Lib.hid hT
  clear hev hok hin hbut hcs hs hT
  refine callsIn_of_wp_marks Tryd.func34 rfl trivial ?_ rfl
  simp only [Tryd.ntmps34, List.size_toArray, List.length_cons, List.length_nil, Nat.reduceAdd, Nat.reduceSub, Array.replicate_succ, Array.replicate_zero, List.push_toArray, List.append_toArray, List.nil_append, List.cons_append]
  have hbit : ∀ wx, Calls Tryd.prog 37 #[.int .i64 a] wx fun e w' => e = .returned (.int .u64 (pa : Int)) ∧ wx = w' := fun wx => by rw [← hpa]; exact bit_val a ha64 wx
  have HBIT := Lib.hid hbit
  clear hbit hpa
  have hmx : Tryd.prog.follows .mixedOrders = true := by kernel_rfl
  gi_wp2
  have c0 := cellNew w (.slice (some ⟨b, off, none⟩) ms.length c) 24
  have c1 := cellNew (w.alloc (.cells #[.slice (some ⟨b, off, none⟩) ms.length c] 24)) (.int .i64 a) 3
  have c2 := cellNew ((w.alloc (.cells #[.slice (some ⟨b, off, none⟩) ms.length c] 24)).alloc (.cells #[.int .i64 a] 3)) (.bool false) 4
  simp only [World.size_alloc] at c1 c2
  have hB0 : Below w.heap.size w (((w.alloc (.cells #[.slice (some ⟨b, off, none⟩) ms.length c] 24)).alloc (.cells #[.int .i64 a] 3)).alloc (.cells #[.bool false] 4)) := (((Below.refl _ w).alloc (Nat.le_refl _) _).alloc (by simp) _).alloc (by simp; omega) _
  have c0' := cellOn (.cells #[.bool false] 4) (cellOn (.cells #[.int .i64 a] 3) c0.1)
  have c1' := cellOn (.cells #[.bool false] 4) c1.1
  have hsz : (((w.alloc (.cells #[.slice (some ⟨b, off, none⟩) ms.length c] 24)).alloc (.cells #[.int .i64 a] 3)).alloc (.cells #[.bool false] 4)).heap.size = w.heap.size + 3 := by simp
  obtain ⟨c2a, c2b⟩ := c2
  obtain ⟨W0, hW0⟩ : ∃ W0, (((w.alloc (.cells #[.slice (some ⟨b, off, none⟩) ms.length c] 24)).alloc (.cells #[.int .i64 a] 3)).alloc (.cells #[.bool false] 4)) = W0 := ⟨_, rfl⟩
  rw [hW0] at hB0 hsz c0' c1' c2a c2b ⊢
  have x1 := (hB0.cell (p := ⟨b, off + a, none⟩) hb).trans x0
  have HX0 := Lib.hid x0
  have HSZ := Lib.hid hsz
  have HB0 := Lib.hid hB0
  clear hW0 x0 c0 c1 hsz hB0
  have i1 : (0 : Int) ≤ (a : Int) := by omega
  have i2 : (a : Int) < (ms.length : Int) := by omega
  have i3 : ¬ (a : Int) < 0 := by omega
  have i4 : ¬ (ms.length : Int) ≤ (a : Int) := by omega
  have i5 : ¬ ms.length ≤ a := by omega
  have hfz := c2b
  have d0 : W0.drew.cell? ⟨w.heap.size, 0, none⟩ = some (.slice (some ⟨b, off, none⟩) ms.length c) := by simpa [go_sem] using c0'
  have d1 : W0.drew.cell? ⟨w.heap.size + 1, 0, none⟩ = some (.int .i64 a) := by simpa [go_sem] using c1'
  have d2 : W0.drew.cell? ⟨b, off + a, none⟩ = some (.int .u64 m) := by simpa [go_sem] using x1
  have d3 : W0.drew.cell? ⟨w.heap.size + 1 + 1, 0, none⟩ = some (.bool false) := by simpa [go_sem] using c2a
  have d4 : W0.drew.frozen? ⟨w.heap.size + 1 + 1, 0, none⟩ = false := by simpa [go_sem] using c2b
  have HBD := Lib.hid (HB0.out.drew)
  have HSD := Lib.hid (show W0.drew.heap.size = w.heap.size + 3 by simpa using HSZ.out)
  clear c0' c1' c2a c2b hfz x1 HB0 HSZ
  have HBIT2 := Lib.hid (show ∀ wx, Calls Tryd.prog 37 #[.int .i64 a] wx fun e w' => e = .returned (.int .u64 (pa : Int)) ∧ w' = wx from fun wx => (HBIT.out wx).mono fun e w' h => ⟨h.1, h.2.symm⟩)
  refine wpIn_wide.2 ?_
  refine wp_region_still_tail 7 hmx (by kernel_rfl) ?_
  simp only [List.take_succ_cons, List.take_zero, List.drop_succ_cons, List.drop_zero]
  change wpStill _ _ W0.drew _ _ _
  change wpStill _ _ _ (fun a' => wpList _ _ _ _ a' W0.drew) _ _
  generalize W0.drew = Wd at *
  repeat (first | still_step | (still_call (HBIT2.out _)))
  refine wpStill_nil ?_
  go_wp2_with (go_at_call 28; refine (bits_any _ _).mono ?_; rintro e w' ⟨rfl, rfl⟩)
  have e0 := cellOn (.cells #[.int .u64 (andn m pa : Nat)] 36) d0
  have e1 := cellOn (.cells #[.int .u64 (andn m pa : Nat)] 36) d1
  have e3 := cellOn (.cells #[.int .u64 (andn m pa : Nat)] 36) d3
  have e4 : (Wd.alloc (.cells #[.int .u64 (andn m pa : Nat)] 36)).frozen? ⟨w.heap.size + 1 + 1, 0, none⟩ = false := (frozen_kept d3 (World.grownBy_alloc Wd _ none) (fun r e => by cases e)).trans d4
  have e5 := (cellNew Wd (.int .u64 (andn m pa : Nat)) 36).1
  have HBL := Lib.hid (HBD.out.alloc HBD.out.size (.cells #[.int .u64 (andn m pa : Nat)] 36))
  have hsl : (Wd.alloc (.cells #[.int .u64 (andn m pa : Nat)] 36)).heap.size = w.heap.size + 4 := by rw [World.size_alloc, HSD.out]
  have hds := HSD.out
  rw [hds] at e5 ⊢
  generalize (Wd.alloc (.cells #[.int .u64 (andn m pa : Nat)] 36)) = WL at *
  clear d0 d1 d2 d3 d4 HBD HSD hds
  gi_wp2
  refine wpIn_rangeFunc_ownF rfl (by omega) (gf := 39) (lb := #[.pointer (some ⟨w.heap.size + 3, 0, none⟩)]) rfl trivial (enters_of Tryd.func39 (by kernel_rfl) rfl)
    (bits_stops 8 (by omega) (w.heap.size + 3) w.heap.size (andn m pa) (andn_lt _ _ hma) (by omega) WL (by omega) (by omega) e5 (HT.out.below HBL.out (by omega))) belowK_t (belowK_b (by omega)) (Below.refl _ _) (fun _ => rfl)
    (fun pre W => ((∀ y ∈ pre, okB ms a y.1 = true) ∧ W.cell? ⟨w.heap.size, 0, none⟩ = some (.slice (some ⟨b, off, none⟩) ms.length c) ∧ W.cell? ⟨w.heap.size + 1, 0, none⟩ = some (.int .i64 a) ∧ W.cell? ⟨w.heap.size + 1 + 1, 0, none⟩ = some (.bool false) ∧ W.frozen? ⟨w.heap.size + 1 + 1, 0, none⟩ = false) ∧ Below w.heap.size w W)
    (fun c' pre W => (c' = .ret ∧ (∃ y ∈ pre, okB ms a y.1 = false) ∧ W.cell? ⟨w.heap.size + 1 + 1, 0, none⟩ = some (.bool false)) ∧ Below w.heap.size w W)
    (OwnFrom.and (Own.from (fun s A B row hs hg hr => ⟨hs.1, cell_kept hs.2.1 hg hr, cell_kept hs.2.2.1 hg hr, cell_kept hs.2.2.2.1 hg hr, (frozen_kept hs.2.2.2.1 hg hr).trans hs.2.2.2.2⟩) _) (ownFrom_below (Nat.le_refl _) (by omega)))
    (fun c' => OwnFrom.and (Own.from (fun s A B row hs hg hr => ⟨hs.1, hs.2.1, cell_kept hs.2.2 hg hr⟩) _) (ownFrom_below (Nat.le_refl _) (by omega)))
    ⟨⟨by simp, e0, e1, e3, e4⟩, HBL.out⟩ ?a1 ?assign ?body ?done ?stop
  case assign =>
    intro l x W K hK
    gi_wp2
    exact hK
  case body =>
    rintro l pre ⟨x, hx⟩ W ⟨⟨hp, k0, k1, k2, k3⟩, hB⟩ _
    obtain ⟨hx1, hx2⟩ := (HBUT.out x).1 hx
    have hxn := HIN.out x hx1
    have xc : W.cell? ⟨b, off + x, none⟩ = some (.int .u64 (ms.getD x 0 : Nat)) := by
      rw [hB.cell (p := ⟨b, off + x, none⟩) hb, HCS.out x hxn, getD_at hxn]; rfl
    have ac : W.cell? ⟨b, off + a, none⟩ = some (.int .u64 m) := by
      rw [hB.cell (p := ⟨b, off + a, none⟩) hb]; exact HX0.out
    have hX := small_getD HS.out x
    have hOK := HOK.out x
    have hmx : Tryd.prog.follows .mixedOrders = true := by kernel_rfl
    generalize ms.getD x 0 = X at *
    have hand2 : bits .andNot .u64 (X : Int) (m : Int) = ((andn X m : Nat) : Int) := u64_andNot_nat _ _ hX hma
    have HP := Lib.hid hp
    have HBX := Lib.hid hB
    have hway : (X.testBit a = true ∧ okB ms a x = false) ∨ (X.testBit a = false ∧ (((andn X m : Nat) : Int) != 0) = true ∧ okB ms a x = false) ∨ (X.testBit a = false ∧ (((andn X m : Nat) : Int) != 0) = false ∧ okB ms a x = true) := by
      rw [hOK]
      cases h1 : X.testBit a with
      | true => exact .inl ⟨rfl, by simp⟩
      | false =>
        by_cases h2 : andn X m = 0
        · exact .inr (.inr ⟨rfl, by rw [h2]; rfl, by rw [h2]; rfl⟩)
        · exact .inr (.inl ⟨rfl, by rw [bne_iff_ne]; omega, by simp [h2]⟩)
    have i1 : x < ms.length := hxn
    clear hOK hp hB hx1 hx2
    rcases hway with ⟨h1, h3⟩ | ⟨h1, h2, h3⟩ | ⟨h1, h2, h3⟩
    · have HH := Lib.hid (show ∀ wx, Calls Tryd.prog 33 #[.int .u64 X, .int .i64 a] wx fun e w' => e = .returned (.bool true) ∧ w' = wx from fun wx => h1 ▸ has_any X a hX ha64 wx)
      have H3 := Lib.hid h3
      clear h1 h3
      gi_wp2
      refine wpInRound_region_quiet hmx (by kernel_rfl) (by kernel_rfl) ?_
      repeat (first | go_big_quiet_step (((go_at_call 33; exact Calls.quiet_of_same (HH.out _)))) | quiet_step (((go_at_call 33; exact Calls.quiet_of_same (HH.out _)))))
      refine wpQuiet_nil ?_
      intro _ hw'
      obtain ⟨nq, hw''⟩ := hw'
      subst hw''
      gi_wp2
      exact ⟨(keepsN W nq).trans (KeepsOthers.setCell (W.drewN nq) ⟨w.heap.size + 1 + 1, 0, none⟩ (.bool false)), ⟨rfl, ⟨⟨x, hx⟩, by simp, H3.out⟩, World.cell?_setCell_same' (W.drewN nq) ⟨w.heap.size + 1 + 1, 0, none⟩ (.bool false) (by simp [k2])⟩, (belowN HBX.out nq).setCell (p := ⟨w.heap.size + 1 + 1, 0, none⟩) (by simp; omega) _⟩
    · have HH := Lib.hid (show ∀ wx, Calls Tryd.prog 33 #[.int .u64 X, .int .i64 a] wx fun e w' => e = .returned (.bool false) ∧ w' = wx from fun wx => h1 ▸ has_any X a hX ha64 wx)
      have H3 := Lib.hid h3
      clear h1 h3
      gi_wp2
      refine wpInRound_region_quiet hmx (by kernel_rfl) (by kernel_rfl) ?_
      repeat (first | go_big_quiet_step (((go_at_call 33; exact Calls.quiet_of_same (HH.out _)))) | quiet_step (((go_at_call 33; exact Calls.quiet_of_same (HH.out _)))))
      refine wpQuiet_nil ?_
      intro _ hw'
      obtain ⟨nq, hw''⟩ := hw'
      subst hw''
      gi_wp2
      exact ⟨(keepsN W nq).trans (KeepsOthers.setCell (W.drewN nq) ⟨w.heap.size + 1 + 1, 0, none⟩ (.bool false)), ⟨rfl, ⟨⟨x, hx⟩, by simp, H3.out⟩, World.cell?_setCell_same' (W.drewN nq) ⟨w.heap.size + 1 + 1, 0, none⟩ (.bool false) (by simp [k2])⟩, (belowN HBX.out nq).setCell (p := ⟨w.heap.size + 1 + 1, 0, none⟩) (by simp; omega) _⟩
    · have HH := Lib.hid (show ∀ wx, Calls Tryd.prog 33 #[.int .u64 X, .int .i64 a] wx fun e w' => e = .returned (.bool false) ∧ w' = wx from fun wx => h1 ▸ has_any X a hX ha64 wx)
      have H3 := Lib.hid h3
      clear h1 h3
      gi_wp2
      refine wpInRound_region_quiet hmx (by kernel_rfl) (by kernel_rfl) ?_
      repeat (first | go_big_quiet_step (((go_at_call 33; exact Calls.quiet_of_same (HH.out _)))) | quiet_step (((go_at_call 33; exact Calls.quiet_of_same (HH.out _)))))
      refine wpQuiet_nil ?_
      intro _ hw'
      obtain ⟨nq, hw''⟩ := hw'
      subst hw''
      gi_wp2
      exact ⟨keepsN _ nq, belowN (Below.refl _ W) nq, ⟨fun y hy => (List.mem_append.1 hy).elim (HP.out y) (fun e => by simp at e; subst e; exact H3.out), by simpa [go_sem] using k0, by simpa [go_sem] using k1, by simpa [go_sem] using k2, by simpa [go_sem] using k3⟩, belowN HBX.out nq⟩
  case done =>
    rintro D ys W hD hys ⟨⟨hp, k0, k1, k2, k3⟩, hB⟩ hK
    have hall : holdsB ms a = true := by
      rw [HEV.out, List.all_eq_true]
      intro z hz
      rw [← hys] at hz
      obtain ⟨y, hy, rfl⟩ := List.mem_map.1 hz
      exact hp y hy
    gi_wp2
    have hK' := (KeepsOthers.setCell W ⟨w.heap.size + 1 + 1, 0, none⟩ (.bool true)).same D _ hK rfl
    refine ⟨by simp, .inl ⟨_, _, rfl, run_takeDeferred hK', ?_⟩⟩
    have hc5 := cell_kept (World.cell?_setCell_same' W ⟨w.heap.size + 1 + 1, 0, none⟩ (.bool true) (by rw [k2]; rfl)) (grownBy_putObj' _ D (.deferred none)) (fun r e => by cases e; exact ⟨_, hK', rfl⟩)
    refine ⟨.bool true, ?_, by rw [hall], (hB.setCell (p := ⟨w.heap.size + 1 + 1, 0, none⟩) (by simp; omega) _).trans (belowK_b (w := w) (Nat.le_refl _) _ D _ _ (by omega) hK' rfl rfl)⟩
    simp [results, Tryd.f34, go_sem, hc5]
  case stop =>
    rintro D c' pre W hD hpre ⟨⟨rfl, hin, hcr⟩, hB⟩ hK
    have hall : holdsB ms a = false := by
      obtain ⟨y, hy, hf⟩ := hin
      have hm : y.1 ∈ bitsOf (andn m pa) := hpre.subset (List.mem_map.2 ⟨y, hy, rfl⟩)
      rw [HEV.out, Bool.eq_false_iff]
      intro ht
      have := List.all_eq_true.1 ht _ hm
      rw [hf] at this; cases this
    gi_wp2
    refine ⟨by simp, .inl ⟨_, _, rfl, run_takeDeferred hK, ?_⟩⟩
    have hc5 := cell_kept hcr (grownBy_putObj' _ D (.deferred none)) (fun r e => by cases e; exact ⟨_, hK, rfl⟩)
    refine ⟨.bool false, ?_, by rw [hall], hB.trans (belowK_b (w := w) (Nat.le_refl _) W D _ _ (by omega) hK rfl rfl)⟩
    simp [results, Tryd.f34, go_sem, hc5]
end Go.Proofs.YtkgcloggnnjioaaDoor

/-
  Contract: poset.next: what stands above a label with none between.
-/
import Derived.Test.YtkgcloggnnjioaaDoorHolds
import Derived.Test.YtkgcloggnnjioaaDoorClo
import Derived.Test.YtkgcloggnnjioaaDoorRoundT
import Derived.Outline
namespace Go.Proofs.YtkgcloggnnjioaaDoor
open Go.RowKit Go.Shelf

attribute [local go_sem] Oper.semAt_some

set_option maxRecDepth 100000 in
set_option maxHeartbeats 4000000 in
theorem next_any (ms : List Nat) (b off c a : Nat) (w : World) (ha : a < ms.length) (hn : ms.length ≤ 64) (hs : Small ms) (hin : ∀ i, (ms.getD a 0).testBit i = true → i < ms.length)
    (hb : b < w.heap.size) (hcs : ∀ i (h : i < ms.length), w.cell? ⟨b, off + i, none⟩ = some (mask ms[i])) (hT : Tab w) :
    Calls Tryd.prog 38 #[.slice (some ⟨b, off, none⟩) ms.length c, .int .i64 a] w fun e W' => e = .returned (.int .u64 (nextM ms a : Nat)) ∧ Below w.heap.size w W' := by
  refine (callsIn_wide (n := 9)).1 ?_
  have x0 := hcs a ha
  have ha64 : a < 64 := by omega
  unfold mask at x0
  rw [← getD_at ha] at x0
  have hma := small_getD hs a
  have hev : nextM ms a = (bitsOf (andn (ms.getD a 0) (2 ^ a))).foldl (nextF ms) (andn (ms.getD a 0) (2 ^ a)) := rfl
  generalize ms.getD a 0 = m at *
  have hpw := pow_lt64 ha64
  have hand : bits .andNot .u64 (m : Int) ((2 ^ a : Nat) : Int) = ((andn m (2 ^ a) : Nat) : Int) := u64_andNot_nat _ _ hma hpw
  have hbut := fun x => bits_but m a x hma ha64
  have habove := andn_lt m (2 ^ a) hma
  generalize hpa : 2 ^ a = pa at *
  have HEV := Lib.hid hev
  have HIN := Lib.hid hin
  have HBUT := Lib.hid hbut
  have HCS := Lib.hid hcs
  have HS := Lib.hid hs
  have HT := Lib.hid hT
  clear hev hin hbut hcs hs hT
  refine callsIn_of_wp_marks Tryd.func38 rfl trivial ?_ rfl
  simp only [Tryd.ntmps38, List.size_toArray, List.length_cons, List.length_nil, Nat.reduceAdd, Nat.reduceSub, Array.replicate_succ, Array.replicate_zero, List.push_toArray, List.append_toArray, List.nil_append, List.cons_append]
  have HBIT2 := Lib.hid (show ∀ wx, Calls Tryd.prog 37 #[.int .i64 a] wx fun e w' => e = .returned (.int .u64 (pa : Int)) ∧ w' = wx from fun wx => by
    rw [← hpa]; exact (bit_val a ha64 wx).mono fun e w' h => ⟨h.1, h.2.symm⟩)
  clear hpa
  have hmx : Tryd.prog.follows .mixedOrders = true := by kernel_rfl
  gi_wp2
  have c0 := (cellNew w (.slice (some ⟨b, off, none⟩) ms.length c) 24).1
  have hB0 : Below w.heap.size w (w.alloc (.cells #[.slice (some ⟨b, off, none⟩) ms.length c] 24)) := (Below.refl _ w).alloc (Nat.le_refl _) _
  have hsz : (w.alloc (.cells #[.slice (some ⟨b, off, none⟩) ms.length c] 24)).heap.size = w.heap.size + 1 := by simp
  obtain ⟨W0, hW0⟩ : ∃ W0, (w.alloc (.cells #[.slice (some ⟨b, off, none⟩) ms.length c] 24)) = W0 := ⟨_, rfl⟩
  rw [hW0] at hB0 hsz c0 ⊢
  have x1 := (hB0.cell (p := ⟨b, off + a, none⟩) hb).trans x0
  have HX0 := Lib.hid x0
  have i1 : (0 : Int) ≤ (a : Int) := by omega
  have i2 : (a : Int) < (ms.length : Int) := by omega
  have i3 : ¬ (a : Int) < 0 := by omega
  have i4 : ¬ (ms.length : Int) ≤ (a : Int) := by omega
  have i5 : ¬ ms.length ≤ a := by omega
  have d0 : W0.drew.cell? ⟨w.heap.size, 0, none⟩ = some (.slice (some ⟨b, off, none⟩) ms.length c) := by simpa [go_sem] using c0
  have d2 : W0.drew.cell? ⟨b, off + a, none⟩ = some (.int .u64 m) := by simpa [go_sem] using x1
  have HBD := Lib.hid (hB0.drew)
  have HSD := Lib.hid (show W0.drew.heap.size = w.heap.size + 1 by simpa using hsz)
  clear hW0 x0 hsz hB0 c0 x1
  refine wpIn_wide.2 ?_
  refine wp_region_still_tail 6 hmx (by kernel_rfl) ?_
  simp only [List.take_succ_cons, List.take_zero, List.drop_succ_cons, List.drop_zero]
  change wpStill _ _ W0.drew _ _ _
  change wpStill _ _ _ (fun a' => wpList _ _ _ _ a' W0.drew) _ _
  generalize W0.drew = Wd at *
  repeat (first | still_step | (still_call (HBIT2.out _)))
  refine wpStill_nil ?_
  go_wp2_with fail
  gi_wp2
  refine ⟨trivial, (callsIn_wide.2 (bits_any _ _)).mono ?_⟩
  rintro e w' ⟨rfl, rfl⟩
  have hds := HSD.out
  have e0 := cellOn (.cells #[.int .u64 (andn m pa : Nat)] 36) (cellOn (.cells #[.int .u64 (andn m pa : Nat)] 36) d0)
  have n0 := cellNew Wd (.int .u64 (andn m pa : Nat)) 36
  have e1 := cellOn (.cells #[.int .u64 (andn m pa : Nat)] 36) n0.1
  have e2 : ((Wd.alloc (.cells #[.int .u64 (andn m pa : Nat)] 36)).alloc (.cells #[.int .u64 (andn m pa : Nat)] 36)).frozen? ⟨Wd.heap.size, 0, none⟩ = false := (frozen_kept n0.1 (World.grownBy_alloc _ _ none) (fun r e => by cases e)).trans n0.2
  have e5 := (cellNew (Wd.alloc (.cells #[.int .u64 (andn m pa : Nat)] 36)) (.int .u64 (andn m pa : Nat)) 36).1
  have HBL := Lib.hid ((HBD.out.alloc HBD.out.size (.cells #[.int .u64 (andn m pa : Nat)] 36)).alloc (by simp; have := HBD.out.size; omega) (.cells #[.int .u64 (andn m pa : Nat)] 36))
  have hsl : ((Wd.alloc (.cells #[.int .u64 (andn m pa : Nat)] 36)).alloc (.cells #[.int .u64 (andn m pa : Nat)] 36)).heap.size = w.heap.size + 3 := by rw [World.size_alloc, World.size_alloc, HSD.out]
  rw [World.size_alloc] at e5 ⊢
  rw [hds] at e1 e2 e5 ⊢
  generalize ((Wd.alloc (.cells #[.int .u64 (andn m pa : Nat)] 36)).alloc (.cells #[.int .u64 (andn m pa : Nat)] 36)) = WL at *
  clear d0 d2 n0 HBD HSD hds
  gi_wp2
  refine wpIn_rangeFunc_ownF rfl (by omega) (gf := 39) (lb := #[.pointer (some ⟨w.heap.size + 1 + 1, 0, none⟩)]) rfl trivial (enters_of Tryd.func39 (by kernel_rfl) rfl)
    (bits_stops 8 (by omega) (w.heap.size + 1 + 1) w.heap.size (andn m pa) habove (by omega) WL (by omega) (by omega) e5 (HT.out.below HBL.out (by omega))) belowK_t (belowK_b (by omega)) (Below.refl _ _) (fun _ => rfl)
    (fun pre W => (W.cell? ⟨w.heap.size, 0, none⟩ = some (.slice (some ⟨b, off, none⟩) ms.length c) ∧ W.cell? ⟨w.heap.size + 1, 0, none⟩ = some (.int .u64 ((pre.map (·.1)).foldl (nextF ms) (andn m pa) : Nat)) ∧ W.frozen? ⟨w.heap.size + 1, 0, none⟩ = false) ∧ Below w.heap.size w W)
    (fun c' pre W => False ∧ Below w.heap.size w W)
    (OwnFrom.and (Own.from (fun s A B row hs hg hr => ⟨cell_kept hs.1 hg hr, cell_kept hs.2.1 hg hr, (frozen_kept hs.2.1 hg hr).trans hs.2.2⟩) _) (ownFrom_below (Nat.le_refl _) (by omega)))
    (fun c' => OwnFrom.and (Own.from (fun s A B row hs hg hr => hs) _) (ownFrom_below (Nat.le_refl _) (by omega)))
    ⟨⟨e0, e1, e2⟩, HBL.out⟩ ?a1 ?assign ?body ?done ?stop
  case assign =>
    intro l x W K hK
    gi_wp2
    exact hK
  case body =>
    rintro l pre ⟨x, hx⟩ W ⟨⟨k0, k1, k2⟩, hB⟩ _
    obtain ⟨hx1, hx2⟩ := (HBUT.out x).1 hx
    have hxn := HIN.out x hx1
    have xc : W.cell? ⟨b, off + x, none⟩ = some (.int .u64 (ms.getD x 0 : Nat)) := by
      rw [hB.cell (p := ⟨b, off + x, none⟩) hb, HCS.out x hxn, getD_at hxn]; rfl
    have hX := small_getD HS.out x
    have hmx : Tryd.prog.follows .mixedOrders = true := by kernel_rfl
    have hF : nextF ms ((pre.map (·.1)).foldl (nextF ms) (andn m pa)) x = andn ((pre.map (·.1)).foldl (nextF ms) (andn m pa)) (andn (ms.getD x 0) (2 ^ x)) := rfl
    have hS : ((pre ++ [(⟨x, hx⟩ : BitT (andn m pa))]).map (·.1)).foldl (nextF ms) (andn m pa) = nextF ms ((pre.map (·.1)).foldl (nextF ms) (andn m pa)) x := by rw [List.map_append, List.foldl_append]; rfl
    have hM := nextL_lt ms (pre.map (·.1)) (andn m pa) habove
    have HSS := Lib.hid (hS.trans hF)
    clear hF hS
    have hx64 : x < 64 := by omega
    generalize (pre.map (·.1)).foldl (nextF ms) (andn m pa) = M at *
    generalize ms.getD x 0 = X at *
    have hpx := pow_lt64 hx64
    have hand1 : bits .andNot .u64 (X : Int) ((2 ^ x : Nat) : Int) = ((andn X (2 ^ x) : Nat) : Int) := u64_andNot_nat _ _ hX hpx
    have hand2 : bits .andNot .u64 (M : Int) ((andn X (2 ^ x) : Nat) : Int) = ((andn M (andn X (2 ^ x)) : Nat) : Int) := u64_andNot_nat _ _ hM (andn_lt _ _ hX)
    have HBX := Lib.hid hB
    have i1 : (0 : Int) ≤ (x : Int) := by omega
    have i2 : (x : Int) < (ms.length : Int) := by omega
    have HB2 := Lib.hid (show ∀ wx, Calls Tryd.prog 37 #[.int .i64 x] wx fun e w' => e = .returned (.int .u64 ((2 ^ x : Nat) : Int)) ∧ w' = wx from fun wx => (bit_val x hx64 wx).mono fun e w' h => ⟨h.1, h.2.symm⟩)
    generalize 2 ^ x = px at *
    clear hB hx1 hx2
    have k0d : W.drew.cell? ⟨w.heap.size, 0, none⟩ = some (.slice (some ⟨b, off, none⟩) ms.length c) := by simpa [go_sem] using k0
    have k1d : W.drew.cell? ⟨w.heap.size + 1, 0, none⟩ = some (.int .u64 (M : Nat)) := by simpa [go_sem] using k1
    have k2d : W.drew.frozen? ⟨w.heap.size + 1, 0, none⟩ = false := by simpa [go_sem] using k2
    have xcd : W.drew.cell? ⟨b, off + x, none⟩ = some (.int .u64 X) := by simpa [go_sem] using xc
    have HBD := Lib.hid HBX.out.drew
    have HKW := Lib.hid (show KeepsOthers W W.drew from ⟨Nat.le_refl _, fun _ _ h _ => h⟩)
    have HBW := Lib.hid (show Below w.heap.size W W.drew from (Below.refl _ W).drew)
    gi_wp2
    refine wpInRound_region_still_tail 9 hmx (by kernel_rfl) (by kernel_rfl) ?_
    simp only [List.take_succ_cons, List.take_zero, List.drop_succ_cons, List.drop_zero]
    generalize W.drew = Wr at *
    repeat (first | still_step | (still_call (HB2.out _)))
    refine wpStill_nil ?_
    gi_wp2
    refine ⟨HKW.out.trans (KeepsOthers.setCell Wr ⟨w.heap.size + 1, 0, none⟩ _), HBW.out.setCell (p := ⟨w.heap.size + 1, 0, none⟩) (by simp) _, ⟨?_, ?_, ?_⟩, HBD.out.setCell (p := ⟨w.heap.size + 1, 0, none⟩) (by simp) _⟩
    · simpa [go_sem] using k0d
    · rw [HSS.out]; exact World.cell?_setCell_same' Wr ⟨w.heap.size + 1, 0, none⟩ _ (by simp [k1d])
    · simpa [go_sem] using k2d
  case done =>
    rintro D ys W hD hys ⟨⟨k0, k1, k2⟩, hB⟩ hK
    rw [hys, ← HEV.out] at k1
    gi_wp2
    refine ⟨by simp, .inl ⟨_, _, rfl, run_takeDeferred hK, ?_⟩⟩
    refine ⟨.int .u64 (nextM ms a : Nat), ?_, rfl, hB.trans (belowK_b (w := w) (Nat.le_refl _) W D _ _ (by omega) hK rfl rfl)⟩
    simp [results, Tryd.f38, go_sem]
  case stop =>
    rintro D c' pre W hD hpre ⟨hf, _⟩ hK
    exact hf.elim
end Go.Proofs.YtkgcloggnnjioaaDoor

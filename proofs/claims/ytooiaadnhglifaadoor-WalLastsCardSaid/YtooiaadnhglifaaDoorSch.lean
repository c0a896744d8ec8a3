/-
  Contract: sha.schedule.
-/
import Derived.Test.YtooiaadnhglifaaDoorWrd
set_option linter.unusedVariables false
set_option linter.unusedSimpArgs false
namespace Go.Proofs.YtooiaadnhglifaaDoor
open Go.RowKit

/-- the words so far, and zeros -/
def schC (l : List UInt8) (k : Nat) : List Value := cells32 (schS l k) ++ List.replicate (64 - k) (.int .u32 0)
theorem schC_len (l : List UInt8) (k : Nat) (h : k ≤ 64) : (schC l k).length = 64 := by simp [schC, cells32, schS_len]; omega
theorem schC_at (l : List UInt8) (k j : Nat) (h : j < k) : (schC l k)[j]? = some (W32 ((schS l k).getD j 0)) := by
  have hl := schS_len l k
  unfold schC cells32
  rw [List.getElem?_append_left (by simp [hl]; omega), List.getElem?_map, List.getD_eq_getElem?_getD, List.getElem?_eq_getElem (by omega)]
  rfl
theorem schC_next (l : List UInt8) (k : Nat) (h : k < 64) (x : UInt32) (hx : x = if k < 16 then wrdS l (4 * k) else nxtS (schS l k)) : (schC l k).set k (W32 x) = schC l (k + 1) := by
  have hl := schS_len l k
  unfold schC
  rw [List.set_append_right _ _ (by simp [cells32_len, hl]), cells32_len, hl, Nat.sub_self, show 64 - k = 64 - (k + 1) + 1 by omega, List.replicate_succ, List.set_cons_zero, schS, ← hx]
  simp [cells32]
/-- the blocks of the call -/
structure Sw (wr w : World) (N : Nat) (l : List UInt8) (k : Nat) : Prop where
  inb : Bk wr N 107 (cells8 l).toArray
  out : Bk wr (N + 1) 98 (schC l 0).toArray
  wd : Bk wr (N + 1 + 1) 98 (schC l k).toArray
  bel : Below N w wr
theorem Sw.drewN {wr w : World} {N : Nat} {l : List UInt8} {k : Nat} (h : Sw wr w N l k) (n : Nat) : Sw (wr.drewN n) w N l k :=
  ⟨h.inb.on (below_drewN' (Below.refl _ _) n), h.out.on (below_drewN' (Below.refl _ _) n), h.wd.on (below_drewN' (Below.refl _ _) n), below_drewN' h.bel n⟩
theorem Sw.set {wr w : World} {N : Nat} {l : List UInt8} {k : Nat} (h : Sw wr w N l k) (hk : k < 64) (x : UInt32) (hx : x = if k < 16 then wrdS l (4 * k) else nxtS (schS l k)) : Sw (wr.setCell ⟨N + 1 + 1, k, none⟩ (W32 x)) w N l (k + 1) := by
  refine ⟨h.inb.other (by omega) _ _, h.out.other (by omega) _ _, ?_, h.bel.setCell (by show N ≤ N + 1 + 1; omega) _⟩
  have := h.wd.set k (W32 x)
  rw [show (schC l k).toArray.setIfInBounds k (W32 x) = ((schC l k).set k (W32 x)).toArray by simp, schC_next l k hk x hx] at this
  exact this
theorem Sw.byte {wr w : World} {N : Nat} {l : List UInt8} {k : Nat} (h : Sw wr w N l k) (j : Nat) (hj : j < l.length) : wr.cell? ⟨N, j, none⟩ = some (B8 (l.getD j 0)) :=
  h.inb.cell j _ (by simp [cells8, List.getElem?_eq_getElem hj])
/-- the same, with the next word begun -/
structure Sx (wr w : World) (N : Nat) (l : List UInt8) (k : Nat) (x : UInt32) : Prop where
  inb : Bk wr N 107 (cells8 l).toArray
  out : Bk wr (N + 1) 98 (schC l 0).toArray
  wd : Bk wr (N + 1 + 1) 98 ((schC l k).set k (W32 x)).toArray
  bel : Below N w wr
theorem Sw.drew {wr w : World} {N : Nat} {l : List UInt8} {k : Nat} (h : Sw wr w N l k) : Sw wr.drew w N l k :=
  ⟨h.inb.on (Below.refl _ _).drew, h.out.on (Below.refl _ _).drew, h.wd.on (Below.refl _ _).drew, h.bel.drew⟩
theorem Sw.at {wr w : World} {N : Nat} {l : List UInt8} {k : Nat} (h : Sw wr w N l k) (j : Nat) (hj : j < k) {y : UInt32} (e : Hid (y = (schS l k).getD j 0)) : wr.cell? ⟨N + 1 + 1, j, none⟩ = some (W32 y) :=
  h.wd.cell j _ (by rw [List.toList_toArray, e.out]; exact schC_at l k j hj)
theorem Sw.there {wr w : World} {N : Nat} {l : List UInt8} {k : Nat} (h : Sw wr w N l k) (hk : k < 64) : ∃ v, wr.cell? ⟨N + 1 + 1, k, none⟩ = some v :=
  ⟨_, h.wd.cell k _ (List.getElem?_eq_getElem (by rw [List.toList_toArray, schC_len _ _ (by omega)]; omega))⟩
theorem Sx.drew {wr w : World} {N : Nat} {l : List UInt8} {k : Nat} {x : UInt32} (h : Sx wr w N l k x) : Sx wr.drew w N l k x :=
  ⟨h.inb.on (Below.refl _ _).drew, h.out.on (Below.refl _ _).drew, h.wd.on (Below.refl _ _).drew, h.bel.drew⟩
theorem Sw.put {wr w : World} {N : Nat} {l : List UInt8} {k : Nat} (h : Sw wr w N l k) (x : UInt32) : Sx (wr.setCell ⟨N + 1 + 1, k, none⟩ (W32 x)) w N l k x := by
  refine ⟨h.inb.other (by omega) _ _, h.out.other (by omega) _ _, ?_, h.bel.setCell (by show N ≤ N + 1 + 1; omega) _⟩
  have := h.wd.set k (W32 x)
  rw [show (schC l k).toArray.setIfInBounds k (W32 x) = ((schC l k).set k (W32 x)).toArray by simp] at this
  exact this
theorem Sx.put {wr w : World} {N : Nat} {l : List UInt8} {k : Nat} {x : UInt32} (h : Sx wr w N l k x) (y : UInt32) : Sx (wr.setCell ⟨N + 1 + 1, k, none⟩ (W32 y)) w N l k y := by
  refine ⟨h.inb.other (by omega) _ _, h.out.other (by omega) _ _, ?_, h.bel.setCell (by show N ≤ N + 1 + 1; omega) _⟩
  have := h.wd.set k (W32 y)
  rw [show ((schC l k).set k (W32 x)).toArray.setIfInBounds k (W32 y) = ((schC l k).set k (W32 y)).toArray by simp] at this
  exact this
theorem Sx.done {wr w : World} {N : Nat} {l : List UInt8} {k : Nat} {x : UInt32} (h : Sx wr w N l k x) (hk : k < 64) (hx : x = if k < 16 then wrdS l (4 * k) else nxtS (schS l k)) : Sw wr w N l (k + 1) :=
  ⟨h.inb, h.out, by have := h.wd; rw [schC_next l k hk x hx] at this; exact this, h.bel⟩
theorem Sx.at {wr w : World} {N : Nat} {l : List UInt8} {k : Nat} {x : UInt32} (h : Sx wr w N l k x) (hk : k < 64) : wr.cell? ⟨N + 1 + 1, k, none⟩ = some (W32 x) :=
  h.wd.cell k _ (by rw [List.toList_toArray, List.getElem?_set_self (by rw [schC_len _ _ (by omega)]; omega)])
theorem Bk.new' {N : Nat} (w : World) (hN : w.heap.size = N) (T : TypeId) (cs : Array Value) : Bk (w.alloc (.cells cs T)) N T cs := by subst hN; exact Bk.new w T cs
theorem Sw.start (w : World) (l : List UInt8) : Sw (((w.alloc (.cells (cells8 l).toArray 107)).alloc (.cells (schC l 0).toArray 98)).alloc (.cells (schC l 0).toArray 98)) w w.heap.size l 0 :=
  ⟨((Bk.new w _ _).on (below1 _ _)).on (below1 _ _), (Bk.new' (w.alloc _) (by simp) _ _).on (below1 _ _), Bk.new' ((w.alloc _).alloc _) (by simp) _ _, (((Below.refl _ _).alloc (Nat.le_refl _) _).alloc (by simp) _).alloc (by simp; omega) _⟩

set_option maxRecDepth 100000 in
set_option maxHeartbeats 1000000 in
theorem sched_any (l : List UInt8) (w : World) (hl : l.length = 64) :
    Calls Tryd.prog 79 #[.agg (cells8 l).toArray] w fun e w' => e = .returned (.agg (cells32 (schS l 64)).toArray) ∧ Below w.heap.size w w' := by
  have HL := Lib.hid hl
  clear hl
  go_enter Tryd.func79, Tryd.ntmps79
  go_wp2
  go_loopw [8] (fun i wr => ∃ k : Nat, k ≤ 16 ∧ i = .int .i64 k ∧ Sw wr w w.heap.size l k) (fun i _ => 16 - (intOf i).toNat)
  case atStart =>
    exact ⟨0, by omega, rfl, Sw.start w l⟩
  case round =>
    obtain ⟨k, hk, rfl, hS⟩ := hrel
    by_cases hlt : k < 16
    · have b0 := hS.byte (4 * k) (by rw [HL.out]; omega)
      have b1 := hS.byte (4 * k + 1) (by rw [HL.out]; omega)
      have b2 := hS.byte (4 * k + 2) (by rw [HL.out]; omega)
      have b3 := hS.byte (4 * k + 3) (by rw [HL.out]; omega)
      have c0 := hS.wd.cell k _ (List.getElem?_eq_getElem (by rw [List.toList_toArray, schC_len _ _ (by omega)]; omega))
      have f0 := hS.wd.soft k
      have HS := Lib.hid hS
      clear hS
      have hsl := fun wx => run_slice_arr (P := Tryd.prog) 107 5 64 Tryd.underlying107 (by kernel_rfl) w.heap.size 0 .i64 (4 * k) (4 * k) (by simp) (by omega) wx
      rw [Nat.zero_add] at hsl
      go_wp2_with (go_at_call 81; refine (word_any _ _ _ _ _ _ _ _ _ (by omega) (by omega) b0 b1 b2 b3).mono ?_; rintro e w1 ⟨rfl, n, rfl⟩)
      go_roundw
      case rel => exact ⟨k + 1, by omega, by go_num, (HS.out.drewN n).set (by omega) _ (by rw [if_pos hlt]; rfl)⟩
      case measure => simp [intOf]; omega
    · obtain rfl : k = 16 := by omega
      obtain ⟨wo, rfl⟩ : ∃ wo : World, wo = wr := ⟨_, rfl⟩
      rw [show ((16 : Nat) : Int) = 16 from rfl]
      go_wp2
      go_loopw [5] (fun i wr => ∃ k : Nat, 16 ≤ k ∧ k ≤ 64 ∧ i = .int .i64 k ∧ Sw wr w w.heap.size l k) (fun i _ => 64 - (intOf i).toNat)
      case atStart => exact ⟨16, by omega, by omega, rfl, hS⟩
      case round =>
        clear hS
        obtain ⟨k, hk1, hk2, rfl, hS⟩ := hrel
        by_cases hlt : k < 64
        · obtain ⟨y16, e16⟩ : ∃ y, Hid (y = (schS l k).getD (k - 16) 0) := ⟨_, Lib.hid rfl⟩
          obtain ⟨y15, e15⟩ : ∃ y, Hid (y = (schS l k).getD (k - 15) 0) := ⟨_, Lib.hid rfl⟩
          obtain ⟨y7, e7⟩ : ∃ y, Hid (y = (schS l k).getD (k - 7) 0) := ⟨_, Lib.hid rfl⟩
          obtain ⟨y2, e2⟩ : ∃ y, Hid (y = (schS l k).getD (k - 2) 0) := ⟨_, Lib.hid rfl⟩
          have x15 := hS.at (k - 15) (by omega) e15
          have x2 := hS.at (k - 2) (by omega) e2
          have HS := Lib.hid hS
          clear hS
          go_wp2
          go_quiet (fail)
          go_wp2
          clear x15 x2
          refine wp_region_still_tail 11 (by kernel_rfl) (by kernel_rfl) ?_
          simp only [List.take_succ_cons, List.take_zero, List.drop_succ_cons, List.drop_zero]
          change wpStill _ _ (wr.drewN nq).drew _ _ _
          change wpStill _ _ _ (fun a' => wpList _ _ _ _ a' (wr.drewN nq).drew) _ _
          have HS1 := Lib.hid (show Sw (wr.drewN nq).drew w w.heap.size l k from (HS.out.drewN nq).drew)
          generalize (wr.drewN nq).drew = WD at *
          clear HS
          have z16 := HS1.out.at (k - 16) (by omega) e16
          have z7 := HS1.out.at (k - 7) (by omega) e7
          obtain ⟨vc, zc⟩ := HS1.out.there hlt
          have zf := HS1.out.wd.soft k
          have w1 : IntKind.i64.wrap ((k : Int) - 16) = (k : Int) - 16 := IntWalk.i64_in _ (by omega)
          have w2 : IntKind.i64.wrap ((k : Int) - 7) = (k : Int) - 7 := IntWalk.i64_in _ (by omega)
          have w3 : ((k : Int) - 16).toNat = k - 16 := by omega
          have w4 : ((k : Int) - 7).toNat = k - 7 := by omega
          have w5 : (0 : Int) ≤ (k : Int) - 16 := by omega
          have w6 : (0 : Int) ≤ (k : Int) - 7 := by omega
          have w7 : (k : Int) - 16 < 64 := by omega
          have w8 : (k : Int) - 7 < 64 := by omega
          have w9 : (16 : Int) ≤ (k : Int) := by omega
          have w10 : (7 : Int) ≤ (k : Int) := by omega
          repeat still_step
          refine wpStill_nil ?_
          clear w1 w2 w3 w4 w5 w6 w7 w8 w9 w10
          go_wp2_with fail
          obtain ⟨q1, eq1⟩ : ∃ q, Hid (q = y16 + y7) := ⟨_, Lib.hid rfl⟩
          rw [add_val, ← eq1.out]
          have HX := Lib.hid (HS1.out.put q1).drew
          clear z16 z7 zc zf HS1
          refine wp_region_still_tail 13 (by kernel_rfl) (by kernel_rfl) ?_
          simp only [List.take_succ_cons, List.take_zero, List.drop_succ_cons, List.drop_zero]
          change wpStill _ _ (WD.setCell ⟨w.heap.size + 1 + 1, k, none⟩ (W32 q1)).drew _ _ _
          change wpStill _ _ _ (fun a' => wpList _ _ _ _ a' (WD.setCell ⟨w.heap.size + 1 + 1, k, none⟩ (W32 q1)).drew) _ _
          generalize (WD.setCell ⟨w.heap.size + 1 + 1, k, none⟩ (W32 q1)).drew = WE at *
          have zc := HX.out.at hlt
          have zf := HX.out.wd.soft k
          have w3 : (0 : Int) ≤ (k : Int) := by omega
          have w4 : (k : Int) < 64 := by omega
          repeat (first | still_step | still_call (turned_still y15 7 7 rfl (by decide) (by decide) _) | still_call (turned_still y15 18 18 rfl (by decide) (by decide) _))
          refine wpStill_nil ?_
          clear w3 w4
          go_wp2_with fail
          obtain ⟨q2, eq2⟩ : ∃ q, Hid (q = q1 + s0S y15) := ⟨_, Lib.hid rfl⟩
          rw [shr3_val, xor_val, xor_val, add_val, ← s0S, ← eq2.out]
          have HY := Lib.hid (HX.out.put q2).drew
          clear zc zf HX
          refine wp_region_still_tail 13 (by kernel_rfl) (by kernel_rfl) ?_
          simp only [List.take_succ_cons, List.take_zero, List.drop_succ_cons, List.drop_zero]
          change wpStill _ _ (WE.setCell ⟨w.heap.size + 1 + 1, k, none⟩ (W32 q2)).drew _ _ _
          change wpStill _ _ _ (fun a' => wpList _ _ _ _ a' (WE.setCell ⟨w.heap.size + 1 + 1, k, none⟩ (W32 q2)).drew) _ _
          generalize (WE.setCell ⟨w.heap.size + 1 + 1, k, none⟩ (W32 q2)).drew = WF at *
          have zc := HY.out.at hlt
          have zf := HY.out.wd.soft k
          have w3 : (0 : Int) ≤ (k : Int) := by omega
          have w4 : (k : Int) < 64 := by omega
          repeat (first | still_step | still_call (turned_still y2 17 17 rfl (by decide) (by decide) _) | still_call (turned_still y2 19 19 rfl (by decide) (by decide) _))
          refine wpStill_nil ?_
          clear w3 w4
          go_wp2_with fail
          rw [shr10_val, xor_val, xor_val, add_val, ← s1S]
          have HZ := Lib.hid ((HY.out.put (q2 + s1S y2)).done hlt (by rw [if_neg (by omega), nxtS, schS_len, eq2.out, eq1.out, e16.out, e7.out, e15.out, e2.out]))
          clear zc zf HY
          generalize WF.setCell ⟨w.heap.size + 1 + 1, k, none⟩ (.int .u32 ((q2 + s1S y2).toNat : Int)) = WG at *
          go_wp2_with fail
          go_roundw
          case rel => exact ⟨k + 1, by omega, by omega, by go_num, HZ.out⟩
          case measure => simp [intOf]; omega
        · obtain rfl : k = 64 := by omega
          obtain ⟨wp, rfl⟩ : ∃ wp : World, wp = wr := ⟨_, rfl⟩
          have HE := Lib.hid (show schC l 64 = cells32 (schS l 64) by simp [schC])
          have HB := Lib.hid hS.bel
          have HO := Lib.hid hS.out
          have HW := hS.wd
          rw [HE.out] at HW
          have HW := Lib.hid HW
          have HN := Lib.hid (show (cells32 (schS l 64)).toArray.size = 64 by simp [cells32_len, schS_len])
          have H1 := Lib.hid (show (cells32 (schS l 64)).toArray.all (·.oneCell') = true from all_oneCell_toArray (by intro v hv; obtain ⟨x, _, rfl⟩ := List.mem_map.1 hv; rfl))
          clear hS hlt
          go_wp2_with (first
            | (refine wpList_load_row rfl 98 _ rfl _ rfl _ _ _ _ HW.out Tryd.underlying98 rfl (by rw [HN.out]; kernel_rfl) ?_)
            | (refine wpList_store_row rfl 98 _ _ rfl _ _ rfl rfl _ _ HO.out (by rw [HN.out]; kernel_rfl) (by rw [HN.out]; rfl) H1.out ?_))
          exact bodyPost_ret (v := .agg (cells32 (schS l 64)).toArray) (results_cell_row rfl _ _ _ _ _ _ _ rfl (setRow_heap _ _ _ _ _ _ HO.out) Tryd.underlying98 rfl (by rw [HN.out]; kernel_rfl)) rfl ⟨rfl, below_setRow HB.out (by omega) _⟩
end Go.Proofs.YtooiaadnhglifaaDoor

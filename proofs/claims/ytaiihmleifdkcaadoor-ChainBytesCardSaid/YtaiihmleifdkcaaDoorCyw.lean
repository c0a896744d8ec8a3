/-
  The walk of ChainBytes.
-/
import Derived.Test.YtaiihmleifdkcaaDoorCba
set_option linter.unusedVariables false
set_option linter.unusedSimpArgs false
namespace Go.Proofs.YtaiihmleifdkcaaDoor
open Go.RowKit Nm

/-- what is kept -/
structure Cs (X w : World) (e : En) (q1 q2 : Option Addr) (L : List UInt8) : Prop where
  eb : Eb X w e
  r1 : Rd0 X q1 L
  r2 : Rd0 X q2 L
theorem Cs.on {X X' w : World} {e : En} {q1 q2 : Option Addr} {L : List UInt8} (h : Cs X w e q1 q2 L) (hb : Below X.heap.size X X') : Cs X' w e q1 q2 L :=
  ⟨h.eb.on (hb.mono h.eb.size), h.r1.on hb, h.r2.on hb⟩
theorem Cs.env {X w : World} {e : En} {q1 q2 : Option Addr} {L : List UInt8} (h : Cs X w e q1 q2 L) (hE : Env3 w) : Env3 X := hE.on h.eb.bel

set_option maxRecDepth 100000 in
set_option maxHeartbeats 2000000 in
theorem bytes_walk (i : Int) (hi : i ≤ 9223372036854775807) (e : En) (hk : e.Ok) (w : World) (hE : Env3 w) :
    Calls Tryd.prog 3 #[.int .i64 i, .agg e.cells.toArray] w fun r w' => r = .returned (.bool true) ∧ Below w.heap.size w w' := by
  have HS := Lib.hid (En.size hk)
  have HLC := Lib.hid (show e.cells.length = 35 by have := HS.out; rwa [List.size_toArray] at this)
  have HK := Lib.hid hk
  have HI := Lib.hid hi
  have HE := Lib.hid hE
  have HEB := Lib.hid (Eb.start w e)
  have B1 := fun X => bytes_both i hi e hk X
  have B2 := fun X => refbytes_both i hi e hk X
  generalize bytesR i e = L at B1 B2
  generalize bytesE i e = n at B1 B2
  have HB1 := Lib.hid B1
  have HB2 := Lib.hid B2
  clear hk hi hE B1 B2
  go_enter Tryd.func3, Tryd.ntmps3
  go_upto_region 1 with (fail)
  generalize w.alloc (.cells e.cells.toArray 24) = WA at *
  go_upto_region 2 with (first
    | (refine wpList_load_row rfl 24 _ rfl _ rfl _ _ _ _ HEB.out.bk Tryd.underlying24 rfl (by rw [HS.out]; kernel_rfl) ?_)
    | (go_at_call 11; refine (HB1.out _).mono ?_; rintro r w1 ⟨q1, c1, rfl, hR, hb⟩; have HR1 := Lib.hid hR; have HEB1 := Lib.hid (HEB.out.on (hb.mono HEB.out.size)); clear hR hb))
  go_upto_region 3 with (first
    | (refine wpList_load_row rfl 24 _ rfl _ rfl _ _ _ _ HEB1.out.bk Tryd.underlying24 rfl (by rw [HS.out]; kernel_rfl) ?_)
    | (go_at_call 12; refine (HB2.out _).mono ?_; rintro r w2 ⟨q2, c2, rfl, hR, hb⟩; have HC0 := Lib.hid (show Cs w2 w e q1 q2 L from ⟨HEB1.out.on (hb.mono HEB1.out.size), HR1.out.on hb, hR⟩); clear hR hb))
  have HC := Lib.hid (HC0.out.on (Below.refl _ _).drew)
  clear HC0 HEB HEB1 HR1 HB1 HB2
  refine wp_region_held_drew (S := fun X => X.rangeAt w.heap.size 0 e.cells ∧ Rd0 X q1 L ∧ Rd0 X q2 L) (by kernel_rfl) (⟨fun j v hv => by rw [Nat.zero_add]; exact HC.out.eb.bk.cell j v (by rw [List.toList_toArray]; exact hv), HC.out.r1, HC.out.r2⟩) (fun hHeld => ?_)
  refine wpAnyH_ready (rs := [0]) (by kernel_rfl) (by simp) ?_
  refine AllReadyH.cons rfl (fun K hK => ?_) AllReadyH.nil
  go_simp
  go_at_call 13
  refine (fixed_any _ (HC.out.env HE.out)).mono ?_
  rintro r w3 ⟨rfl, hb⟩
  have HC1 := Lib.hid (HC.out.on hb)
  clear hb
  refine hK.out _ _ (⟨fun j v hv => by rw [Nat.zero_add]; exact HC1.out.eb.bk.cell j v (by rw [List.toList_toArray]; exact hv), HC1.out.r1, HC1.out.r2⟩) (fun hHeld => ?_)
  clear hK K
  (try simp only [Act.put, List.setIfInBounds_toArray, List.set_cons_zero, List.set_cons_succ])
  refine wpAnyH_take (i := 1) (v := ?_) rfl (by kernel_rfl) (by kernel_rfl) (by kernel_rfl) (fun _ _ _ h => h) (Or.inl ⟨by rfl, ?hy⟩) (by assumption) ?_
  case hy =>
    intro w hSw
    go_simp
    all_goals with_reducible rfl
  (try simp only [Act.put, List.setIfInBounds_toArray, List.set_cons_zero, List.set_cons_succ])
  refine wpAnyH_take (i := 2) (v := ?_) rfl (by kernel_rfl) (by kernel_rfl) (by kernel_rfl) (fun _ _ _ h => h) (Or.inl ⟨by rfl, ?hy⟩) (by assumption) ?_
  case hy =>
    intro w hSw
    go_simp
    all_goals with_reducible rfl
  (try simp only [Act.put, List.setIfInBounds_toArray, List.set_cons_zero, List.set_cons_succ])
  refine wpAnyH_take (i := 3) (v := ?_) rfl (by kernel_rfl) (by kernel_rfl) (by kernel_rfl) (fun _ _ _ h => h) (Or.inl ⟨by rfl, ?hy⟩) (by assumption) ?_
  case hy =>
    intro w hSw
    go_simp
    all_goals with_reducible rfl
  (try simp only [Act.put, List.setIfInBounds_toArray, List.set_cons_zero, List.set_cons_succ])
  refine wpAnyH_take (i := 4) (v := ?_) rfl (by kernel_rfl) (by kernel_rfl) (by kernel_rfl) (fun _ _ _ h => h) (Or.inl ⟨by rfl, ?hy⟩) (by assumption) ?_
  case hy =>
    intro w hSw
    go_simp
    all_goals with_reducible rfl
  (try simp only [Act.put, List.setIfInBounds_toArray, List.set_cons_zero, List.set_cons_succ])
  refine wpAnyH_ready (rs := [5]) (by kernel_rfl) (by simp) ?_
  refine AllReadyH.cons rfl (fun K hK => ?_) AllReadyH.nil
  go_simp
  skip
  refine hK.out _ _ (⟨fun j v hv => by rw [Nat.zero_add]; exact HC1.out.eb.bk.cell j v (by rw [List.toList_toArray]; exact hv), HC1.out.r1, HC1.out.r2⟩) (fun hHeld => ?_)
  clear hK K
  (try simp only [Act.put, List.setIfInBounds_toArray, List.set_cons_zero, List.set_cons_succ])
  refine wpAnyH_take (i := 6) (v := ?_) rfl (by kernel_rfl) (by kernel_rfl) (by kernel_rfl) (fun _ _ _ h => h) (Or.inl ⟨by rfl, ?hy⟩) (by assumption) ?_
  case hy =>
    intro w hSw
    go_simp
    all_goals with_reducible rfl
  (try simp only [Act.put, List.setIfInBounds_toArray, List.set_cons_zero, List.set_cons_succ])
  refine wpAnyH_take (i := 7) (v := ?_) rfl (by kernel_rfl) (by kernel_rfl) (by kernel_rfl) (fun _ _ _ h => h) (Or.inl ⟨by rfl, ?hy⟩) (by assumption) ?_
  case hy =>
    intro w hSw
    go_simp
    all_goals with_reducible rfl
  (try simp only [Act.put, List.setIfInBounds_toArray, List.set_cons_zero, List.set_cons_succ])
  refine wpAnyH_take (i := 9) (v := ?_) rfl (by kernel_rfl) (by kernel_rfl) (by kernel_rfl) (fun _ _ _ h => h) (Or.inl ⟨by rfl, ?hy⟩) (by assumption) ?_
  case hy =>
    intro w hSw
    go_simp
    all_goals with_reducible rfl
  (try simp only [Act.put, List.setIfInBounds_toArray, List.set_cons_zero, List.set_cons_succ])
  refine wpAnyH_take (i := 8) (v := .string ⟨L.toArray⟩) rfl (by kernel_rfl) (by kernel_rfl) (by kernel_rfl) (fun _ _ _ h => h) (Or.inl ⟨by rfl, ?hy⟩) (by assumption) ?_
  case hy =>
    intro w hSw
    have hcv := run_back8 w q1 L c1 hSw.2.1
    go_simp
  (try simp only [Act.put, List.setIfInBounds_toArray, List.set_cons_zero, List.set_cons_succ])
  refine wpAnyH_take (i := 10) (v := .string ⟨L.toArray⟩) rfl (by kernel_rfl) (by kernel_rfl) (by kernel_rfl) (fun _ _ _ h => h) (Or.inl ⟨by rfl, ?hy⟩) (by assumption) ?_
  case hy =>
    intro w hSw
    have hcv := run_back8 w q2 L c2 hSw.2.2
    go_simp
  (try simp only [Act.put, List.setIfInBounds_toArray, List.set_cons_zero, List.set_cons_succ])
  refine wpAnyH_take (i := 11) (v := ?_) rfl (by kernel_rfl) (by kernel_rfl) (by kernel_rfl) (fun _ _ _ h => h) (Or.inl ⟨by rfl, ?hy⟩) (by assumption) ?_
  case hy =>
    intro w hSw
    go_simp
    all_goals with_reducible rfl
  (try simp only [Act.put, List.setIfInBounds_toArray, List.set_cons_zero, List.set_cons_succ])
  refine wpAnyH_ready (rs := [12]) (by kernel_rfl) (by simp) ?_
  refine AllReadyH.cons rfl (fun K hK => ?_) AllReadyH.nil
  go_simp
  skip
  refine hK.out _ _ (⟨fun j v hv => by rw [Nat.zero_add]; exact HC1.out.eb.bk.cell j v (by rw [List.toList_toArray]; exact hv), HC1.out.r1, HC1.out.r2⟩) (fun hHeld => ?_)
  clear hK K
  (try simp only [Act.put, List.setIfInBounds_toArray, List.set_cons_zero, List.set_cons_succ])
  refine wpAnyH_take (i := 13) (v := ?_) rfl (by kernel_rfl) (by kernel_rfl) (by kernel_rfl) (fun _ _ _ h => h) (Or.inl ⟨by rfl, ?hy⟩) (by assumption) ?_
  case hy =>
    intro w hSw
    go_simp
    all_goals with_reducible rfl
  (try simp only [Act.put, List.setIfInBounds_toArray, List.set_cons_zero, List.set_cons_succ])
  refine wpAnyH_take (i := 14) (v := .agg e.cells.toArray) rfl (by kernel_rfl) (by kernel_rfl) (by kernel_rfl) (fun _ _ _ h => h) (yieldsIf_load_mid (by rfl) 24 (.tmp 3) rfl w.heap.size 0 (by rfl) _ _ (fun _ h => h.1) Tryd.underlying24 rfl (by rw [HLC.out]; kernel_rfl)) (by assumption) ?_
  (try simp only [Act.put, List.setIfInBounds_toArray, List.set_cons_zero, List.set_cons_succ])
  refine wpAnyH_take (i := 16) (v := .agg e.cells.toArray) rfl (by kernel_rfl) (by kernel_rfl) (by kernel_rfl) (fun _ _ _ h => h) (yieldsIf_load_mid (by rfl) 24 (.tmp 3) rfl w.heap.size 0 (by rfl) _ _ (fun _ h => h.1) Tryd.underlying24 rfl (by rw [HLC.out]; kernel_rfl)) (by assumption) ?_
  (try simp only [Act.put, List.setIfInBounds_toArray, List.set_cons_zero, List.set_cons_succ])
  refine wpAnyH_ready (rs := [15]) (by kernel_rfl) (by simp) ?_
  refine AllReadyH.cons rfl (fun K hK => ?_) AllReadyH.nil
  go_simp
  go_at_call 14
  refine (good_any e HK.out _).mono ?_
  rintro r w4 ⟨rfl, hb⟩
  have HC2 := Lib.hid (HC1.out.on hb)
  clear hb
  refine hK.out _ _ (⟨fun j v hv => by rw [Nat.zero_add]; exact HC2.out.eb.bk.cell j v (by rw [List.toList_toArray]; exact hv), HC2.out.r1, HC2.out.r2⟩) (fun hHeld => ?_)
  clear hK K
  (try simp only [Act.put, List.setIfInBounds_toArray, List.set_cons_zero, List.set_cons_succ])
  refine wpAnyH_ready (rs := [17]) (by kernel_rfl) (by simp) ?_
  refine AllReadyH.cons rfl (fun K hK => ?_) AllReadyH.nil
  go_simp
  go_at_call 15
  refine (refgood_any e HK.out _).mono ?_
  rintro r w5 ⟨rfl, hb⟩
  have HC3 := Lib.hid (HC2.out.on hb)
  clear hb
  refine hK.out _ _ (⟨fun j v hv => by rw [Nat.zero_add]; exact HC3.out.eb.bk.cell j v (by rw [List.toList_toArray]; exact hv), HC3.out.r1, HC3.out.r2⟩) (fun hHeld => ?_)
  clear hK K
  (try simp only [Act.put, List.setIfInBounds_toArray, List.set_cons_zero, List.set_cons_succ])
  refine wpAnyH_ready (rs := [18]) (by kernel_rfl) (by simp) ?_
  refine AllReadyH.cons rfl (fun K hK => ?_) AllReadyH.nil
  go_simp
  skip
  refine hK.out _ _ (⟨fun j v hv => by rw [Nat.zero_add]; exact HC3.out.eb.bk.cell j v (by rw [List.toList_toArray]; exact hv), HC3.out.r1, HC3.out.r2⟩) (fun hHeld => ?_)
  clear hK K
  (try simp only [Act.put, List.setIfInBounds_toArray, List.set_cons_zero, List.set_cons_succ])
  refine wpAnyH_ready (rs := [19]) (by kernel_rfl) (by simp) ?_
  refine AllReadyH.cons rfl (fun K hK => ?_) AllReadyH.nil
  go_simp
  skip
  refine hK.out _ _ (⟨fun j v hv => by rw [Nat.zero_add]; exact HC3.out.eb.bk.cell j v (by rw [List.toList_toArray]; exact hv), HC3.out.r1, HC3.out.r2⟩) (fun hHeld => ?_)
  clear hK K
  (try simp only [Act.put, List.setIfInBounds_toArray, List.set_cons_zero, List.set_cons_succ])
  refine wpAnyH_ready (rs := [20]) (by kernel_rfl) (by simp) ?_
  refine AllReadyH.cons rfl (fun K hK => ?_) AllReadyH.nil
  go_simp
  skip
  refine hK.out _ _ (⟨fun j v hv => by rw [Nat.zero_add]; exact HC3.out.eb.bk.cell j v (by rw [List.toList_toArray]; exact hv), HC3.out.r1, HC3.out.r2⟩) (fun hHeld => ?_)
  clear hK K
  (try simp only [Act.put, List.setIfInBounds_toArray, List.set_cons_zero, List.set_cons_succ])
  refine wpAnyH_done (by kernel_rfl) ?_ _
  go_wp2_with fail
  go_ret
  exact ⟨by rfl, HC3.out.eb.bel⟩
end Go.Proofs.YtaiihmleifdkcaaDoor

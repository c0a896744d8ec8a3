/-
  The walk of ShaSums.
-/
import Derived.Test.YtjifjpfdfhaflaaDoorPts
import Derived.Test.YtjifjpfdfhaflaaDoorSum
import Derived.Test.YtjifjpfdfhaflaaDoorHex
import Derived.Test.YtjifjpfdfhaflaaDoorRhx
set_option linter.unusedVariables false
set_option linter.unusedSimpArgs false
namespace Go.Proofs.YtjifjpfdfhaflaaDoor
open Go.RowKit

theorem wp_app8 {w : World} {o : Oper} {a : Act} {K : Act → World → Prop} {Q : Exit → Act → World → Prop} (s x : Operand)
    (ho : o.op = .call { callee := .builtin .append, args := #[s, x], argTypes := #[22, 22] }) (hty : o.type = 22)
    (base : Nat) (v : Value) (xs : List UInt8) (hs : a.eval s = v) (hA : Acc w base v xs) (q : Option Addr) (m : List UInt8) (n c : Nat) (hx : a.eval x = .slice q n c) (hn : n = m.length) (hR : Rd0 w q m) (hz : xs.length + m.length ≤ 100000000000000) (hbase : base ≤ w.heap.size)
    (h : ∀ v' w', Acc w' base v' (xs ++ m) → Below base w w' → K (a.put o.dst v') w') : Oper.wp Tryd.prog o a w K Q := by
  subst hn
  obtain ⟨v', w', hr, h1, h2⟩ := run_app8 w base v xs hA q m c hR hz hbase
  unfold Oper.wp execOp
  simp only [ho, hty, resolve, invoke, builtin, Sem.run_bind, Sem.run_pure, Result.andThen_ok, List.map_toArray, List.map_cons, List.map_nil, hs, hx, hr]
  exact h v' w' h1 h2
/-- what is kept while a sum lies in a block -/
structure Mq (X w : World) (M : Nat) (S : List UInt8) : Prop where
  row : Bk X M 24 (cells8 S).toArray
  bel : Below w.heap.size w X
theorem Mq.on {X X' w : World} {M : Nat} {S : List UInt8} (h : Mq X w M S) (hb : Below X.heap.size X X') : Mq X' w M S := ⟨h.row.on hb, h.bel.trans (hb.mono h.bel.size)⟩
theorem Mq.env {X w : World} {M : Nat} {S : List UInt8} (h : Mq X w M S) (he : Env w) : Env X := he.on h.bel he.size
theorem Mq.start {X w : World} {S : List UInt8} (hb : Below w.heap.size w X) (c : Array Value) : Mq ((X.alloc (.cells c 24)).setRow X.heap.size (cells8 S).toArray) w X.heap.size S := by
  rw [World.setRow_alloc_new]
  exact ⟨Bk.new _ _ _, hb.trans ((below1 X _).mono hb.size)⟩

set_option maxRecDepth 100000 in
set_option maxHeartbeats 2000000 in
theorem sums_walk (q : Option Addr) (m : List UInt8) (c : Nat) (w : World) (hE : Env w) (hR : Rd0 w q m) (hc : m.length ≤ c) :
    Calls Tryd.prog 3 #[.slice q m.length c] w fun e w' => e = .returned (.bool true) ∧ Below w.heap.size w w' := by
  have HE := Lib.hid hE
  have HR := Lib.hid hR
  have HC := Lib.hid hc
  clear hE hR hc
  go_enter Tryd.func3, Tryd.ntmps3
  go_upto_region 3 with (go_at_call 7; refine (fixed_any _ HE.out).mono ?_; rintro e w1 ⟨rfl, hb1⟩; have HB1 := Lib.hid hb1; clear hb1)
  by_cases hbig : 20000 < m.length
  · have h1 : (20000 : Int) < (m.length : Int) := by omega
    go_wp2_with fail
    go_ret
    exact ⟨by rfl, HB1.out⟩
  have h1 : (m.length : Int) ≤ 20000 := by omega
  obtain ⟨S, hS⟩ : ∃ S, Hid (S = sumS m) := ⟨_, Lib.hid rfl⟩
  have HSL := Lib.hid (show S.length = 32 by rw [hS.out]; exact sumS_len _)
  have HSZ := Lib.hid (show (cells8 S).toArray.size = 32 by rw [List.size_toArray, cells8_len, HSL.out])
  have heq := fun wx => run_eqIn8 S HSL.out wx
  go_upto_region 6 with (first
    | (go_at_call 8; refine (rsum_any q c m _ (HR.out.on HB1.out) (by omega) S hS).mono ?_; rintro e w2 ⟨rfl, hb9⟩; have HB2 := Lib.hid (HB1.out.trans (hb9.mono HB1.out.size)); clear hb9)
    | (refine wpList_store_row rfl 24 _ _ rfl _ _ rfl rfl _ _ (Bk.new _ _ _) (by rw [HSZ.out]; kernel_rfl) (by rw [HSZ.out]; rfl) (cells8_one _) ?_))
  change Code.wp _ _ _ _ ((w2.alloc (.cells (cells8 (List.replicate 32 0)).toArray 24)).setRow w2.heap.size (cells8 S).toArray)
  have HDB := Lib.hid ((Mq.start (S := S) HB2.out (cells8 (List.replicate 32 0)).toArray).on (Below.refl _ _).drew)
  generalize (w2.alloc (.cells (cells8 (List.replicate 32 0)).toArray 24)).setRow w2.heap.size (cells8 S).toArray = WA at *
  generalize w2.heap.size = M at *
  (try simp only [Act.put])
  refine wp_region_held_drew (S := fun X => X.rangeAt M 0 (cells8 S)) (by kernel_rfl) ((fun j v hv => by rw [Nat.zero_add]; exact HDB.out.row.cell j v (by rw [List.toList_toArray]; exact hv))) (fun hHeld => ?_)
  refine wpAnyH_take (i := 1) (v := ?_) rfl (by kernel_rfl) (by kernel_rfl) (by kernel_rfl) (fun _ _ _ h => h) (Or.inl ⟨by rfl, ?hy⟩) (by assumption) ?_
  case hy =>
    intro w hSw
    go_simp
    all_goals with_reducible rfl
  (try simp only [Act.put, List.setIfInBounds_toArray, List.set_cons_zero, List.set_cons_succ])
  refine wpAnyH_take (i := 4) (v := .agg (cells8 S).toArray) rfl (by kernel_rfl) (by kernel_rfl) (by kernel_rfl) (fun _ _ _ h => h) (yieldsIf_load_mid (by rfl) 24 (.tmp 3) rfl M 0 (by rfl) _ _ (fun _ h => h) Tryd.underlying24 rfl (by rw [cells8_len, HSL.out]; kernel_rfl)) (by assumption) ?_
  (try simp only [Act.put, List.setIfInBounds_toArray, List.set_cons_zero, List.set_cons_succ])
  refine wpAnyH_ready (rs := [0]) (by kernel_rfl) (by simp) ?_
  refine AllReadyH.cons rfl (fun K hK => ?_) AllReadyH.nil
  go_simp
  have HI0 := Lib.hid (HDB.out.on (below1 _ (.cells #[] 5)))
  refine hK.out _ _ ((fun j v hv => by rw [Nat.zero_add]; exact HI0.out.row.cell j v (by rw [List.toList_toArray]; exact hv))) (fun hHeld => ?_)
  clear hK K
  (try simp only [Act.put, List.setIfInBounds_toArray, List.set_cons_zero, List.set_cons_succ])
  refine wpAnyH_ready (rs := [2]) (by kernel_rfl) (by simp) ?_
  refine AllReadyH.cons rfl (fun K hK => ?_) AllReadyH.nil
  rw [if_pos (by rfl)]
  refine wp_app8 _ _ rfl rfl WA.drew.heap.size _ [] rfl (acc_made (w := WA.drew) (Nat.le_refl _)) q m _ _ rfl rfl (HR.out.on HI0.out.bel) (by simp; omega) (by simp) ?_
  intro v5 w5 hA hb
  rw [List.nil_append] at hA
  obtain ⟨p5, d5, rfl, hd5, hR5⟩ := hA.rd
  have HI1 := Lib.hid (HDB.out.on ((below1 WA.drew (.cells #[] 5)).trans hb))
  have HR5 := Lib.hid hR5
  have HD5 := Lib.hid hd5
  clear hA hb hR5 hd5
  refine hK.out _ _ ((fun j v hv => by rw [Nat.zero_add]; exact HI1.out.row.cell j v (by rw [List.toList_toArray]; exact hv))) (fun hHeld => ?_)
  clear hK K
  (try simp only [Act.put, List.setIfInBounds_toArray, List.set_cons_zero, List.set_cons_succ])
  refine wpAnyH_ready (rs := [3]) (by kernel_rfl) (by simp) ?_
  refine AllReadyH.cons rfl (fun K hK => ?_) AllReadyH.nil
  go_simp
  go_at_call 9
  refine (sum_any p5 d5 m _ HR5.out HD5.out (HI1.out.env HE.out) (by omega) S hS).mono ?_
  rintro e w6 ⟨rfl, hb9⟩
  have HI2 := Lib.hid (HI1.out.on hb9)
  clear hb9
  refine hK.out _ _ ((fun j v hv => by rw [Nat.zero_add]; exact HI2.out.row.cell j v (by rw [List.toList_toArray]; exact hv))) (fun hHeld => ?_)
  clear hK K
  (try simp only [Act.put, List.setIfInBounds_toArray, List.set_cons_zero, List.set_cons_succ])
  refine wpAnyH_take (i := 5) (v := ?_) rfl (by kernel_rfl) (by kernel_rfl) (by kernel_rfl) (fun _ _ _ h => h) (Or.inl ⟨by rfl, ?hy⟩) (by assumption) ?_
  case hy =>
    intro w hSw
    go_simp
    all_goals with_reducible rfl
  (try simp only [Act.put, List.setIfInBounds_toArray, List.set_cons_zero, List.set_cons_succ])
  refine wpAnyH_take (i := 6) (v := ?_) rfl (by kernel_rfl) (by kernel_rfl) (by kernel_rfl) (fun _ _ _ h => h) (Or.inl ⟨by rfl, ?hy⟩) (by assumption) ?_
  case hy =>
    intro w hSw
    go_simp
    all_goals with_reducible rfl
  (try simp only [Act.put, List.setIfInBounds_toArray, List.set_cons_zero, List.set_cons_succ])
  refine wpAnyH_take (i := 7) (v := .agg (cells8 S).toArray) rfl (by kernel_rfl) (by kernel_rfl) (by kernel_rfl) (fun _ _ _ h => h) (yieldsIf_load_mid (by rfl) 24 (.tmp 3) rfl M 0 (by rfl) _ _ (fun _ h => h) Tryd.underlying24 rfl (by rw [cells8_len, HSL.out]; kernel_rfl)) (by assumption) ?_
  (try simp only [Act.put, List.setIfInBounds_toArray, List.set_cons_zero, List.set_cons_succ])
  refine wpAnyH_take (i := 9) (v := .agg (cells8 S).toArray) rfl (by kernel_rfl) (by kernel_rfl) (by kernel_rfl) (fun _ _ _ h => h) (yieldsIf_load_mid (by rfl) 24 (.tmp 3) rfl M 0 (by rfl) _ _ (fun _ h => h) Tryd.underlying24 rfl (by rw [cells8_len, HSL.out]; kernel_rfl)) (by assumption) ?_
  (try simp only [Act.put, List.setIfInBounds_toArray, List.set_cons_zero, List.set_cons_succ])
  refine wpAnyH_ready (rs := [8]) (by kernel_rfl) (by simp) ?_
  refine AllReadyH.cons rfl (fun K hK => ?_) AllReadyH.nil
  go_simp
  go_at_call 10
  refine (hex_any S _ HSL.out).mono ?_
  rintro e w7 ⟨rfl, hb9⟩
  have HI3 := Lib.hid (HI2.out.on hb9)
  clear hb9
  refine hK.out _ _ ((fun j v hv => by rw [Nat.zero_add]; exact HI3.out.row.cell j v (by rw [List.toList_toArray]; exact hv))) (fun hHeld => ?_)
  clear hK K
  (try simp only [Act.put, List.setIfInBounds_toArray, List.set_cons_zero, List.set_cons_succ])
  refine wpAnyH_ready (rs := [10]) (by kernel_rfl) (by simp) ?_
  refine AllReadyH.cons rfl (fun K hK => ?_) AllReadyH.nil
  go_simp
  go_at_call 11
  refine (rhex_any S _ HSL.out).mono ?_
  rintro e w8 ⟨rfl, hb9⟩
  have HI4 := Lib.hid (HI3.out.on hb9)
  clear hb9
  refine hK.out _ _ ((fun j v hv => by rw [Nat.zero_add]; exact HI4.out.row.cell j v (by rw [List.toList_toArray]; exact hv))) (fun hHeld => ?_)
  clear hK K
  (try simp only [Act.put, List.setIfInBounds_toArray, List.set_cons_zero, List.set_cons_succ])
  refine wpAnyH_take (i := 11) (v := ?_) rfl (by kernel_rfl) (by kernel_rfl) (by kernel_rfl) (fun _ _ _ h => h) (Or.inl ⟨by rfl, ?hy⟩) (by assumption) ?_
  case hy =>
    intro w hSw
    go_simp
    all_goals with_reducible rfl
  (try simp only [Act.put, List.setIfInBounds_toArray, List.set_cons_zero, List.set_cons_succ])
  refine wpAnyH_ready (rs := [12]) (by kernel_rfl) (by simp) ?_
  refine AllReadyH.cons rfl (fun K hK => ?_) AllReadyH.nil
  go_simp
  skip
  refine hK.out _ _ ((fun j v hv => by rw [Nat.zero_add]; exact HI4.out.row.cell j v (by rw [List.toList_toArray]; exact hv))) (fun hHeld => ?_)
  clear hK K
  (try simp only [Act.put, List.setIfInBounds_toArray, List.set_cons_zero, List.set_cons_succ])
  refine wpAnyH_ready (rs := [13]) (by kernel_rfl) (by simp) ?_
  refine AllReadyH.cons rfl (fun K hK => ?_) AllReadyH.nil
  go_simp
  skip
  refine hK.out _ _ ((fun j v hv => by rw [Nat.zero_add]; exact HI4.out.row.cell j v (by rw [List.toList_toArray]; exact hv))) (fun hHeld => ?_)
  clear hK K
  (try simp only [Act.put, List.setIfInBounds_toArray, List.set_cons_zero, List.set_cons_succ])
  refine wpAnyH_done (by kernel_rfl) ?_ _
  go_wp2_with fail
  go_ret
  exact ⟨by rfl, HI4.out.bel⟩
end Go.Proofs.YtjifjpfdfhaflaaDoor

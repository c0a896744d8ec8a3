/-
  Contract: poset.Join.
-/
import Derived.Test.YtkgcloggnnjioaaDoorAsks
import Derived.Outline
import Derived.RegionTactic
import Derived.BigRegion
namespace Go.Proofs.YtkgcloggnnjioaaDoor
open Go.RowKit Go.Shelf

attribute [local go_sem] Oper.semAt_some

def both (ms : List Nat) (a b : Nat) : Nat := ms.getD a 0 &&& ms.getD b 0
noncomputable def joinR (ms : List Nat) (a b : Int) : Option Nat := if labelsB ms [a, b] = true then (bitsOf (both ms a.toNat b.toNat)).find? (fun c => ms.getD c 0 == both ms a.toNat b.toNat) else none
noncomputable def joinV (ms : List Nat) (a b : Int) : Value := match joinR ms a b with
  | some c => .tuple #[.int .i64 c, .bool true]
  | none => .tuple #[.int .i64 0, .bool false]

/-- the three boxes of Join -/
abbrev WJ (w : World) (p : Option Addr) (n c : Nat) : World := ((w.alloc (.cells #[.slice p n c] 24)).alloc (.cells #[.int .i64 0] 3)).alloc (.cells #[.bool false] 4)
theorem wj_below (w : World) (p : Option Addr) (n c : Nat) : Below w.heap.size w (WJ w p n c) := (((Below.refl _ w).alloc (Nat.le_refl _) _).alloc (by simp) _).alloc (by simp; omega) _
theorem wj_cells {w W1 : World} {p : Option Addr} {n c : Nat} (hb : Below (WJ w p n c).heap.size (WJ w p n c) W1) :
    W1.cell? ⟨w.heap.size, 0, none⟩ = some (.slice p n c) ∧ W1.cell? ⟨w.heap.size + 1, 0, none⟩ = some (.int .i64 0) ∧ W1.cell? ⟨w.heap.size + 1 + 1, 0, none⟩ = some (.bool false) ∧
    W1.frozen? ⟨w.heap.size + 1, 0, none⟩ = false ∧ W1.frozen? ⟨w.heap.size + 1 + 1, 0, none⟩ = false ∧ w.heap.size + 3 ≤ W1.heap.size := by
  have c0 := hb.cell (p := ⟨w.heap.size, 0, none⟩) (by simp; omega)
  have c1 := hb.cell (p := ⟨w.heap.size + 1, 0, none⟩) (by simp)
  have c2 := hb.cell (p := ⟨w.heap.size + 1 + 1, 0, none⟩) (by simp)
  have f1 := hb.frozen (p := ⟨w.heap.size + 1, 0, none⟩) (by simp)
  have f2 := hb.frozen (p := ⟨w.heap.size + 1 + 1, 0, none⟩) (by simp)
  have hz := hb.size
  simp [go_sem] at c0 c1 c2 f1 f2 hz
  exact ⟨c0, c1, c2, f1, f2, by omega⟩
theorem join_labels (ms : List Nat) (p : Option Addr) (c : Nat) (a b : Int) (w : World) (hz : ms.length ≤ maxLen) (hs : Small ms) (hp : Us w w.heap.size p ms) (hT : Tab w) (hg : 0 < w.heap.size) (r : Bool) (hl : labelsB ms [a, b] = r) :
    Calls Tryd.prog 35 #[.slice p ms.length c, .slice (some ⟨w.heap.size + 1 + 1 + 1, 0, none⟩) 2 2] ((WJ w p ms.length c).alloc (.cells #[.int .i64 a, .int .i64 b] 3)) fun e W' => e = .returned (.bool r) ∧ Below (WJ w p ms.length c).heap.size (WJ w p ms.length c) W' := by
  have hB3 := wj_below w p ms.length c
  have hL := labels2 ms p c a b (WJ w p ms.length c) hz hs ((hp.below hB3 (Nat.le_refl _)).up hB3.size) (hT.below hB3 hg) (by simp)
  rw [hl, show (WJ w p ms.length c).heap.size = w.heap.size + 1 + 1 + 1 by simp] at hL
  rw [show (WJ w p ms.length c).heap.size = w.heap.size + 1 + 1 + 1 by simp]
  exact hL

set_option maxRecDepth 100000 in
set_option maxHeartbeats 1000000 in
theorem join_no (ms : List Nat) (p : Option Addr) (c : Nat) (a b : Int) (w : World) (hz : ms.length ≤ maxLen) (hs : Small ms) (hp : Us w w.heap.size p ms) (hT : Tab w) (hg : 0 < w.heap.size) (hl : labelsB ms [a, b] = false) :
    Calls Tryd.prog 17 #[.slice p ms.length c, .int .i64 a, .int .i64 b] w fun e W' => e = .returned (joinV ms a b) ∧ Below w.heap.size w W' := by
  have HF := Lib.hid (show joinV ms a b = .tuple #[.int .i64 0, .bool false] by unfold joinV joinR; rw [hl]; rfl)
  have HL := Lib.hid (join_labels ms p c a b w hz hs hp hT hg false hl)
  have HB3 := Lib.hid (wj_below w p ms.length c)
  clear hl hs hp hT
  go_enter Tryd.func17, Tryd.ntmps17
  go_wp2_with fail
  refine HL.out.mono ?_
  rintro e W1 ⟨rfl, hb⟩
  obtain ⟨c0, c1, c2, f1, f2, hz1⟩ := wj_cells hb
  have HB := Lib.hid (HB3.out.trans (hb.mono HB3.out.size))
  clear hb
  go_wp2_with fail
  refine bodyPost_ret (v := .tuple #[.int .i64 0, .bool false]) (by simp [results, Tryd.results17, go_sem, c1, c2]) rfl ⟨by rw [HF.out], ?_⟩
  exact (HB.out.setCell (p := ⟨w.heap.size + 1, 0, none⟩) (by simp) _).setCell (p := ⟨w.heap.size + 1 + 1, 0, none⟩) (by simp; omega) _

set_option maxRecDepth 100000 in
set_option maxHeartbeats 4000000 in
theorem join_yes (ms : List Nat) (p : Option Addr) (c i j : Nat) (w : World) (hz : ms.length ≤ maxLen) (hs : Small ms) (hp : Us w w.heap.size p ms) (hT : Tab w) (hg : 0 < w.heap.size) (hl : labelsB ms [(i : Int), (j : Int)] = true) (hi : i < ms.length) (hj : j < ms.length) :
    Calls Tryd.prog 17 #[.slice p ms.length c, .int .i64 i, .int .i64 j] w fun e W' => e = .returned (joinV ms i j) ∧ Below w.heap.size w W' := by
  refine (callsIn_wide (n := 9)).1 ?_
  have ho := labelsB_ord hl
  have HR := Lib.hid (show joinR ms i j = (bitsOf (both ms i j)).find? (fun c => ms.getD c 0 == both ms i j) by unfold joinR; rw [hl, if_pos rfl]; simp)
  have HL := Lib.hid (join_labels ms p c i j w hz hs hp hT hg true hl)
  have HB3 := Lib.hid (wj_below w p ms.length c)
  obtain ⟨b, off, rfl, hbl, xi⟩ := hp.at i hi
  obtain ⟨b2, off2, e2, _, xj⟩ := hp.at j hj
  cases e2
  have HP := Lib.hid hp
  have HT := Lib.hid hT
  have HS := Lib.hid hs
  have hXi := small_getD hs i
  have hXj := small_getD hs j
  have HIN := Lib.hid (show ∀ x, x ∈ bitsOf (both ms i j) → x < ms.length from fun x hx => by
    have := (mem_bitsOf.1 hx).2
    unfold both at this
    rw [Nat.testBit_and, Bool.and_eq_true] at this
    exact (ho.2.2 i hi).2.1 x this.1)
  have hba : bits .and .u64 ((ms.getD i 0 : Nat) : Int) ((ms.getD j 0 : Nat) : Int) = ((both ms i j : Nat) : Int) := bits_and_u64_nat _ _ hXi hXj
  have hBO : both ms i j < 18446744073709551616 := Nat.lt_of_le_of_lt Nat.and_le_left hXi
  unfold mask at xi xj
  rw [← getD_at hi] at xi
  rw [← getD_at hj] at xj
  clear hl hs hp hT ho
  generalize both ms i j = M at *
  generalize ms.getD i 0 = Xi at *
  generalize ms.getD j 0 = Xj at *
  refine callsIn_of_wp_marks Tryd.func17 rfl trivial ?_ rfl
  simp only [Tryd.ntmps17, List.size_toArray, List.length_cons, List.length_nil, Nat.reduceAdd, Nat.reduceSub, Array.replicate_succ, Array.replicate_zero, List.push_toArray, List.append_toArray, List.nil_append, List.cons_append]
  gi_wp2
  refine ⟨trivial, (callsIn_wide.2 HL.out).mono ?_⟩
  rintro e W1 ⟨rfl, hb⟩
  obtain ⟨c0, c1, c2, f1, f2, hz1⟩ := wj_cells hb
  have hB1 := HB3.out.trans (hb.mono HB3.out.size)
  have HB1 := Lib.hid hB1
  have yi := (hB1.cell (p := ⟨b, off + i, none⟩) hbl).trans xi
  have yj := (hB1.cell (p := ⟨b, off + j, none⟩) hbl).trans xj
  have hmx : Tryd.prog.follows .mixedOrders = true := by kernel_rfl
  clear hb hB1 xi xj
  gi_wp2
  have i1 : (0 : Int) ≤ (i : Int) := by omega
  have i2 : (i : Int) < (ms.length : Int) := by omega
  have j1 : (0 : Int) ≤ (j : Int) := by omega
  have j2 : (j : Int) < (ms.length : Int) := by omega
  have a0 := cellOn (.cells #[.int .u64 0] 36) c0
  have ai := cellOn (.cells #[.int .u64 0] 36) yi
  have aj := cellOn (.cells #[.int .u64 0] 36) yj
  refine wpIn_wide.2 ?_
  go_region
  all_goals go_wp2_with fail
  have b0 := cellOn (.cells #[.int .u64 M] 36) c0
  have b1 := cellOn (.cells #[.int .u64 M] 36) c1
  have b2 := cellOn (.cells #[.int .u64 M] 36) c2
  have b3 : (W1.alloc (.cells #[.int .u64 M] 36)).frozen? ⟨w.heap.size + 1, 0, none⟩ = false := (frozen_kept c1 (World.grownBy_alloc W1 _ none) (fun r e => by cases e)).trans f1
  have b4 : (W1.alloc (.cells #[.int .u64 M] 36)).frozen? ⟨w.heap.size + 1 + 1, 0, none⟩ = false := (frozen_kept c2 (World.grownBy_alloc W1 _ none) (fun r e => by cases e)).trans f2
  have b5 := (cellNew W1 (.int .u64 M) 36).1
  have hq : W1.heap.size < (W1.alloc (.cells #[.int .u64 M] 36)).heap.size := by simp
  have HBB := HB1.out.alloc HB1.out.size (.cells #[.int .u64 M] 36)
  clear a0 ai aj c0 c1 c2 f1 f2 HB1 yi yj
  generalize (W1.alloc (.cells #[.int .u64 M] 36)) = WB at *
  generalize W1.heap.size = q at *
  clear W1
  have d0 : WB.drew.cell? ⟨w.heap.size, 0, none⟩ = some (.slice (some ⟨b, off, none⟩) ms.length c) := by simpa [go_sem] using b0
  have d1 : WB.drew.cell? ⟨w.heap.size + 1, 0, none⟩ = some (.int .i64 0) := by simpa [go_sem] using b1
  have d2 : WB.drew.cell? ⟨w.heap.size + 1 + 1, 0, none⟩ = some (.bool false) := by simpa [go_sem] using b2
  have d3 : WB.drew.frozen? ⟨w.heap.size + 1, 0, none⟩ = false := by simpa [go_sem] using b3
  have d4 : WB.drew.frozen? ⟨w.heap.size + 1 + 1, 0, none⟩ = false := by simpa [go_sem] using b4
  have d5 : WB.drew.cell? ⟨q, 0, none⟩ = some (.int .u64 M) := by simpa [go_sem] using b5
  have hqd : q < WB.drew.heap.size := by simpa using hq
  have HBA := Lib.hid HBB.drew
  clear b0 b1 b2 b3 b4 b5 hq HBB
  generalize WB.drew = WA at *
  clear WB
  gi_wp2
  refine ⟨trivial, (callsIn_wide.2 (bits_any _ _)).mono ?_⟩
  rintro e w' ⟨rfl, rfl⟩
  have e0 := cellOn (.cells #[.int .u64 M] 36) d0
  have e1 := cellOn (.cells #[.int .u64 M] 36) d1
  have e2 := cellOn (.cells #[.int .u64 M] 36) d2
  have eq := cellOn (.cells #[.int .u64 M] 36) d5
  have e3 : (WA.alloc (.cells #[.int .u64 M] 36)).frozen? ⟨w.heap.size + 1, 0, none⟩ = false := (frozen_kept d1 (World.grownBy_alloc WA _ none) (fun r e => by cases e)).trans d3
  have e4 : (WA.alloc (.cells #[.int .u64 M] 36)).frozen? ⟨w.heap.size + 1 + 1, 0, none⟩ = false := (frozen_kept d2 (World.grownBy_alloc WA _ none) (fun r e => by cases e)).trans d4
  have e5 := (cellNew WA (.int .u64 M) 36).1
  have HBL := Lib.hid (HBA.out.alloc HBA.out.size (.cells #[.int .u64 M] 36))
  have hsl : (WA.alloc (.cells #[.int .u64 M] 36)).heap.size = WA.heap.size + 1 := by rw [World.size_alloc]
  generalize (WA.alloc (.cells #[.int .u64 M] 36)) = WL at *
  generalize WA.heap.size = r at *
  clear d0 d1 d2 d3 d4 d5 HBA WA
  gi_wp2
  refine wpIn_rangeFunc_ownF rfl (by omega) (gf := 39) (lb := #[.pointer (some ⟨r, 0, none⟩)]) rfl trivial (enters_of Tryd.func39 (by kernel_rfl) rfl)
    (bits_stops 8 (by omega) r w.heap.size M hBO (by omega) WL (by omega) (by omega) e5 (HT.out.below HBL.out (by omega))) belowK_t (belowK_b (by omega)) (Below.refl _ _) (fun _ => rfl)
    (fun pre W => ((∀ y ∈ pre, (ms.getD y.1 0 == M) = false) ∧ W.cell? ⟨w.heap.size, 0, none⟩ = some (.slice (some ⟨b, off, none⟩) ms.length c) ∧ W.cell? ⟨w.heap.size + 1, 0, none⟩ = some (.int .i64 0) ∧ W.cell? ⟨w.heap.size + 1 + 1, 0, none⟩ = some (.bool false) ∧ W.frozen? ⟨w.heap.size + 1, 0, none⟩ = false ∧ W.frozen? ⟨w.heap.size + 1 + 1, 0, none⟩ = false ∧ W.cell? ⟨q, 0, none⟩ = some (.int .u64 M)) ∧ Below w.heap.size w W)
    (fun c' pre W => (c' = .ret ∧ (∃ (l1 : List (BitT M)) (x : BitT M), pre = l1 ++ [x] ∧ (∀ y ∈ l1, (ms.getD y.1 0 == M) = false) ∧ (ms.getD x.1 0 == M) = true ∧ W.cell? ⟨w.heap.size + 1, 0, none⟩ = some (.int .i64 x.1)) ∧ W.cell? ⟨w.heap.size + 1 + 1, 0, none⟩ = some (.bool true)) ∧ Below w.heap.size w W)
    (OwnFrom.and (Own.from (fun s A B row hs hg hr => ⟨hs.1, cell_kept hs.2.1 hg hr, cell_kept hs.2.2.1 hg hr, cell_kept hs.2.2.2.1 hg hr, (frozen_kept hs.2.2.1 hg hr).trans hs.2.2.2.2.1, (frozen_kept hs.2.2.2.1 hg hr).trans hs.2.2.2.2.2.1, cell_kept hs.2.2.2.2.2.2 hg hr⟩) _) (ownFrom_below (Nat.le_refl _) (by omega)))
    (fun c' => OwnFrom.and (Own.from (fun s A B row hs hg hr => ⟨hs.1, by obtain ⟨l1, x, g1, g2, g3, g4⟩ := hs.2.1; exact ⟨l1, x, g1, g2, g3, cell_kept g4 hg hr⟩, cell_kept hs.2.2 hg hr⟩) _) (ownFrom_below (Nat.le_refl _) (by omega)))
    ⟨⟨by simp, e0, e1, e2, e3, e4, eq⟩, HBL.out⟩ ?a1 ?assign ?body ?done ?stop
  case assign =>
    intro l x W K hK
    gi_wp2
    exact hK
  case body =>
    rintro l pre ⟨x, hx⟩ W ⟨⟨hp, k0, k1, k2, k3, k4, k5⟩, hB⟩ _
    have hxn := HIN.out x hx
    obtain ⟨b3, off3, e3', _, xc'⟩ := HP.out.at x hxn
    cases e3'
    have xc : W.cell? ⟨b, off + x, none⟩ = some (.int .u64 (ms.getD x 0 : Nat)) := by
      rw [hB.cell (p := ⟨b, off + x, none⟩) (by assumption), xc', getD_at hxn]; rfl
    have hmx : Tryd.prog.follows .mixedOrders = true := by kernel_rfl
    have HPP := Lib.hid hp
    have HBX := Lib.hid hB
    have i1 : x < ms.length := hxn
    clear hp hB xc' hxn
    cases hXM : (ms.getD x 0 == M) with
    | true =>
      have HX := Lib.hid hXM
      have hXI : (((ms.getD x 0 : Nat) : Int) == (M : Int)) = true := by rw [beq_iff_eq] at hXM ⊢; rw [hXM]
      clear hXM
      generalize ms.getD x 0 = X at xc hXI
      gi_wp2
      refine wpInRound_region_quiet hmx (by kernel_rfl) (by kernel_rfl) ?_
      repeat (first | go_big_quiet_step (fail) | quiet_step (fail))
      refine wpQuiet_nil ?_
      intro _ hw'
      obtain ⟨nq, hw''⟩ := hw'
      subst hw''
      gi_wp2
      refine ⟨((keepsN W nq).trans (KeepsOthers.setCell (W.drewN nq) ⟨w.heap.size + 1, 0, none⟩ (.int .i64 x))).trans (KeepsOthers.setCell _ ⟨w.heap.size + 1 + 1, 0, none⟩ (.bool true)), ⟨rfl, ⟨pre, ⟨x, hx⟩, rfl, HPP.out, HX.out, ?_⟩, ?_⟩, ((belowN HBX.out nq).setCell (p := ⟨w.heap.size + 1, 0, none⟩) (by simp) _).setCell (p := ⟨w.heap.size + 1 + 1, 0, none⟩) (by simp; omega) _⟩
      · simp [go_sem, k1]
      · simp [go_sem, k2]
    | false =>
      have HX := Lib.hid hXM
      have hXI : (((ms.getD x 0 : Nat) : Int) == (M : Int)) = false := by
        rw [beq_eq_false_iff_ne] at hXM ⊢; intro h; exact hXM (Int.ofNat.inj h)
      clear hXM
      generalize ms.getD x 0 = X at xc hXI
      gi_wp2
      refine wpInRound_region_quiet hmx (by kernel_rfl) (by kernel_rfl) ?_
      repeat (first | go_big_quiet_step (fail) | quiet_step (fail))
      refine wpQuiet_nil ?_
      intro _ hw'
      obtain ⟨nq, hw''⟩ := hw'
      subst hw''
      gi_wp2
      exact ⟨keepsN _ nq, belowN (Below.refl _ W) nq, ⟨fun y hy => (List.mem_append.1 hy).elim (HPP.out y) (fun e => by simp at e; subst e; exact HX.out), by simpa [go_sem] using k0, by simpa [go_sem] using k1, by simpa [go_sem] using k2, by simpa [go_sem] using k3, by simpa [go_sem] using k4, by simpa [go_sem] using k5⟩, belowN HBX.out nq⟩
  case done =>
    rintro D ys W hD hys ⟨⟨hp, k0, k1, k2, k3, k4, k5⟩, hB⟩ hK
    have hall : joinV ms i j = .tuple #[.int .i64 0, .bool false] := by
      have hn : joinR ms i j = none := by
        rw [HR.out, List.find?_eq_none]
        intro z hz
        rw [← hys] at hz
        obtain ⟨y, hy, rfl⟩ := List.mem_map.1 hz
        rw [hp y hy]; simp
      unfold joinV
      rw [hn]
    gi_wp2
    have hK1 := (KeepsOthers.setCell W ⟨w.heap.size + 1, 0, none⟩ (.int .i64 0)).same D _ hK rfl
    have hK' := (KeepsOthers.setCell (W.setCell ⟨w.heap.size + 1, 0, none⟩ (.int .i64 0)) ⟨w.heap.size + 1 + 1, 0, none⟩ (.bool false)).same D _ hK1 rfl
    refine ⟨by simp, .inl ⟨_, _, rfl, run_takeDeferred hK', ?_⟩⟩
    have q1 : ((W.setCell ⟨w.heap.size + 1, 0, none⟩ (.int .i64 0)).setCell ⟨w.heap.size + 1 + 1, 0, none⟩ (.bool false)).cell? ⟨w.heap.size + 1, 0, none⟩ = some (.int .i64 0) := by simp [go_sem, k1]
    have q2 : ((W.setCell ⟨w.heap.size + 1, 0, none⟩ (.int .i64 0)).setCell ⟨w.heap.size + 1 + 1, 0, none⟩ (.bool false)).cell? ⟨w.heap.size + 1 + 1, 0, none⟩ = some (.bool false) := by simp [go_sem, k2]
    have hc4 := cell_kept q1 (grownBy_putObj' _ D (.deferred none)) (fun r e => by cases e; exact ⟨_, hK', rfl⟩)
    have hc5 := cell_kept q2 (grownBy_putObj' _ D (.deferred none)) (fun r e => by cases e; exact ⟨_, hK', rfl⟩)
    refine ⟨.tuple #[.int .i64 0, .bool false], ?_, by rw [hall], ((hB.setCell (p := ⟨w.heap.size + 1, 0, none⟩) (by simp) _).setCell (p := ⟨w.heap.size + 1 + 1, 0, none⟩) (by simp; omega) _).trans (belowK_b (w := w) (Nat.le_refl _) _ D _ _ (by omega) hK' rfl rfl)⟩
    simp [results, Tryd.f17, go_sem, hc4, hc5]
  case stop =>
    rintro D c' pre W hD hpre ⟨⟨rfl, ⟨l1, x, rfl, g2, g3, g4⟩, hcr⟩, hB⟩ hK
    have hall : joinV ms i j = .tuple #[.int .i64 x.1, .bool true] := by
      obtain ⟨t, ht⟩ := hpre
      have hl1 : (l1.map (·.1)).find? (fun c => ms.getD c 0 == M) = none := by
        rw [List.find?_eq_none]
        intro z hz
        obtain ⟨y, hy, rfl⟩ := List.mem_map.1 hz
        rw [g2 y hy]; simp
      have hn : joinR ms i j = some x.1 := by
        have hb : bitsOf M = l1.map (·.1) ++ (x.1 :: t) := ht.symm.trans (by first | (rw [List.map_append, List.append_assoc]; rfl) | simp)
        have hf : ((l1.map (·.1)) ++ (x.1 :: t)).find? (fun c => ms.getD c 0 == M) = some x.1 := by
          rw [List.find?_append, hl1, List.find?_cons, g3]
          rfl
        exact HR.out.trans ((congrArg (fun l => l.find? (fun c => ms.getD c 0 == M)) hb).trans hf)
      unfold joinV
      rw [hn]
    gi_wp2
    refine ⟨by simp, .inl ⟨_, _, rfl, run_takeDeferred hK, ?_⟩⟩
    have hc5 := cell_kept hcr (grownBy_putObj' _ D (.deferred none)) (fun r e => by cases e; exact ⟨_, hK, rfl⟩)
    have hc4 := cell_kept g4 (grownBy_putObj' _ D (.deferred none)) (fun r e => by cases e; exact ⟨_, hK, rfl⟩)
    refine ⟨.tuple #[.int .i64 x.1, .bool true], ?_, by rw [hall], hB.trans (belowK_b (w := w) (Nat.le_refl _) W D _ _ (by omega) hK rfl rfl)⟩
    simp [results, Tryd.f17, go_sem, hc5, hc4]
end Go.Proofs.YtkgcloggnnjioaaDoor

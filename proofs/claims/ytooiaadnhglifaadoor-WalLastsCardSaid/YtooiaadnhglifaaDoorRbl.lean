/-
  Contract: the reference's block: its words.
-/
import Derived.Test.YtooiaadnhglifaaDoorRbk
set_option linter.unusedVariables false
set_option linter.unusedSimpArgs false
namespace Go.Proofs.YtooiaadnhglifaaDoor
open Go.RowKit

/-- the blocks of the call -/
structure Rw (wr w : World) (N : Nat) (s : St) (c : List Value) : Prop where
  st : Bk wr N 89 (cells32 s.l).toArray
  out : Bk wr (N + 1) 89 (List.replicate 8 (.int .u32 0)).toArray
  wd : Bk wr (N + 1 + 1) 98 c.toArray
  bel : Below N w wr
theorem Rw.drewN {wr w : World} {N : Nat} {s : St} {c : List Value} (h : Rw wr w N s c) (n : Nat) : Rw (wr.drewN n) w N s c :=
  ⟨h.st.on (below_drewN' (Below.refl _ _) n), h.out.on (below_drewN' (Below.refl _ _) n), h.wd.on (below_drewN' (Below.refl _ _) n), below_drewN' h.bel n⟩
theorem Rw.drew {wr w : World} {N : Nat} {s : St} {c : List Value} (h : Rw wr w N s c) : Rw wr.drew w N s c := h.drewN 1
theorem Rw.put {wr w : World} {N : Nat} {s : St} {l : List UInt8} {k : Nat} (h : Rw wr w N s (schC l k)) (hk : k < 64) (x : UInt32) (hx : x = if k < 16 then wrdS l (4 * k) else nxtS (schS l k)) : Rw (wr.setCell ⟨N + 1 + 1, k, none⟩ (W32 x)) w N s (schC l (k + 1)) := by
  refine ⟨h.st.other (by omega) _ _, h.out.other (by omega) _ _, ?_, h.bel.setCell (by show N ≤ N + 1 + 1; omega) _⟩
  have := h.wd.set k (W32 x)
  rw [show (schC l k).toArray.setIfInBounds k (W32 x) = ((schC l k).set k (W32 x)).toArray by simp, schC_next l k hk x hx] at this
  exact this
theorem Rw.at {wr w : World} {N : Nat} {s : St} {l : List UInt8} {k : Nat} (h : Rw wr w N s (schC l k)) (j : Nat) (hj : j < k) {y : UInt32} (e : Hid (y = (schS l k).getD j 0)) : wr.cell? ⟨N + 1 + 1, j, none⟩ = some (W32 y) :=
  h.wd.cell j _ (by rw [List.toList_toArray, e.out]; exact schC_at l k j hj)
theorem Rw.there {wr w : World} {N : Nat} {s : St} {l : List UInt8} {k : Nat} (h : Rw wr w N s (schC l k)) (hk : k < 64) : ∃ v, wr.cell? ⟨N + 1 + 1, k, none⟩ = some v :=
  ⟨_, h.wd.cell k _ (List.getElem?_eq_getElem (by rw [List.toList_toArray, schC_len _ _ (by omega)]; omega))⟩
theorem Rw.start (w : World) (s : St) (l : List UInt8) : Rw (((w.alloc (.cells (cells32 s.l).toArray 89)).alloc (.cells (List.replicate 8 (.int .u32 0)).toArray 89)).alloc (.cells (schC l 0).toArray 98)) w w.heap.size s (schC l 0) :=
  ⟨((Bk.new w _ _).on (below1 _ _)).on (below1 _ _), (Bk.new' (w.alloc _) (by simp) _ _).on (below1 _ _), Bk.new' ((w.alloc _).alloc _) (by simp) _ _, (((Below.refl _ _).alloc (Nat.le_refl _) _).alloc (by simp) _).alloc (by simp; omega) _⟩
/-- the bytes of a block lie in memory -/
def Byt (w : World) (N : Nat) (b off : Nat) (l : List UInt8) : Prop := b < N ∧ ∀ i, i < 64 → w.cell? ⟨b, off + i, none⟩ = some (B8 (l.getD i 0))
theorem Byt.at {w wr : World} {N b off : Nat} {l : List UInt8} (h : Byt w N b off l) (hb : Below N w wr) (i : Nat) (hi : i < 64) {y : UInt8} (e : Hid (y = l.getD i 0)) : wr.cell? ⟨b, off + i, none⟩ = some (B8 y) := by
  rw [hb.cell (p := ⟨b, off + i, none⟩) h.1, h.2 i hi, e.out]
theorem refword_val (c0 c1 c2 c3 : UInt8) : (c0.toNat : Int) * 16777216 + (c1.toNat : Int) * 65536 + (c2.toNat : Int) * 256 + (c3.toNat : Int) = ((wdS c0 c1 c2 c3).toNat : Int) := by
  have h0 := u8_lt c0
  have h1 := u8_lt c1
  have h2 := u8_lt c2
  have h3 := u8_lt c3
  rw [wdS, UInt32.toNat_ofNat_of_lt' (by show _ < 4294967296; omega)]; simp

/-- the same, with the state on the way -/
structure Zw (wr w : World) (N M : Nat) (s t : List UInt32) (l : List UInt8) : Prop where
  st : Bk wr N 89 (cells32 s).toArray
  out : Bk wr (N + 1) 89 (List.replicate 8 (.int .u32 0)).toArray
  wd : Bk wr (N + 1 + 1) 98 (cells32 (schS l 64)).toArray
  bel : Below N w wr
  td : Bk wr M 89 (cells32 t).toArray
  far : N + 1 + 1 < M
theorem Zw.on {wr wn w : World} {N M : Nat} {s t : List UInt32} {l : List UInt8} (h : Zw wr w N M s t l) (hb : Below wr.heap.size wr wn) : Zw wn w N M s t l :=
  ⟨h.st.on hb, h.out.on hb, h.wd.on hb, h.bel.trans (hb.mono (Nat.le_of_lt h.st.lt)), h.td.on hb, h.far⟩
theorem Zw.drewN {wr w : World} {N M : Nat} {s t : List UInt32} {l : List UInt8} (h : Zw wr w N M s t l) (n : Nat) : Zw (wr.drewN n) w N M s t l := h.on (below_drewN' (Below.refl _ _) n)
theorem Zw.drew {wr w : World} {N M : Nat} {s t : List UInt32} {l : List UInt8} (h : Zw wr w N M s t l) : Zw wr.drew w N M s t l := h.on (Below.refl _ _).drew
theorem Zw.start {wr w : World} {N : Nat} {s : St} {l : List UInt8} (h : Rw wr w N s (cells32 (schS l 64))) (c : Array Value) : Zw ((wr.alloc (.cells c 89)).setRow wr.heap.size (cells32 s.l).toArray) w N wr.heap.size s.l s.l l := by
  rw [World.setRow_alloc_new]
  exact ⟨h.st.on (below1 _ _), h.out.on (below1 _ _), h.wd.on (below1 _ _), h.bel.alloc (Nat.le_of_lt h.st.lt) _, Bk.new _ _ _, h.wd.lt⟩
theorem Zw.row {wr w : World} {N M : Nat} {s t : List UInt32} {l : List UInt8} (h : Zw wr w N M s t l) (t' : List UInt32) : Zw (wr.setRow M (cells32 t').toArray) w N M s t' l := by
  have hf := h.far
  have ho : ∀ k, k ≠ M → (wr.setRow M (cells32 t').toArray).heap[k]? = wr.heap[k]? := fun k hk => setRow_other wr M k _ hk
  exact ⟨(ho N (by omega)).trans h.st, (ho (N + 1) (by omega)).trans h.out, (ho (N + 1 + 1) (by omega)).trans h.wd, below_setRow h.bel (by omega) _, setRow_heap _ _ _ _ _ _ h.td, h.far⟩
theorem Zw.word {wr w : World} {N M : Nat} {s t : List UInt32} {l : List UInt8} (h : Zw wr w N M s t l) (k : Nat) (hk : k < 64) {y : UInt32} (e : Hid (y = (schS l 64).getD k 0)) : wr.cell? ⟨N + 1 + 1, k, none⟩ = some (W32 y) :=
  h.wd.cell k _ (by unfold cells32; rw [e.out, List.toList_toArray, List.getElem?_map, List.getD_eq_getElem?_getD, List.getElem?_eq_getElem (by rw [schS_len]; exact hk)]; rfl)
theorem const_eq (k : Nat) (hk : k < 64) {y : UInt32} (e : Hid (y = roundsS.getD k 0)) (w : World) :
    Calls Tryd.prog 67 #[.int .i64 k] w fun e w' => e = .returned (W32 y) ∧ Below w.heap.size w w' := by
  rw [e.out]; exact const_any k hk w
theorem ones8 (a b c d e f g h : Int) : (#[Value.int .u32 a, .int .u32 b, .int .u32 c, .int .u32 d, .int .u32 e, .int .u32 f, .int .u32 g, .int .u32 h] : Array Value).all (·.oneCell') = true := by
  simp [Value.oneCell']
theorem size8 : (Tryd.prog.info? 89).map (·.size) = some 8 := by kernel_rfl
theorem add_comm_st (s t : St) : s.add t = t.add s := by simp [St.add, UInt32.add_comm]
theorem Zw.put {wr w : World} {N M : Nat} {s t : St} {l : List UInt8} {k : Nat} (h : Zw wr w N M s.l (mixS t s k) l) (hk : k < 8) : Zw (wr.setCell ⟨M, k, none⟩ (W32 (t.l.getD k 0 + s.l.getD k 0))) w N M s.l (mixS t s (k + 1)) l := by
  have hf := h.far
  refine ⟨h.st.other (by omega) _ _, h.out.other (by omega) _ _, h.wd.other (by omega) _ _, h.bel.setCell (by show N ≤ M; omega) _, ?_, h.far⟩
  have := h.td.set k (W32 (t.l.getD k 0 + s.l.getD k 0))
  rw [show (cells32 (mixS t s k)).toArray.setIfInBounds k (W32 (t.l.getD k 0 + s.l.getD k 0)) = ((cells32 (mixS t s k)).set k (W32 (t.l.getD k 0 + s.l.getD k 0))).toArray by simp, mix_set t s k hk] at this
  exact this
theorem sum3_val (a b c : UInt32) : ((a.toNat : Int) + (b.toNat : Int) + (c.toNat : Int)) % 4294967296 = ((a + b + c).toNat : Int) := by
  simp only [UInt32.toNat_add]; omega
theorem sum4_val (a b c d : UInt32) : ((a.toNat : Int) + (b.toNat : Int) + (c.toNat : Int) + (d.toNat : Int)) % 4294967296 = ((a + c + b + d).toNat : Int) := by
  simp only [UInt32.toNat_add]; omega

set_option maxRecDepth 100000 in
set_option maxHeartbeats 4000000 in
theorem block_any (s : St) (l : List UInt8) (b off len cap : Nat) (w : World) (hlen : len = 64) (hB : Byt w w.heap.size b off l) :
    Calls Tryd.prog 49 #[.agg (cells32 s.l).toArray, .slice (some ⟨b, off, none⟩) len cap] w fun e w' => e = .returned (.agg (cells32 (cmpS s l).l).toArray) ∧ Below w.heap.size w w' := by
  have HB := Lib.hid hB
  clear hB
  have hl1 : 64 ≤ len := by omega
  have hl2 : len ≤ 64 := by omega
  clear hlen
  go_enter Tryd.func49, Tryd.ntmps49
  go_wp2
  go_loopw [6] (fun i wr => ∃ k : Nat, k ≤ 64 ∧ i = .int .i64 k ∧ Rw wr w w.heap.size s (schC l k)) (fun i _ => 64 - (intOf i).toNat)
  case atStart => exact ⟨0, by omega, rfl, Rw.start w s l⟩
  case round =>
    obtain ⟨k, hk, rfl, hR⟩ := hrel
    by_cases hlt : k < 64
    · by_cases hlo : k < 16
      · obtain ⟨y0, e0⟩ : ∃ y, Hid (y = l.getD (4 * k) 0) := ⟨_, Lib.hid rfl⟩
        obtain ⟨y1, e1⟩ : ∃ y, Hid (y = l.getD (4 * k + 1) 0) := ⟨_, Lib.hid rfl⟩
        obtain ⟨y2, e2⟩ : ∃ y, Hid (y = l.getD (4 * k + 2) 0) := ⟨_, Lib.hid rfl⟩
        obtain ⟨y3, e3⟩ : ∃ y, Hid (y = l.getD (4 * k + 3) 0) := ⟨_, Lib.hid rfl⟩
        have HR := Lib.hid hR
        clear hR
        go_upto_region 6 with (fail)
        refine wp_region_still_tail 35 (by kernel_rfl) (by kernel_rfl) ?_
        simp only [List.take_succ_cons, List.take_zero, List.drop_succ_cons, List.drop_zero]
        change wpStill _ _ wr.drew _ _ _
        change wpStill _ _ _ (fun a' => wpList _ _ _ _ a' wr.drew) _ _
        have HD := Lib.hid HR.out.drew
        generalize wr.drew = WD at *
        have x0 := HB.out.at HD.out.bel (4 * k) (by omega) e0
        have x1 := HB.out.at HD.out.bel (4 * k + 1) (by omega) e1
        have x2 := HB.out.at HD.out.bel (4 * k + 2) (by omega) e2
        have x3 := HB.out.at HD.out.bel (4 * k + 3) (by omega) e3
        obtain ⟨vc, zc⟩ := HD.out.there hlt
        have zf := HD.out.wd.soft k
        have l0 := u8_lt y0
        have l1 := u8_lt y1
        have l2 := u8_lt y2
        have l3 := u8_lt y3
        have w1 : (0 : Int) ≤ (k : Int) := by omega
        have w2 : (k : Int) < 64 := by omega
        have s0 : IntKind.i64.wrap (4 * (k : Int)) = 4 * (k : Int) := IntWalk.i64_in _ (by omega)
        have s1 : IntKind.i64.wrap (4 * (k : Int) + 1) = 4 * (k : Int) + 1 := IntWalk.i64_in _ (by omega)
        have s2 : IntKind.i64.wrap (4 * (k : Int) + 2) = 4 * (k : Int) + 2 := IntWalk.i64_in _ (by omega)
        have s3 : IntKind.i64.wrap (4 * (k : Int) + 3) = 4 * (k : Int) + 3 := IntWalk.i64_in _ (by omega)
        have n0 : (4 * (k : Int)).toNat = 4 * k := by omega
        have n1 : (4 * (k : Int) + 1).toNat = 4 * k + 1 := by omega
        have n2 : (4 * (k : Int) + 2).toNat = 4 * k + 2 := by omega
        have n3 : (4 * (k : Int) + 3).toNat = 4 * k + 3 := by omega
        have p0 : (0 : Int) ≤ 4 * (k : Int) := by omega
        have p1 : (0 : Int) ≤ 4 * (k : Int) + 1 := by omega
        have p2 : (0 : Int) ≤ 4 * (k : Int) + 2 := by omega
        have p3 : (0 : Int) ≤ 4 * (k : Int) + 3 := by omega
        have q0 : 4 * (k : Int) < (len : Int) := by omega
        have q1 : 4 * (k : Int) + 1 < (len : Int) := by omega
        have q2 : 4 * (k : Int) + 2 < (len : Int) := by omega
        have q3 : 4 * (k : Int) + 3 < (len : Int) := by omega
        repeat still_step
        refine wpStill_nil ?_
        clear s0 s1 s2 s3 n0 n1 n2 n3 p0 p1 p2 p3 q0 q1 q2 q3
        go_wp2_with fail
        go_roundw
        case rel => exact ⟨k + 1, by omega, by go_num, by rw [refword_val]; exact HD.out.put hlt _ (by rw [if_pos hlo, wrdS, wdS, e0.out, e1.out, e2.out, e3.out])⟩
        case measure => simp [intOf]; omega
      · obtain ⟨y16, e16⟩ : ∃ y, Hid (y = (schS l k).getD (k - 16) 0) := ⟨_, Lib.hid rfl⟩
        obtain ⟨y15, e15⟩ : ∃ y, Hid (y = (schS l k).getD (k - 15) 0) := ⟨_, Lib.hid rfl⟩
        obtain ⟨y7, e7⟩ : ∃ y, Hid (y = (schS l k).getD (k - 7) 0) := ⟨_, Lib.hid rfl⟩
        obtain ⟨y2, e2⟩ : ∃ y, Hid (y = (schS l k).getD (k - 2) 0) := ⟨_, Lib.hid rfl⟩
        have x15 := hR.at (k - 15) (by omega) e15
        have x2 := hR.at (k - 2) (by omega) e2
        have HR := Lib.hid hR
        clear hR
        have s15 : IntKind.i64.wrap ((k : Int) - 15) = (k : Int) - 15 := IntWalk.i64_in _ (by omega)
        have s2 : IntKind.i64.wrap ((k : Int) - 2) = (k : Int) - 2 := IntWalk.i64_in _ (by omega)
        have n15 : ((k : Int) - 15).toNat = k - 15 := by omega
        have n2 : ((k : Int) - 2).toNat = k - 2 := by omega
        have p15 : (0 : Int) ≤ (k : Int) - 15 := by omega
        have p2 : (0 : Int) ≤ (k : Int) - 2 := by omega
        have q15 : (k : Int) - 15 < 64 := by omega
        have q2 : (k : Int) - 2 < 64 := by omega
        have r15 : (15 : Int) ≤ (k : Int) := by omega
        have r2 : (2 : Int) ≤ (k : Int) := by omega
        go_upto_region 7 with (fail)
        go_quiet ((go_at_call 66; exact Calls.quiet_of_same (turn_int _ _ (by decide) (by decide) _)))
        go_upto_region 8 with (fail)
        obtain ⟨p, ep⟩ : ∃ y, Hid (y = s0S y15) := ⟨_, Lib.hid rfl⟩
        rw [shr3_val, xor_val, xor_val, ← s0S, ← ep.out]
        have HD := Lib.hid (HR.out.drewN nq)
        have x2 := HD.out.at (k - 2) (by omega) e2
        generalize wr.drewN nq = WA at *
        go_quiet ((go_at_call 66; exact Calls.quiet_of_same (turn_int _ _ (by decide) (by decide) _)))
        go_upto_region 9 with (fail)
        obtain ⟨q, eq⟩ : ∃ y, Hid (y = s1S y2) := ⟨_, Lib.hid rfl⟩
        rw [shr10_val, xor_val, xor_val, ← s1S, ← eq.out]
        clear s15 s2 n15 n2 p15 p2 q15 q2 r15 r2 x15
        refine wp_region_still_tail 15 (by kernel_rfl) (by kernel_rfl) ?_
        simp only [List.take_succ_cons, List.take_zero, List.drop_succ_cons, List.drop_zero]
        change wpStill _ _ (WA.drewN nq).drew _ _ _
        change wpStill _ _ _ (fun a' => wpList _ _ _ _ a' (WA.drewN nq).drew) _ _
        have HF := Lib.hid (show Rw (WA.drewN nq).drew w w.heap.size s (schC l k) from (HD.out.drewN nq).drew)
        generalize (WA.drewN nq).drew = WD at *
        have z16 := HF.out.at (k - 16) (by omega) e16
        have z7 := HF.out.at (k - 7) (by omega) e7
        obtain ⟨vc, zc⟩ := HF.out.there hlt
        have zf := HF.out.wd.soft k
        have w1 : (0 : Int) ≤ (k : Int) := by omega
        have w2 : (k : Int) < 64 := by omega
        have s16 : IntKind.i64.wrap ((k : Int) - 16) = (k : Int) - 16 := IntWalk.i64_in _ (by omega)
        have s7 : IntKind.i64.wrap ((k : Int) - 7) = (k : Int) - 7 := IntWalk.i64_in _ (by omega)
        have n16 : ((k : Int) - 16).toNat = k - 16 := by omega
        have n7 : ((k : Int) - 7).toNat = k - 7 := by omega
        have p16 : (0 : Int) ≤ (k : Int) - 16 := by omega
        have p7 : (0 : Int) ≤ (k : Int) - 7 := by omega
        have q16 : (k : Int) - 16 < 64 := by omega
        have q7 : (k : Int) - 7 < 64 := by omega
        have r16 : (16 : Int) ≤ (k : Int) := by omega
        have r7 : (7 : Int) ≤ (k : Int) := by omega
        repeat still_step
        refine wpStill_nil ?_
        clear s16 s7 n16 n7 p16 p7 q16 q7 r16 r7
        go_wp2_with fail
        go_roundw
        case rel => exact ⟨k + 1, by omega, by go_num, by rw [sum4_val]; exact HF.out.put hlt _ (by rw [if_neg hlo, nxtS, schS_len, e16.out, e7.out, ep.out, eq.out, e15.out, e2.out])⟩
        case measure => simp [intOf]; omega
    · obtain rfl : k = 64 := by omega
      obtain ⟨wo, rfl⟩ : ∃ wo : World, wo = wr := ⟨_, rfl⟩
      rw [show ((64 : Nat) : Int) = 64 from rfl]
      have HE := Lib.hid (show schC l 64 = cells32 (schS l 64) by simp [schC])
      rw [HE.out] at hR
      have HR := Lib.hid hR
      have HN8 := Lib.hid (show (cells32 s.l).toArray.size = 8 by simp [cells32_len, St.l])
      clear hR hlt hk
      go_wp2_with (first
        | (refine wpList_load_row rfl 89 _ rfl _ rfl _ _ _ _ HR.out.st Tryd.underlying89 rfl (by rw [HN8.out]; kernel_rfl) ?_)
        | (refine wpList_store_row rfl 89 _ _ rfl _ _ rfl rfl _ _ (Bk.new _ _ _) (by rw [HN8.out]; kernel_rfl) (by rw [HN8.out]; rfl) (cells32_one _) ?_))
      change Code.wp _ _ _ _ ((wo.alloc (.cells (List.replicate 8 (.int .u32 0)).toArray 89)).setRow wo.heap.size (cells32 s.l).toArray)
      have HZ0 := Lib.hid (Zw.start HR.out (List.replicate 8 (.int .u32 0)).toArray)
      clear HR
      generalize (wo.alloc (.cells (List.replicate 8 (.int .u32 0)).toArray 89)).setRow wo.heap.size (cells32 s.l).toArray = W1 at *
      generalize wo.heap.size = M at *
      go_loopw [10] (fun i wr => ∃ (k : Nat) (t : St), k ≤ 64 ∧ i = .int .i64 k ∧ Hid (t = rndsS (schS l 64) s k) ∧ Zw wr w w.heap.size M s.l t.l l) (fun i _ => 64 - (intOf i).toNat)
      case atStart => exact ⟨0, s, by omega, rfl, Lib.hid rfl, HZ0.out⟩
      case round =>
        clear HZ0
        obtain ⟨k, ⟨ta, tb, tc, td, te, tf, tg, th⟩, hk, rfl, ht, hZ⟩ := hrel
        by_cases hlt : k < 64
        · obtain ⟨kc, ekc⟩ : ∃ y, Hid (y = roundsS.getD k 0) := ⟨_, Lib.hid rfl⟩
          obtain ⟨kw, ekw⟩ : ∃ y, Hid (y = (schS l 64).getD k 0) := ⟨_, Lib.hid rfl⟩
          have HZ := Lib.hid hZ
          clear hZ
          have w3 : (0 : Int) ≤ (k : Int) := by omega
          have w4 : (k : Int) < 64 := by omega
          go_upto_region 14 with (fail)
          have x4 := HZ.out.td.cell 4 (W32 te) rfl
          go_quiet ((go_at_call 66; exact Calls.quiet_of_same (turn_int _ _ (by decide) (by decide) _)))
          have HY := Lib.hid (HZ.out.drewN nq)
          clear x4
          have x4 := HY.out.td.cell 4 (W32 te) rfl
          have x5 := HY.out.td.cell 5 (W32 tf) rfl
          have x6 := HY.out.td.cell 6 (W32 tg) rfl
          go_upto_region 15 with (fail)
          obtain ⟨b1, eb1⟩ : ∃ y, Hid (y = b1S te) := ⟨_, Lib.hid rfl⟩
          rw [xor_val, xor_val, show rotS te 6 ^^^ rotS te 11 ^^^ rotS te 25 = b1 from eb1.out.symm]
          generalize wr.drewN nq = W2 at *
          go_upto_region 16 with (fail)
          obtain ⟨ch, ech⟩ : ∃ y, Hid (y = chS te tf tg) := ⟨_, Lib.hid rfl⟩
          rw [and_val te tf, not_val te, and_val _ tg, xor_val, show (te &&& tf) ^^^ ((4294967295 ^^^ te) &&& tg) = ch from ech.out.symm]
          clear x4 x5 x6 HZ
          have hI := HY
          have HDB := Lib.hid HY.out.drew
          have HSS := Lib.hid (show ∀ X, Zw X w w.heap.size M s.l (St.l ⟨ta, tb, tc, td, te, tf, tg, th⟩) l → X.cell? ⟨M, 7, none⟩ = some (W32 th) ∧ X.cell? ⟨w.heap.size + 1 + 1, k, none⟩ = some (W32 kw) ∧ Hid (Zw X w w.heap.size M s.l (St.l ⟨ta, tb, tc, td, te, tf, tg, th⟩) l) from fun X h => ⟨h.td.cell 7 (W32 th) rfl, h.word k hlt ekw, Lib.hid h⟩)
          clear HY
          go_region_held3 (fun X => X.cell? ⟨M, 7, none⟩ = some (W32 th) ∧ X.cell? ⟨w.heap.size + 1 + 1, k, none⟩ = some (W32 kw) ∧ Hid (Zw X w w.heap.size M s.l (St.l ⟨ta, tb, tc, td, te, tf, tg, th⟩) l))
            (first
              | (exact HSS.out _ (Hid.out hI))
              | (exact HSS.out _ HDB.out)
              | go_keep)
            ((go_at_call 67; refine (const_eq k hlt ekc _).mono ?_; rintro e wn ⟨rfl, hb9⟩; have hI' := Lib.hid (by first | exact (Hid.out hI).on hb9 | exact HDB.out.on hb9); have hI := hI'; clear hI' hb9))
          obtain ⟨t1, et1⟩ : ∃ y, Hid (y = th + b1 + ch + kc + kw) := ⟨_, Lib.hid rfl⟩
          rw [add_wrap th b1, add_wrap _ ch, add_wrap _ kc, add_wrap _ kw, ← et1.out]
          clear HDB HSS
          rename_i hHeld
          clear hHeld
          have x0 := hI.out.td.cell 0 (W32 ta) rfl
          go_upto_region 17 with (fail)
          go_quiet ((go_at_call 66; exact Calls.quiet_of_same (turn_int _ _ (by decide) (by decide) _)))
          have HX := Lib.hid (hI.out.drewN nq)
          clear x0 hI
          generalize wn.drewN nq = W3 at *
          have x0 := HX.out.td.cell 0 (W32 ta) rfl
          have x1 := HX.out.td.cell 1 (W32 tb) rfl
          have x2 := HX.out.td.cell 2 (W32 tc) rfl
          have x3 := HX.out.td.cell 3 (W32 td) rfl
          have x4 := HX.out.td.cell 4 (W32 te) rfl
          have x5 := HX.out.td.cell 5 (W32 tf) rfl
          have x6 := HX.out.td.cell 6 (W32 tg) rfl
          go_upto_region 18 with (fail)
          obtain ⟨b2, eb2⟩ : ∃ y, Hid (y = b0S ta) := ⟨_, Lib.hid rfl⟩
          rw [xor_val, xor_val, show rotS ta 2 ^^^ rotS ta 13 ^^^ rotS ta 22 = b2 from eb2.out.symm]
          go_upto_region 19 with (fail)
          obtain ⟨mj, emj⟩ : ∃ y, Hid (y = majS ta tb tc) := ⟨_, Lib.hid rfl⟩
          rw [and_val ta tb, and_val ta tc, and_val tb tc, xor_val, xor_val, show (ta &&& tb) ^^^ (ta &&& tc) ^^^ (tb &&& tc) = mj from emj.out.symm]
          go_upto_region 13 with (refine wpList_store_row rfl 89 _ _ rfl _ _ rfl rfl _ _ HX.out.td size8 (by rfl) (ones8 _ _ _ _ _ _ _ _) ?_)
          rw [sum3_val, add_val]
          have HW := Lib.hid (HX.out.row (St.l ⟨t1 + b2 + mj, ta, tb, tc, td + t1, te, tf, tg⟩))
          clear x0 x1 x2 x3 x4 x5 x6 HX
          change Code.wp _ _ _ _ (W3.setRow M (cells32 (St.l ⟨t1 + b2 + mj, ta, tb, tc, td + t1, te, tf, tg⟩)).toArray)
          generalize W3.setRow M (cells32 (St.l ⟨t1 + b2 + mj, ta, tb, tc, td + t1, te, tf, tg⟩)).toArray = W4 at *
          go_wp2
          go_roundw
          case rel => exact ⟨k + 1, ⟨t1 + b2 + mj, ta, tb, tc, td + t1, te, tf, tg⟩, by omega, by go_num, Lib.hid (by
            rw [rndsS, ← ht.out, ← ekc.out, ← ekw.out, rndS, t1S, t2S, ← ech.out, ← emj.out, ← eb1.out, ← eb2.out, ← et1.out, UInt32.add_assoc t1]), HW.out⟩
          case measure => simp [intOf]; omega
        · obtain rfl : k = 64 := by omega
          obtain ⟨wp, rfl⟩ : ∃ wp : World, wp = wr := ⟨_, rfl⟩
          rw [show ((64 : Nat) : Int) = 64 from rfl]
          have HT := Lib.hid (show Zw wp w w.heap.size M s.l (mixS ⟨ta, tb, tc, td, te, tf, tg, th⟩ s 0) l from hZ)
          have HL := Lib.hid (show mixS ⟨ta, tb, tc, td, te, tf, tg, th⟩ s 8 = (cmpS s l).l by rw [cmpS, ← ht.out, add_comm_st]; simp [mixS, St.l])
          clear hZ hlt hk ht
          go_wp2
          generalize (⟨ta, tb, tc, td, te, tf, tg, th⟩ : St) = t at *
          go_loopw [16] (fun i wr => ∃ k : Nat, k ≤ 8 ∧ i = .int .i64 k ∧ Zw wr w w.heap.size M s.l (mixS t s k) l) (fun i _ => 8 - (intOf i).toNat)
          case atStart => exact ⟨0, by omega, rfl, HT.out⟩
          case round =>
            clear HT
            obtain ⟨k, hk, rfl, hZ⟩ := hrel
            have w3 : (0 : Int) ≤ (k : Int) := by omega
            by_cases hlt : k < 8
            · obtain ⟨x, ex⟩ : ∃ y, Hid (y = t.l.getD k 0) := ⟨_, Lib.hid rfl⟩
              obtain ⟨y, ey⟩ : ∃ y, Hid (y = s.l.getD k 0) := ⟨_, Lib.hid rfl⟩
              have HZ := Lib.hid hZ
              clear hZ
              have w4 : (k : Int) < 8 := by omega
              go_upto_region 23 with (fail)
              refine wp_region_still_tail 8 (by kernel_rfl) (by kernel_rfl) ?_
              simp only [List.take_succ_cons, List.take_zero, List.drop_succ_cons, List.drop_zero]
              change wpStill _ _ wr.drew _ _ _
              change wpStill _ _ _ (fun a' => wpList _ _ _ _ a' wr.drew) _ _
              have HD := Lib.hid HZ.out.drew
              clear HZ
              generalize wr.drew = WD at *
              have c0 := HD.out.td.cell k _ (by rw [List.toList_toArray]; exact mix_at t s k hlt)
              rw [← ex.out] at c0
              have c1 := HD.out.st.cell k (W32 y) (by rw [ey.out, ← l_at s k hlt]; simp)
              have zf := HD.out.td.soft k
              have HP := HD.out.put hlt
              rw [← ex.out, ← ey.out] at HP
              have HP := Lib.hid HP
              repeat still_step
              refine wpStill_nil ?_
              go_wp2_with fail
              go_roundw
              case rel => exact ⟨k + 1, by omega, by go_num, by rw [add_val]; exact HP.out⟩
              case measure => simp [intOf]; omega
            · obtain rfl : k = 8 := by omega
              obtain ⟨wq, rfl⟩ : ∃ wq : World, wq = wr := ⟨_, rfl⟩
              rw [HL.out] at hZ
              have HW := Lib.hid hZ.td
              have HO := Lib.hid hZ.out
              have HBB := Lib.hid hZ.bel
              have HNC := Lib.hid (show (cells32 (cmpS s l).l).toArray.size = 8 by simp [cells32_len, St.l])
              clear hZ hlt hk
              go_wp2_with (first
                | (refine wpList_load_row rfl 89 _ rfl _ rfl _ _ _ _ HW.out Tryd.underlying89 rfl (by rw [HNC.out]; kernel_rfl) ?_)
                | (refine wpList_store_row rfl 89 _ _ rfl _ _ rfl rfl _ _ HO.out (by rw [HNC.out]; kernel_rfl) (by rw [HNC.out]; rfl) (cells32_one _) ?_))
              exact bodyPost_ret (v := .agg (cells32 (cmpS s l).l).toArray) (results_cell_row rfl _ _ _ _ _ _ _ rfl (setRow_heap _ _ _ _ _ _ HO.out) Tryd.underlying89 rfl (by rw [HNC.out]; kernel_rfl)) rfl ⟨rfl, below_setRow HBB.out (by omega) _⟩
end Go.Proofs.YtooiaadnhglifaaDoor

/-
  Contract: sha.taken.
-/
import Derived.Test.YtooiaadnhglifaaDoorSch
set_option linter.unusedVariables false
set_option linter.unusedSimpArgs false
namespace Go.Proofs.YtooiaadnhglifaaDoor
open Go.RowKit

/-- the listed variables -/
structure Env (w : World) : Prop where
  fst : ∀ i v, (cells32 firstS.l)[i]? = some v → w.cell? ⟨0, i, none⟩ = some v
  cst : ∀ i v, (cells32 roundsS)[i]? = some v → w.cell? ⟨1, i, none⟩ = some v
theorem Env.two {w : World} (h : Env w) : 0 < w.heap.size ∧ 1 < w.heap.size := ⟨lt_of_cell (h.fst 0 _ rfl), lt_of_cell (h.cst 0 _ rfl)⟩
theorem Env.on {w w' : World} {B : Nat} (h : Env w) (hb : Below B w w') (hB : 0 + 1 + 1 ≤ B) : Env w' :=
  ⟨fun i v hv => by rw [hb.cell (p := ⟨0, i, none⟩) (show 0 < B by omega)]; exact h.fst i v hv, fun i v hv => by rw [hb.cell (p := ⟨1, i, none⟩) (show 1 < B by omega)]; exact h.cst i v hv⟩
theorem Env.only {w w' : World} {pb : Nat} (h : Env w) (hb : Only pb w w') (hB : 0 + 1 + 1 ≤ pb) : Env w' :=
  ⟨fun i v hv => by rw [World.cell?_of_block (w := w) (hb.block _ h.two.1 (show 0 ≠ pb by omega))]; exact h.fst i v hv, fun i v hv => by rw [World.cell?_of_block (w := w) (hb.block _ h.two.2 (show 1 ≠ pb by omega))]; exact h.cst i v hv⟩
theorem Env.size {w : World} (h : Env w) : 0 + 1 + 1 ≤ w.heap.size := by have := h.two; omega
theorem Env.at {w : World} (h : Env w) (k : Nat) (hk : k < 64) : w.cell? ⟨1, k, none⟩ = some (W32 (roundsS.getD k 0)) :=
  h.cst k _ (by unfold cells32; rw [List.getElem?_map, List.getD_eq_getElem?_getD, List.getElem?_eq_getElem (by rw [roundsS_len]; exact hk)]; rfl)

/-- a value of an array, by its place -/
theorem run_index_arr {P : Program} (t e : TypeId) (n : Nat) (hu : P.underlying t = some (.array n e)) (d : TypeDesc) (he : P.underlying e = some d) (hd : (match d with | .struct _ | .array _ _ => true | _ => false) = false) (hs : (P.info? e).map (·.size) = some 1)
    (cs : Array Value) (k : IntKind) (i : Int) (j : Nat) (hi : i = (j : Int)) (hj : j < n) (v : Value) (hv : cs[j]? = some v) (w : World) :
    (Instr.index t (.agg cs) (.int k i)).run P w = .ok v w := by
  subst hi
  have hagg : (isAgg e).run P w = .ok false w := by
    unfold isAgg
    rw [Sem.run_bind, run_underlying he w]
    cases d <;> simp_all
  cases hq : P.info? e with
  | none => simp [hq] at hs
  | some i =>
    have hz : i.size = 1 := by simpa [hq] using hs
    simp [Instr.index, asIntOf, run_underlying hu, hj, sizeOf, typeInfo, hq, hz, part, hagg, hv, Result.andThen]

theorem cells32_one (l : List UInt32) : (cells32 l).toArray.all (·.oneCell') = true := all_oneCell_toArray (by intro v hv; obtain ⟨x, _, rfl⟩ := List.mem_map.1 hv; rfl)
theorem cells8_one (l : List UInt8) : (cells8 l).toArray.all (·.oneCell') = true := all_oneCell_toArray (by intro v hv; obtain ⟨x, _, rfl⟩ := List.mem_map.1 hv; rfl)

/-- the blocks of the call -/
structure Tw (wr w : World) (N M : Nat) (l : List UInt32) (r : List UInt8) : Prop where
  st : Bk wr N 89 (cells32 l).toArray
  out : Bk wr (N + 1 + 1) 89 (List.replicate 8 (.int .u32 0)).toArray
  wd : Bk wr M 98 (cells32 (schS r 64)).toArray
  bel : Below N w wr
  far : N < M
theorem Tw.drewN {wr w : World} {N M : Nat} {l : List UInt32} {r : List UInt8} (h : Tw wr w N M l r) (n : Nat) : Tw (wr.drewN n) w N M l r :=
  ⟨h.st.on (below_drewN' (Below.refl _ _) n), h.out.on (below_drewN' (Below.refl _ _) n), h.wd.on (below_drewN' (Below.refl _ _) n), below_drewN' h.bel n, h.far⟩
theorem Tw.start {w w1 : World} (s : St) (r : List UInt8) (hb : Below (((w.alloc (.cells (cells32 s.l).toArray 89)).alloc (.cells (cells8 r).toArray 107)).alloc (.cells (List.replicate 8 (.int .u32 0)).toArray 89)).heap.size (((w.alloc (.cells (cells32 s.l).toArray 89)).alloc (.cells (cells8 r).toArray 107)).alloc (.cells (List.replicate 8 (.int .u32 0)).toArray 89)) w1) (c : Array Value) :
    Tw ((w1.alloc (.cells c 98)).setRow w1.heap.size (cells32 (schS r 64)).toArray) w w.heap.size w1.heap.size s.l r := by
  have hs := hb.size
  simp only [World.size_alloc] at hs
  rw [World.setRow_alloc_new]
  have hb' : Below w.heap.size w w1 := ((((Below.refl _ _).alloc (Nat.le_refl _) _).alloc (by simp) _).alloc (by simp; omega) _).trans (hb.mono (by simp; omega))
  exact ⟨((((Bk.new w _ _).on (below1 _ _)).on (below1 _ _)).below hb (by simp; omega)).on (below1 _ _), ((Bk.new' ((w.alloc _).alloc _) (by simp) _ _).below hb (by simp)).on (below1 _ _), Bk.new w1 _ _, hb'.alloc (by omega) _, by omega⟩
theorem Tw.word {wr w : World} {N M : Nat} {l : List UInt32} {r : List UInt8} (h : Tw wr w N M l r) (k : Nat) (hk : k < 64) : wr.cell? ⟨M, k, none⟩ = some (W32 ((schS r 64).getD k 0)) :=
  h.wd.cell k _ (by unfold cells32; rw [List.toList_toArray, List.getElem?_map, List.getD_eq_getElem?_getD, List.getElem?_eq_getElem (by rw [schS_len]; exact hk)]; rfl)

/-- the state while the words are added to it -/
def mixS (s t : St) (k : Nat) : List UInt32 := ((t.add s).l.take k) ++ s.l.drop k
theorem lt8 {k : Nat} (h : k < 8) : k = 0 ∨ k = 1 ∨ k = 2 ∨ k = 3 ∨ k = 4 ∨ k = 5 ∨ k = 6 ∨ k = 7 := by omega
theorem mix_at (s t : St) (k : Nat) (h : k < 8) : (cells32 (mixS s t k))[k]? = some (W32 (s.l.getD k 0)) := by
  rcases lt8 h with rfl | rfl | rfl | rfl | rfl | rfl | rfl | rfl <;> rfl
theorem mix_set (s t : St) (k : Nat) (h : k < 8) : (cells32 (mixS s t k)).set k (W32 (s.l.getD k 0 + t.l.getD k 0)) = cells32 (mixS s t (k + 1)) := by
  rcases lt8 h with rfl | rfl | rfl | rfl | rfl | rfl | rfl | rfl <;> simp [mixS, St.l, St.add, cells32, UInt32.add_comm]
theorem l_at (t : St) (k : Nat) (h : k < 8) : (cells32 t.l).toArray[k]? = some (W32 (t.l.getD k 0)) := by
  rcases lt8 h with rfl | rfl | rfl | rfl | rfl | rfl | rfl | rfl <;> rfl
theorem Tw.put {wr w : World} {N M : Nat} {s t : St} {r : List UInt8} {k : Nat} (h : Tw wr w N M (mixS s t k) r) (hk : k < 8) : Tw (wr.setCell ⟨N, k, none⟩ (W32 (s.l.getD k 0 + t.l.getD k 0))) w N M (mixS s t (k + 1)) r := by
  refine ⟨?_, h.out.other (by omega) _ _, h.wd.other (by have := h.far; omega) _ _, h.bel.setCell (Nat.le_refl _) _, h.far⟩
  have := h.st.set k (W32 (s.l.getD k 0 + t.l.getD k 0))
  rw [show (cells32 (mixS s t k)).toArray.setIfInBounds k (W32 (s.l.getD k 0 + t.l.getD k 0)) = ((cells32 (mixS s t k)).set k (W32 (s.l.getD k 0 + t.l.getD k 0))).toArray by simp, mix_set s t k hk] at this
  exact this

set_option maxRecDepth 100000 in
set_option maxHeartbeats 1000000 in
theorem taken_any (s : St) (r : List UInt8) (w : World) (hr : r.length = 64) (he : Env w) :
    Calls Tryd.prog 76 #[.agg (cells32 s.l).toArray, .agg (cells8 r).toArray] w fun e w' => e = .returned (.agg (cells32 (cmpS s r).l).toArray) ∧ Below w.heap.size w w' := by
  have HR := Lib.hid hr
  have HE := Lib.hid he
  have HS := Lib.hid (fun w => sched_any r w hr)
  have HN8 := Lib.hid (show (cells8 r).toArray.size = 64 by simp [cells8_len, hr])
  have HN := Lib.hid (show (cells32 (schS r 64)).toArray.size = 64 by simp [cells32_len, schS_len])
  have HB0 := Lib.hid (fun w => Bk.new' (N := w.heap.size) w rfl 107 (cells8 r).toArray)
  clear hr he
  go_enter Tryd.func76, Tryd.ntmps76
  go_wp2_with (first
    | (refine wpList_load_row rfl 107 _ rfl _ rfl _ _ _ _ (Bk.on (Bk.new' (N := w.heap.size + 1) (w.alloc _) (by simp) 107 (cells8 r).toArray) (below1 _ _)) Tryd.underlying107 rfl (by rw [HN8.out]; kernel_rfl) ?_)
    | (go_at_call 79; refine (HS.out _).mono ?_; rintro e w1 ⟨rfl, hb1⟩)
    | (refine wpList_store_row rfl 98 _ _ rfl _ _ rfl rfl _ _ (Bk.new _ _ _) (by rw [HN.out]; kernel_rfl) (by rw [HN.out]; rfl) (cells32_one _) ?_))
  change Code.wp _ _ _ _ ((w1.alloc (.cells (schC r 0).toArray 98)).setRow w1.heap.size (cells32 (schS r 64)).toArray)
  have HT := Lib.hid (Tw.start s r hb1 (schC r 0).toArray)
  generalize (w1.alloc (.cells (schC r 0).toArray 98)).setRow w1.heap.size (cells32 (schS r 64)).toArray = W1 at *
  generalize w1.heap.size = M at *
  clear hb1 HS HB0 HN8
  have c0 := HT.out.st.cell 0 _ rfl
  have c1 := HT.out.st.cell 1 _ rfl
  have c2 := HT.out.st.cell 2 _ rfl
  have c3 := HT.out.st.cell 3 _ rfl
  have c4 := HT.out.st.cell 4 _ rfl
  have c5 := HT.out.st.cell 5 _ rfl
  have c6 := HT.out.st.cell 6 _ rfl
  have c7 := HT.out.st.cell 7 _ rfl
  go_quiet (fail)
  go_wp2
  have HT1 := Lib.hid (HT.out.drewN nq)
  have HEV := Lib.hid (HE.out.on HT1.out.bel HE.out.size)
  generalize W1.drewN nq = W2 at *
  clear c0 c1 c2 c3 c4 c5 c6 c7 HT
  go_loopw [6, 7, 8, 9, 10, 11, 12, 13, 39] (fun a b c d e f g h i wr => ∃ (k : Nat) (t : St), k ≤ 64 ∧ i = .int .i64 k ∧ Hid (t = rndsS (schS r 64) s k) ∧ a = W32 t.a ∧ b = W32 t.b ∧ c = W32 t.c ∧ d = W32 t.d ∧ e = W32 t.e ∧ f = W32 t.f ∧ g = W32 t.g ∧ h = W32 t.h ∧ Tw wr w w.heap.size M s.l r) (fun _ _ _ _ _ _ _ _ i _ => 64 - (intOf i).toNat)
  case atStart => exact ⟨0, s, by omega, rfl, Lib.hid rfl, rfl, rfl, rfl, rfl, rfl, rfl, rfl, rfl, HT1.out⟩
  case round =>
    clear HT1 HEV
    obtain ⟨k, ⟨ta, tb, tc, td, te, tf, tg, th⟩, hk, rfl, ht, rfl, rfl, rfl, rfl, rfl, rfl, rfl, rfl, hT⟩ := hrel
    by_cases hlt : k < 64
    · have hEV := HE.out.on hT.bel HE.out.size
      obtain ⟨kc, ekc⟩ : ∃ y, Hid (y = roundsS.getD k 0) := ⟨_, Lib.hid rfl⟩
      obtain ⟨kw, ekw⟩ : ∃ y, Hid (y = (schS r 64).getD k 0) := ⟨_, Lib.hid rfl⟩
      have x0 := hEV.at k hlt
      have x1 := hT.word k hlt
      rw [← ekc.out] at x0
      rw [← ekw.out] at x1
      have w3 : (0 : Int) ≤ (k : Int) := by omega
      have w4 : (k : Int) < 64 := by omega
      have HT := Lib.hid hT
      clear hT hEV
      dsimp only
      go_upto_region 7 with (fail)
      obtain ⟨ch, ech⟩ : ∃ y, Hid (y = chS te tf tg) := ⟨_, Lib.hid rfl⟩
      obtain ⟨mj, emj⟩ : ∃ y, Hid (y = majS ta tb tc) := ⟨_, Lib.hid rfl⟩
      rw [not_if, and_val te tf, not_val te, and_val _ tg, xor_val, and_val ta tb, and_val ta tc, and_val tb tc, xor_val, xor_val]
      rw [show (te &&& tf) ^^^ ((4294967295 ^^^ te) &&& tg) = ch from ech.out.symm, show (ta &&& tb) ^^^ (ta &&& tc) ^^^ (tb &&& tc) = mj from emj.out.symm]
      go_quiet ((go_at_call 80; exact Calls.quiet_of_same (turned_int _ _ (by decide) (by decide) _)))
      go_upto_region 8 with (fail)
      obtain ⟨b1, eb1⟩ : ∃ y, Hid (y = b1S te) := ⟨_, Lib.hid rfl⟩
      obtain ⟨t1, et1⟩ : ∃ y, Hid (y = th + b1 + ch + kc + kw) := ⟨_, Lib.hid rfl⟩
      rw [xor_val, xor_val, show rotS te 6 ^^^ rotS te 11 ^^^ rotS te 25 = b1 from eb1.out.symm, sum5_val, ← et1.out]
      go_upto_region 9 with (go_at_call 80; refine (turned_int _ _ (by decide) (by decide) _).mono ?_; rintro e w' ⟨rfl, hw⟩; subst hw)
      obtain ⟨b2, eb2⟩ : ∃ y, Hid (y = b0S ta) := ⟨_, Lib.hid rfl⟩
      obtain ⟨t2, et2⟩ : ∃ y, Hid (y = b2 + mj) := ⟨_, Lib.hid rfl⟩
      rw [xor_val, xor_val, show rotS ta 2 ^^^ rotS ta 13 ^^^ rotS ta 22 = b2 from eb2.out.symm, add_val, ← et2.out]
      clear x0 x1
      go_wp2
      go_roundw
      case rel => exact ⟨k + 1, ⟨t1 + t2, ta, tb, tc, td + t1, te, tf, tg⟩, by omega, by go_num, Lib.hid (by
          rw [rndsS, ← ht.out, ← ekc.out, ← ekw.out, rndS, t1S, t2S, ← ech.out, ← emj.out, ← eb1.out, ← eb2.out, ← et1.out, ← et2.out]), congrArg (Value.int .u32) (add_val t1 t2), rfl, rfl, rfl, congrArg (Value.int .u32) (add_val td t1), rfl, rfl, rfl, HT.out.drewN _⟩
      case measure => simp [intOf]; omega
    · obtain rfl : k = 64 := by omega
      obtain ⟨wo, rfl⟩ : ∃ wo : World, wo = wr := ⟨_, rfl⟩
      rw [show ((64 : Nat) : Int) = 64 from rfl]
      dsimp only
      clear hlt hk
      go_wp2
      have HTT := Lib.hid (show Tw wo w w.heap.size M (mixS s ⟨ta, tb, tc, td, te, tf, tg, th⟩ 0) r from hT)
      clear hT
      go_loopw [113] (fun i wr => ∃ k : Nat, k ≤ 8 ∧ i = .int .i64 k ∧ Tw wr w w.heap.size M (mixS s ⟨ta, tb, tc, td, te, tf, tg, th⟩ k) r) (fun i _ => 8 - (intOf i).toNat)
      case atStart => exact ⟨0, by omega, rfl, HTT.out⟩
      case round =>
        clear HTT
        obtain ⟨k, hk, rfl, hT⟩ := hrel
        by_cases hlt : k < 8
        · obtain ⟨x, ex⟩ : ∃ y, Hid (y = s.l.getD k 0) := ⟨_, Lib.hid rfl⟩
          obtain ⟨y, ey⟩ : ∃ y, Hid (y = (St.l ⟨ta, tb, tc, td, te, tf, tg, th⟩).getD k 0) := ⟨_, Lib.hid rfl⟩
          have hix : ∀ wx, (Instr.index 89 (.agg #[W32 ta, W32 tb, W32 tc, W32 td, W32 te, W32 tf, W32 tg, W32 th]) (.int .i64 k)).run Tryd.prog wx = .ok (W32 y) wx := fun wx =>
            run_index_arr 89 88 8 Tryd.underlying89 _ Tryd.underlying88 rfl (by kernel_rfl) _ _ _ k rfl hlt _ (by rw [ey.out]; exact l_at ⟨ta, tb, tc, td, te, tf, tg, th⟩ k hlt) wx
          have c0 := hT.st.cell k _ (mix_at s _ k hlt)
          rw [← ex.out] at c0
          have f0 := hT.st.soft k
          have HP := Lib.hid (hT.put hlt)
          rw [← ex.out, ← ey.out] at HP
          have w3 : (0 : Int) ≤ (k : Int) := by omega
          have w4 : (k : Int) < 8 := by omega
          clear hT
          go_wp2
          go_roundw
          case rel => exact ⟨k + 1, by omega, by go_num, by rw [add_val]; exact HP.out⟩
          case measure => simp [intOf]; omega
        · obtain rfl : k = 8 := by omega
          obtain ⟨wp, rfl⟩ : ∃ wp : World, wp = wr := ⟨_, rfl⟩
          have HL := Lib.hid (show mixS s ⟨ta, tb, tc, td, te, tf, tg, th⟩ 8 = (cmpS s r).l by rw [cmpS, ← ht.out]; simp [mixS, St.l])
          have hW := hT.st
          rw [HL.out] at hW
          have HW := Lib.hid hW
          have HO := Lib.hid hT.out
          have HB := Lib.hid hT.bel
          have HN8 := Lib.hid (show (cells32 (cmpS s r).l).toArray.size = 8 by simp [cells32_len, St.l])
          clear hT hW hlt hk
          go_wp2_with (first
            | (refine wpList_load_row rfl 89 _ rfl _ rfl _ _ _ _ HW.out Tryd.underlying89 rfl (by rw [HN8.out]; kernel_rfl) ?_)
            | (refine wpList_store_row rfl 89 _ _ rfl _ _ rfl rfl _ _ HO.out (by rw [HN8.out]; kernel_rfl) (by rw [HN8.out]; rfl) (cells32_one _) ?_))
          exact bodyPost_ret (v := .agg (cells32 (cmpS s r).l).toArray) (results_cell_row rfl _ _ _ _ _ _ _ rfl (setRow_heap _ _ _ _ _ _ HO.out) Tryd.underlying89 rfl (by rw [HN8.out]; kernel_rfl)) rfl ⟨rfl, below_setRow HB.out (by omega) _⟩
end Go.Proofs.YtooiaadnhglifaaDoor

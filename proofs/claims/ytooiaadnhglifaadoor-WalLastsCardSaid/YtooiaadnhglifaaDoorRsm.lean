/-
  Contract: the reference's Sum.
-/
import Derived.Test.YtooiaadnhglifaaDoorApp
import Derived.Test.YtooiaadnhglifaaDoorRbl
set_option linter.unusedVariables false
set_option linter.unusedSimpArgs false
namespace Go.Proofs.YtooiaadnhglifaaDoor
open Go.RowKit

/-- the blocks of the call: the answer, the state -/
structure Ew (X w : World) (t : St) : Prop where
  out : Bk X w.heap.size 57 (cells8 (List.replicate 32 0)).toArray
  st : Bk X (w.heap.size + 1) 89 (cells32 t.l).toArray
  bel : Below w.heap.size w X
theorem Ew.on {X X' w : World} {t : St} (h : Ew X w t) (hb : Below (w.heap.size + 2) X X') : Ew X' w t :=
  ⟨h.out.below hb (by omega), h.st.below hb (by omega), h.bel.trans (hb.mono (by omega))⟩
theorem Ew.big {X w : World} {t : St} (h : Ew X w t) : w.heap.size + 2 ≤ X.heap.size := h.st.lt
theorem Ew.start (w : World) (c : Array Value) : Ew (((w.alloc (.cells (cells8 (List.replicate 32 0)).toArray 57)).alloc (.cells c 89)).setRow (w.heap.size + 1) (cells32 firstS.l).toArray) w firstS := by
  have e := World.setRow_alloc_new (w.alloc (.cells (cells8 (List.replicate 32 0)).toArray 57)) c (cells32 firstS.l).toArray 89
  rw [World.size_alloc] at e
  rw [e]
  exact ⟨(Bk.new w _ _).on (below1 _ _), Bk.new' (w.alloc _) (by simp) _ _, ((Below.refl _ _).alloc (Nat.le_refl _) _).alloc (by simp) _⟩

theorem Ew.row {X w : World} {t : St} (h : Ew X w t) (t' : St) : Ew (X.setRow (w.heap.size + 1) (cells32 t'.l).toArray) w t' :=
  ⟨(setRow_other X (w.heap.size + 1) w.heap.size _ (by omega)).trans h.out, setRow_heap _ _ _ _ _ _ h.st, below_setRow h.bel (by omega) _⟩
theorem Acc.row {X : World} {base g : Nat} {v : Value} {xs : List UInt8} (h : Acc X base v xs) (hg : g < base) (c : Array Value) (hbase : xs ≠ [] := by assumption) : Acc (X.setRow g c) base v xs := by
  refine ⟨h.1, ?_⟩
  rcases h.2 with ⟨h0, _⟩ | ⟨h1, h2⟩
  · exact absurd h0 hbase
  · refine .inr ⟨h1, ?_⟩
    rcases h2 with h2 | ⟨g', cap, cur, a1, a2, a3, a4⟩
    · exact .inl h2
    · exact .inr ⟨g', cap, cur, a1, a2, (setRow_other X g g' c (by omega)).trans a3, a4⟩
/-- the answer while its bytes are laid down -/
def outP (t : St) (k : Nat) : List UInt8 := (outS t).take k ++ List.replicate (32 - k) 0
theorem outS_len (t : St) : (outS t).length = 32 := rfl
theorem outP_len (t : St) (k : Nat) (h : k ≤ 32) : (outP t k).length = 32 := by simp [outP, outS_len]; omega
theorem outP_done (t : St) : outP t 32 = outS t := by rw [outP, List.take_of_length_le (by rw [outS_len]; exact Nat.le_refl _)]; simp
theorem lt4 {k : Nat} (h : k < 4) : k = 0 ∨ k = 1 ∨ k = 2 ∨ k = 3 := by omega
theorem out_at (t : St) (k : Nat) (h : k < 32) : (outS t)[k]? = some (UInt8.ofNat ((t.l.getD (k / 4) 0).toNat / 2 ^ (24 - 8 * (k % 4)))) := by
  obtain ⟨a, b, ha, hb, rfl⟩ : ∃ a b, a < 8 ∧ b < 4 ∧ k = 4 * a + b := ⟨k / 4, k % 4, by omega, by omega, by omega⟩
  rw [show (4 * a + b) / 4 = a by omega, show (4 * a + b) % 4 = b by omega]
  rcases lt8 ha with rfl | rfl | rfl | rfl | rfl | rfl | rfl | rfl <;> rcases lt4 hb with rfl | rfl | rfl | rfl <;> (first | rfl | (simp only [Nat.mul_zero, Nat.sub_self, Nat.pow_zero, Nat.div_one]; rfl) | (simp only [Nat.reduceMul, Nat.reduceSub, Nat.pow_zero, Nat.div_one]; rfl))
theorem outP_set (t : St) (k : Nat) (h : k < 32) : (cells8 (outP t k)).set k (B8 (UInt8.ofNat ((t.l.getD (k / 4) 0).toNat / 2 ^ (24 - 8 * (k % 4))))) = cells8 (outP t (k + 1)) := by
  have hl := outS_len t
  unfold outP cells8
  rw [List.map_append, List.set_append_right _ _ (by simp [hl]; omega), List.take_add_one, out_at t k h, show 32 - k = 32 - (k + 1) + 1 by omega, List.replicate_succ]
  simp [hl, show min k 32 = k by omega]
structure Fw (X w : World) (M : Nat) (t : St) (k : Nat) : Prop where
  ew : Ew X w t
  d : Bk X M 57 (cells8 (outP t k)).toArray
  far : w.heap.size + 2 ≤ M
theorem Fw.put {X w : World} {M : Nat} {t : St} {k : Nat} (h : Fw X w M t k) (hk : k < 32) : Fw (X.setCell ⟨M, k, none⟩ (B8 (UInt8.ofNat ((t.l.getD (k / 4) 0).toNat / 2 ^ (24 - 8 * (k % 4)))))) w M t (k + 1) := by
  have hf := h.far
  refine ⟨⟨h.ew.out.other (by omega) _ _, h.ew.st.other (by omega) _ _, h.ew.bel.setCell (by show w.heap.size ≤ M; omega) _⟩, ?_, h.far⟩
  have := h.d.set k (B8 (UInt8.ofNat ((t.l.getD (k / 4) 0).toNat / 2 ^ (24 - 8 * (k % 4)))))
  rw [show ∀ v, (cells8 (outP t k)).toArray.setIfInBounds k v = ((cells8 (outP t k)).set k v).toArray from fun v => by simp, outP_set t k hk] at this
  exact this
theorem rd0_val (w : World) (T : TypeId) (v : Int) (b : UInt8) (hv : v = (b.toNat : Int)) : Rd0 (w.alloc (.cells #[.int .u8 v] T)) (some ⟨w.heap.size, 0, none⟩) [b] := by
  subst hv; exact rd0_lit w T [b]
theorem run_slice_mid {P : Program} (t e : TypeId) (hu : P.underlying t = some (.slice e)) (hs : (P.info? e).map (·.size) = some 1) (b off len cap : Nat) (k1 k2 : IntKind) (i j : Int) (l h : Nat) (hi : i = (l : Int)) (hj : j = (h : Int)) (hlh : l < h) (hc : h ≤ cap) (w : World) :
    (Instr.sliceAt t (.slice (some ⟨b, off, none⟩) len cap) (some (.int k1 i)) (some (.int k2 j)) none).run P w = .ok (.slice (some ⟨b, off + l, none⟩) (h - l) (cap - l)) w := by
  subst hi hj
  have he : P.elem t = e := by simp [Program.elem, hu]
  rw [run_sliceAt_slice w t _ _ _ _ (by rw [he]; exact hu), run_slice_lh w t (some ⟨b, off, none⟩) len cap (by rw [he]; exact hu) k1 k2 l h (by omega) (by omega) (by omega), he]
  cases hq : P.info? e with
  | none => simp [hq] at hs
  | some i =>
    have hz : i.size = 1 := by simpa [hq] using hs
    simp [sizeOf, typeInfo, hq, hz, sliced, Result.andThen, Addr.add_mid, show cap ≠ l by omega]
theorem be8_at (n k : Nat) (hn : n ≤ 80000000000) (hk : k < 8) : (be8S n)[k]? = some (UInt8.ofNat (n / 2 ^ (56 - 8 * k))) := by
  have a1 : (UInt32.ofNat (n / 4294967296)).toNat = n / 4294967296 := UInt32.toNat_ofNat_of_lt' (by show _ < 4294967296; omega)
  have a2 : (UInt32.ofNat n).toNat = n % 4294967296 := UInt32.toNat_ofNat' ..
  have e : ∀ x y : Nat, x % 256 = y % 256 → UInt8.ofNat x = UInt8.ofNat y := fun x y h => by
    apply UInt8.toNat_inj.1; rw [UInt8.toNat_ofNat', UInt8.toNat_ofNat']; exact h
  unfold be8S by4S
  rw [a1, a2]
  rcases lt8 hk with rfl | rfl | rfl | rfl | rfl | rfl | rfl | rfl
  all_goals (refine congrArg some (e _ _ ?_); (try simp only [Nat.reduceMul, Nat.reduceSub, Nat.reducePow]); (try omega))
theorem be8_len (n : Nat) : (be8S n).length = 8 := rfl
theorem be8_step (n k : Nat) (hn : n ≤ 80000000000) (hk : k < 8) : (be8S n).take (k + 1) = (be8S n).take k ++ [UInt8.ofNat (n / 2 ^ (56 - 8 * k))] := by
  have h := be8_at n k hn hk
  rw [List.take_add_one, h]; rfl

set_option maxRecDepth 100000 in
set_option maxHeartbeats 2000000 in
theorem rsum_any (q : Option Addr) (c : Nat) (m : List UInt8) (w : World) (hR : Rd0 w q m) (hz : m.length ≤ 10000000000) (S : List UInt8) (hS : Hid (S = sumS m)) :
    Calls Tryd.prog 26 #[.slice q m.length c] w fun e w' => e = .returned (.agg (cells8 S).toArray) ∧ Below w.heap.size w w' := by
  have HR := Lib.hid hR
  have HN8 := Lib.hid (show (cells32 firstS.l).toArray.size = 8 by rfl)
  clear hR
  go_enter Tryd.func26, Tryd.ntmps26
  go_upto_region 2 with (first
    | (refine wpList_build_as rfl 89 _ rfl (cells32 firstS.l).toArray (by kernel_rfl) ?_)
    | (refine wpList_store_row rfl 89 _ _ rfl _ _ rfl rfl _ _ (Bk.new' (w.alloc _) (by simp) _ _) (by kernel_rfl) rfl (cells32_one _) ?_))
  change Code.wp _ _ _ _ (((w.alloc (.cells (cells8 (List.replicate 32 0)).toArray 57)).alloc (.cells (List.replicate 8 (.int .u32 0)).toArray 89)).setRow (w.heap.size + 1) (cells32 firstS.l).toArray)
  have HE := Lib.hid (Ew.start w (List.replicate 8 (.int .u32 0)).toArray)
  have HR1 := Lib.hid (HR.out.on HE.out.bel)
  generalize ((w.alloc (.cells (cells8 (List.replicate 32 0)).toArray 57)).alloc (.cells (List.replicate 8 (.int .u32 0)).toArray 89)).setRow (w.heap.size + 1) (cells32 firstS.l).toArray = W1 at *
  clear HR HN8
  have HG := Lib.hid HE.out.big
  have HA0 := Lib.hid (acc_made (w := W1) (base := w.heap.size + 2) HE.out.big)
  go_upto_region 3 with (refine wpList_app8 rfl _ _ rfl rfl (w.heap.size + 2) _ [] rfl HA0.out q m _ _ rfl rfl (HR1.out.on (below1 _ _)) (by simp; omega) (by have := HG.out; simp; omega) ?_; intro v2 w2 hA2 hb2; have HA2 := Lib.hid hA2; have HE2 := Lib.hid (HE.out.on (((Below.refl _ _).alloc HG.out _).trans hb2)); clear hA2 hb2)
  go_upto_region 4 with (refine wpList_app8 rfl _ _ rfl rfl (w.heap.size + 2) _ _ rfl (HA2.out.on HE2.out.big (below1 _ _)) _ [128] 1 1 rfl rfl (rd0_lit w2 5 [128]) (by simp; omega) (by have := HE2.out.big; simp; omega) ?_; intro v3 w3 hA3 hb3; have HA3 := Lib.hid hA3; have HE3 := Lib.hid (HE2.out.on (((Below.refl _ _).alloc HE2.out.big _).trans hb3)); clear hA3 hb3)
  clear HA2 HE2 HA0 HR1 HG HE
  obtain ⟨p3, d3, rfl, hd3⟩ := HA3.out.form (m.length + 1) (by simp)
  obtain ⟨z, ez⟩ : ∃ z, Hid (z = zerosS m.length) := ⟨_, Lib.hid rfl⟩
  have hz63 : z < 64 := by rw [ez.out, zerosS]; omega
  have hzm : (m.length + 1 + z) % 64 = 56 := by rw [ez.out, zerosS]; omega
  have hzl : ∀ j, j < z → (m.length + 1 + j) % 64 ≠ 56 := by intro j hj; rw [ez.out, zerosS] at hj; omega
  have HZM := Lib.hid hzm
  have HZL := Lib.hid hzl
  clear hzm hzl
  go_loopw [4] (fun v wr => ∃ (n j : Nat) (p : Option Addr) (d : Nat), Hid (n = m.length + 1 + j) ∧ j ≤ z ∧ v = .slice p n d ∧ n ≤ d ∧ Hid (Acc wr (w.heap.size + 2) v (m ++ 128 :: List.replicate j 0)) ∧ Ew wr w firstS) (fun v _ => m.length + 70 - lenV v)
  case atStart => exact ⟨m.length + 1, 0, p3, d3, Lib.hid rfl, Nat.zero_le _, rfl, hd3, Lib.hid (by simpa using HA3.out), HE3.out⟩
  case round =>
    clear HA3 HE3 hd3
    obtain ⟨n, j, p, d, hn, hj, rfl, hd, HA, hE⟩ := hrel
    have HE := Lib.hid hE
    clear hE
    have hnb : n ≤ 10000000100 := by rw [hn.out]; omega
    by_cases hlt : j < z
    · have c1 : ((n : Int) % 64 != 56) = true := by
        have := HZL.out j hlt
        rw [← hn.out] at this
        rw [bne_iff_ne]; omega
      have c2 : ((n : Int).tmod 64 != 56) = true := by rw [Int.tmod_eq_emod_of_nonneg (by omega)]; exact c1
      go_wp2_with (refine wpList_app8 rfl _ _ rfl rfl (w.heap.size + 2) _ _ rfl (HA.out.on HE.out.big (below1 _ _)) _ [0] 1 1 rfl rfl (rd0_lit wr 5 [0]) (by simp; omega) (by have := HE.out.big; simp; omega) ?_; intro v3 w3 hA3 hb3; have HA3 := Lib.hid hA3; have HE3 := Lib.hid (HE.out.on (((Below.refl _ _).alloc HE.out.big _).trans hb3)); clear hA3 hb3; obtain ⟨p3, d3, rfl, hd3⟩ := HA3.out.form (n + 1) (by rw [hn.out]; simp; omega))
      go_roundw
      case rel => exact ⟨n + 1, j + 1, p3, d3, Lib.hid (by rw [hn.out]; omega), by omega, rfl, hd3, Lib.hid (by have := HA3.out; rw [List.append_assoc, List.cons_append, ← List.replicate_succ'] at this; exact this), HE3.out⟩
      case measure => rw [hn.out]; show m.length + 70 - (m.length + 1 + j + 1) < m.length + 70 - (m.length + 1 + j); omega
    · obtain rfl : j = z := by omega
      have c1 : ((n : Int) % 64 != 56) = false := by
        have := HZM.out
        rw [← hn.out] at this
        rw [bne_eq_false_iff_eq]; omega
      have c2 : ((n : Int).tmod 64 != 56) = false := by rw [Int.tmod_eq_emod_of_nonneg (by omega)]; exact c1
      obtain ⟨wo, rfl⟩ : ∃ wo : World, wo = wr := ⟨_, rfl⟩
      clear HZL HZM
      go_upto_region 7 with (fail)
      obtain ⟨n8, e8⟩ : ∃ n8, Hid (n8 = 8 * m.length) := ⟨_, Lib.hid rfl⟩
      rw [show (m.length : Int) * 8 = (n8 : Int) by rw [e8.out]; omega]
      have hn8 : n8 ≤ 80000000000 := by rw [e8.out]; omega
      obtain ⟨X, eX⟩ : ∃ X, Hid (X = m ++ 128 :: List.replicate j 0) := ⟨_, Lib.hid rfl⟩
      have HX := HA.out
      rw [← eX.out] at HX
      have hXl : X.length = n := by rw [eX.out, hn.out]; simp; omega
      have HXL := Lib.hid hXl
      have HX := Lib.hid HX
      clear HA c1 c2 hXl
      go_wp2_with fail
      go_loopw [4, 6] (fun v i wr => ∃ (k n' : Nat) (p : Option Addr) (d : Nat), k ≤ 8 ∧ i = .int .i64 k ∧ Hid (n' = n + k) ∧ v = .slice p n' d ∧ n' ≤ d ∧ Hid (Acc wr (w.heap.size + 2) v (X ++ (be8S n8).take k)) ∧ Ew wr w firstS) (fun _ i _ => 8 - (intOf i).toNat)
      case atStart => exact ⟨0, n, p, d, by omega, rfl, Lib.hid rfl, rfl, hd, Lib.hid (by rw [List.take_zero, List.append_nil]; exact HX.out), HE.out⟩
      case round =>
        clear HX HE hd
        obtain ⟨k, n', p, d, hk, rfl, hn', rfl, hd, HA, hE⟩ := hrel
        have HE := Lib.hid hE
        clear hE
        have w3 : (0 : Int) ≤ (k : Int) := by omega
        by_cases hlt : k < 8
        · have w4 : (k : Int) < 8 := by omega
          have w5 : (0 : Int) ≤ 56 - 8 * (k : Int) := by omega
          have w6 : 56 - 8 * (k : Int) ≤ 64 := by omega
          have HST := Lib.hid (be8_step n8 k hn8 hlt)
          have HV := Lib.hid (show (n8 : Int) / 2 ^ (56 - 8 * k) % 256 = ((UInt8.ofNat (n8 / 2 ^ (56 - 8 * k))).toNat : Int) by rw [UInt8.toNat_ofNat']; simp)
          go_wp2_with (refine wpList_app8 rfl _ _ rfl rfl (w.heap.size + 2) _ _ rfl (HA.out.on HE.out.big (below1 _ _)) _ [UInt8.ofNat (n8 / 2 ^ (56 - 8 * k))] 1 1 rfl rfl (rd0_val wr 5 _ _ HV.out) (by rw [List.length_append, List.length_take, HXL.out]; simp; omega) (by have := HE.out.big; simp; omega) ?_; intro v3 w3 hA3 hb3; rw [List.append_assoc, ← HST.out] at hA3; have HA3 := Lib.hid hA3; have HE3 := Lib.hid (HE.out.on (((Below.refl _ _).alloc HE.out.big _).trans hb3)); clear hA3 hb3; obtain ⟨p3, d3, rfl, hd3⟩ := HA3.out.form (n' + 1) (by rw [List.length_append, HXL.out, List.length_take, be8_len, hn'.out]; omega))
          go_roundw
          case rel => exact ⟨k + 1, n' + 1, p3, d3, by omega, by go_num, Lib.hid (by rw [hn'.out]; omega), rfl, hd3, HA3, HE3.out⟩
          case measure => simp [intOf]; omega
        · obtain rfl : k = 8 := by omega
          obtain ⟨wp, rfl⟩ : ∃ wp : World, wp = wr := ⟨_, rfl⟩
          have hA := HA.out
          rw [show (be8S n8).take 8 = be8S n8 from rfl, eX.out, e8.out, ez.out, List.append_assoc, List.cons_append, show 128 :: (List.replicate (zerosS m.length) 0 ++ be8S (8 * m.length)) = endS m.length from rfl, show m ++ endS m.length = padS m from rfl] at hA
          have HA' := Lib.hid hA
          obtain ⟨Y, eY⟩ : ∃ Y, Hid (Y = padS m) := ⟨_, Lib.hid rfl⟩
          rw [← eY.out] at hA
          clear HA HA'
          have HA := Lib.hid hA
          have hYl : Y.length = n' := by rw [eY.out, padS, List.length_append, endS_len, hn'.out, hn.out, ez.out]; omega
          have hYm : n' % 64 = 0 := by rw [← hYl, eY.out]; exact padS_mod m
          have hnn : n' ≤ 10000000200 := by rw [hn'.out]; omega
          have HYL := Lib.hid hYl
          have HYM := Lib.hid hYm
          clear hA hYl hYm hlt hk
          rw [show ((8 : Nat) : Int) = 8 from rfl]
          go_wp2_with fail
          go_loopw [7] (fun i wr => ∃ (k i' : Nat), i' ≤ n' ∧ Hid (i' = 64 * k) ∧ i = .int .i64 i' ∧ Hid (Acc wr (w.heap.size + 2) (.slice p n' d) Y) ∧ Ew wr w (blkS Y k)) (fun i _ => n' - (intOf i).toNat)
          case atStart => exact ⟨0, 0, by omega, Lib.hid rfl, rfl, HA, HE.out⟩
          case round =>
            clear HA HE
            obtain ⟨k, i', hi, hik, rfl, HA, hE⟩ := hrel
            have HE := Lib.hid hE
            clear hE
            have w3 : (0 : Int) ≤ (i' : Int) := by omega
            by_cases hlt : i' < n'
            · have hle : i' + 64 ≤ n' := by have := HYM.out; have := hik.out; omega
              have w4 : (i' : Int) < (n' : Int) := by omega
              obtain ⟨t, et⟩ : ∃ t, Hid (t = blkS Y k) := ⟨_, Lib.hid rfl⟩
              have hE := HE.out
              rw [← et.out] at hE
              have HE := Lib.hid hE
              clear hE
              obtain ⟨p', d', hpd, hdd, hR⟩ := HA.out.rd
              simp only [Value.slice.injEq] at hpd
              obtain ⟨rfl, -, rfl⟩ := hpd
              obtain ⟨b, off, rfl, hbl, hcs⟩ : ∃ b off, p = some ⟨b, off, none⟩ ∧ b < wr.heap.size ∧ ∀ i v, (cells8 Y)[i]? = some v → wr.cell? ⟨b, off + i, none⟩ = some v := by
                rcases hR with h | h
                · have := HYL.out; rw [h] at this; simp at this; omega
                · exact h
              have hsl := fun wx => run_slice_mid (P := Tryd.prog) 22 5 Tryd.underlying22 (by kernel_rfl) b off n' d .i64 .i64 (i' : Int) ((i' : Int) + 64) i' (i' + 64) rfl (by simp) (by omega) (by omega) wx
              have s1 : IntKind.i64.wrap ((i' : Int) + 64) = (i' : Int) + 64 := IntWalk.i64_in _ (by omega)
              have hYne : Y ≠ [] := by intro h; have := HYL.out; rw [h] at this; simp at this; omega
              have HBY := Lib.hid (show Byt wr wr.heap.size b (off + i') ((Y.drop (64 * k)).take 64) from ⟨hbl, fun x hx => by
                rw [Nat.add_assoc]
                have hlen : i' + x < Y.length := by rw [HYL.out]; omega
                refine (hcs (i' + x) (B8 Y[i' + x]) (by simp [cells8, List.getElem?_eq_getElem hlen])).trans ?_
                congr 2
                rw [List.getD_eq_getElem?_getD, List.getElem?_take_of_lt hx, List.getElem?_drop, ← hik.out, List.getElem?_eq_getElem hlen]; rfl⟩)
              clear hR hcs
              go_upto_region 14 with (fail)
              refine wp_region_still_tail 6 (by kernel_rfl) (by kernel_rfl) ?_
              simp only [List.take_succ_cons, List.take_zero, List.drop_succ_cons, List.drop_zero]
              change wpStill _ _ wr.drew _ _ _
              change wpStill _ _ _ (fun a' => wpList _ _ _ _ a' wr.drew) _ _
              have hdr : Below wr.heap.size wr wr.drew := (Below.refl _ _).drew
              have HED := Lib.hid (HE.out.on (hdr.mono HE.out.big))
              have HAD := Lib.hid (HA.out.on HE.out.big hdr)
              have HBD := Lib.hid (show Byt wr.drew wr.drew.heap.size b (off + i') ((Y.drop (64 * k)).take 64) from ⟨hbl, fun x hx => by rw [hdr.cell (p := ⟨b, off + i' + x, none⟩) hbl]; exact HBY.out.2 x hx⟩)
              clear HBY HE HA hdr
              generalize wr.drew = WD at *
              have HRG := Lib.hid (show WD.rangeAt (w.heap.size + 1) 0 (cells32 t.l) from fun j v hv => by rw [Nat.zero_add]; exact HED.out.st.cell j v (by rw [List.toList_toArray]; exact hv))
              repeat (first
                | still_step
                | (refine wpStill_load_mid rfl 89 _ rfl (w.heap.size + 1) 0 rfl _ _ HRG.out Tryd.underlying89 rfl (by kernel_rfl) ?_))
              refine wpStill_nil ?_
              clear s1 hsl HRG
              have HN8 := Lib.hid (show ∀ x : St, (cells32 x.l).toArray.size = 8 from fun x => rfl)
              obtain ⟨t', et'⟩ : ∃ t', Hid (t' = cmpS t ((Y.drop (64 * k)).take 64)) := ⟨_, Lib.hid rfl⟩
              have HBA := Lib.hid (fun (len cap : Nat) (hl : len = 64) => show Calls Tryd.prog 49 #[.agg (cells32 t.l).toArray, .slice (some ⟨b, off + i', none⟩) len cap] WD fun e w' => e = .returned (.agg (cells32 t'.l).toArray) ∧ Below WD.heap.size WD w' by rw [et'.out]; exact block_any t ((Y.drop (64 * k)).take 64) b (off + i') _ cap WD hl HBD.out)
              go_upto_region 13 with (first
                | (go_at_call 49; refine (HBA.out _ _ (by omega)).mono ?_; rintro e w9 ⟨rfl, hb9⟩; have HE9 := Lib.hid (HED.out.on (hb9.mono HED.out.big)); have HA9 := Lib.hid (HAD.out.on HED.out.big hb9); clear hb9)
                | (refine wpList_store_row rfl 89 _ _ rfl (w.heap.size + 1) _ rfl rfl _ _ HE9.out.st (by kernel_rfl) rfl (cells32_one _) ?_))
              have HEF := Lib.hid (show Ew (w9.setRow (w.heap.size + 1) (cells32 t'.l).toArray) w t' from HE9.out.row t')
              have HAF := Lib.hid (show Acc (w9.setRow (w.heap.size + 1) (cells32 t'.l).toArray) (w.heap.size + 2) (.slice (some ⟨b, off, none⟩) n' d) Y from HA9.out.row (Nat.lt_succ_self _) _ hYne)
              clear HE9 HA9 HED HAD HBD HBA
              generalize w9.setRow (w.heap.size + 1) (cells32 t'.l).toArray = WZ at *
              go_wp2_with fail
              go_roundw
              case rel => exact ⟨k + 1, i' + 64, hle, Lib.hid (by rw [hik.out]; omega), by go_num, HAF, by have := HEF.out; rw [et'.out, et.out] at this; exact this⟩
              case measure => simp [intOf]; omega
            · have hin : i' = n' := by omega
              have hkk : k = Y.length / 64 := by rw [HYL.out]; have := hik.out; omega
              obtain ⟨t, et⟩ : ∃ t, Hid (t = blkS Y k) := ⟨_, Lib.hid rfl⟩
              have hE := HE.out
              rw [← et.out] at hE
              have HT := Lib.hid (show outS t = S by rw [et.out, hkk, hS.out, eY.out]; rfl)
              obtain ⟨wq, rfl⟩ : ∃ wq : World, wq = wr := ⟨_, rfl⟩
              have HG := Lib.hid hE.big
              have HF := Lib.hid (show Fw (wq.alloc (.cells (cells8 (List.replicate 32 0)).toArray 57)) w wq.heap.size t 0 from ⟨hE.on ((below1 wq _).mono hE.big), Bk.new wq _ _, hE.big⟩)
              clear HE HA hE hkk
              subst hin
              go_upto_region 16 with (fail)
              change Code.wp _ _ _ _ (wq.alloc (.cells (cells8 (List.replicate 32 0)).toArray 57))
              generalize wq.alloc (.cells (cells8 (List.replicate 32 0)).toArray 57) = WG at *
              generalize wq.heap.size = M at *
              go_wp2_with fail
              go_loopw [9] (fun i wr => ∃ k : Nat, k ≤ 32 ∧ i = .int .i64 k ∧ Fw wr w M t k) (fun i _ => 32 - (intOf i).toNat)
              case atStart => exact ⟨0, by omega, rfl, HF.out⟩
              case round =>
                clear HF HG
                obtain ⟨x, hx, rfl, hF⟩ := hrel
                have w5 : (0 : Int) ≤ (x : Int) := by omega
                by_cases hl : x < 32
                · have w6 : (x : Int) < 32 := by omega
                  obtain ⟨y, ey⟩ : ∃ y, Hid (y = t.l.getD (x / 4) 0) := ⟨_, Lib.hid rfl⟩
                  have c0 := hF.ew.st.cell (x / 4) (W32 y) (by rw [ey.out, ← l_at t (x / 4) (by omega)]; simp)
                  have c1 := hF.d.cell x _ (List.getElem?_eq_getElem (by rw [List.toList_toArray, cells8_len, outP_len t x (by omega)]; exact hl))
                  have f1 := hF.d.soft x
                  have w7 : (0 : Int) ≤ (x : Int) / 4 := by omega
                  have w8 : (x : Int) / 4 < 8 := by omega
                  have w9 : (0 : Int) ≤ 24 - 8 * ((x : Int) % 4) := by omega
                  have w10 : 24 - 8 * ((x : Int) % 4) ≤ 32 := by omega
                  have HV := Lib.hid (show (y.toNat : Int) / 2 ^ (24 - 8 * (x % 4)) % 256 = ((UInt8.ofNat (y.toNat / 2 ^ (24 - 8 * (x % 4)))).toNat : Int) by rw [UInt8.toNat_ofNat']; simp)
                  have HF := Lib.hid (hF.put hl)
                  rw [← ey.out] at HF
                  clear hF
                  go_wp2_with fail
                  go_roundw
                  case rel => exact ⟨x + 1, by omega, by go_num, by rw [HV.out]; exact HF.out⟩
                  case measure => simp [intOf]; omega
                · obtain rfl : x = 32 := by omega
                  obtain ⟨wz, rfl⟩ : ∃ wz : World, wz = wr := ⟨_, rfl⟩
                  have hd := hF.d
                  rw [outP_done, HT.out] at hd
                  have HD := Lib.hid hd
                  have HO := Lib.hid hF.ew.out
                  have HBB := Lib.hid hF.ew.bel
                  have HN := Lib.hid (show (cells8 S).toArray.size = 32 by rw [hS.out, List.size_toArray, cells8_len, sumS_len])
                  clear hd hF hl hx
                  go_wp2_with (first
                    | (refine wpList_load_row rfl 57 _ rfl _ rfl _ _ _ _ HD.out Tryd.underlying57 rfl (by rw [HN.out]; kernel_rfl) ?_)
                    | (refine wpList_store_row rfl 57 _ _ rfl _ _ rfl rfl _ _ HO.out (by rw [HN.out]; kernel_rfl) (by rw [HN.out]; rfl) (cells8_one _) ?_))
                  exact bodyPost_ret (v := .agg (cells8 S).toArray) (results_cell_row rfl _ _ _ _ _ _ _ rfl (setRow_heap _ _ _ _ _ _ HO.out) Tryd.underlying57 rfl (by rw [HN.out]; kernel_rfl)) rfl ⟨rfl, below_setRow HBB.out (Nat.le_refl _) _⟩
end Go.Proofs.YtooiaadnhglifaaDoor

/-
  Contract: (*sha.Hash).Sum.
-/
import Derived.Test.YtooiaadnhglifaaDoorWrt
set_option linter.unusedVariables false
set_option linter.unusedSimpArgs false
namespace Go.Proofs.YtooiaadnhglifaaDoor
open Go.RowKit

/-- the sum while its words are laid down -/
def outC (s : St) (k : Nat) : List UInt8 := (outS s).take (4 * k) ++ List.replicate (32 - 4 * k) 0
theorem hash_one (s : St) (r : List UInt8) (n : Nat) : (hashC s r n).toArray.all (·.oneCell') = true := all_oneCell_toArray (by
  intro v hv
  simp only [hashC, cells32, cells8, List.mem_append, List.mem_map, List.mem_singleton] at hv
  rcases hv with ⟨x, _, rfl⟩ | ⟨x, _, rfl⟩ | rfl <;> rfl)
theorem zero_hash (w : World) : (zeroValue 109).run Tryd.prog w = .ok (.agg (hashC ⟨0, 0, 0, 0, 0, 0, 0, 0⟩ (List.replicate 64 0) 0).toArray) w := by kernel_rfl
theorem outC_zero (s : St) : outC s 0 = List.replicate 32 0 := rfl
theorem outC_done (s : St) : outC s 8 = outS s := by simp [outC, outS, St.l, by4S]
theorem outC_step (s : St) (k : Nat) (h : k < 8) : splice (outC s k) (4 * k) (by4S (s.l.getD k 0)) = outC s (k + 1) := by
  rcases lt8 h with rfl | rfl | rfl | rfl | rfl | rfl | rfl | rfl <;> rfl
theorem outC_len (s : St) (k : Nat) (h : k ≤ 8) : (outC s k).length = 32 := by simp [outC, outS, St.l, by4S]; omega

/-- the world behind the copy -/
structure Cw (X w : World) (hb : Nat) (l : List UInt8) : Prop where
  out : Bk X w.heap.size 57 (cells8 (List.replicate 32 0)).toArray
  hs : Hs X (w.heap.size + 1) l
  size : X.cell? ⟨hb, 72, none⟩ = some (.int .u64 l.length)
  bel : Below w.heap.size w X
  big : w.heap.size + 1 < X.heap.size
theorem Cw.start {w : World} {hb : Nat} {l : List UInt8} {s : St} {r : List UInt8} (hK : Kept l s r) (hB : Bk w hb 109 (hashC s r l.length).toArray) (c : Array Value) :
    Cw (((w.alloc (.cells (cells8 (List.replicate 32 0)).toArray 57)).alloc (.cells c 109)).setRow (w.heap.size + 1) (hashC s r l.length).toArray) w hb l := by
  have e := World.setRow_alloc_new (w.alloc (.cells (cells8 (List.replicate 32 0)).toArray 57)) c (hashC s r l.length).toArray 109
  rw [World.size_alloc] at e
  rw [e]
  refine ⟨(Bk.new w _ _).on (below1 _ _), ⟨s, r, hK, Bk.new' (w.alloc _) (by simp) _ _⟩, ?_, ((Below.refl _ _).alloc (Nat.le_refl _) _).alloc (by simp) _, by simp⟩
  exact ((hB.on (below1 w _)).on (below1 _ _)).cell 72 _ (by rw [List.toList_toArray]; exact hashC_size s r _ hK.len)

structure Dw (X w : World) (M : Nat) (t : St) (k : Nat) : Prop where
  out : Bk X w.heap.size 57 (cells8 (List.replicate 32 0)).toArray
  d : Bk X M 57 (cells8 (outC t k)).toArray
  bel : Below w.heap.size w X
  far : w.heap.size < M
theorem Dw.put {X X' w : World} {M : Nat} {t : St} {k : Nat} (h : Dw X w M t k) (ho : Only M X X') (hB : Bk X' M 57 (splice (cells8 (outC t k)) (4 * k) (cells8 (by4S (t.l.getD k 0)))).toArray) (hk : k < 8) : Dw X' w M t (k + 1) := by
  have hf := h.far
  refine ⟨h.out.only ho (by omega), ?_, h.bel.trans ((ho.below (Nat.le_of_lt h.d.lt)).mono (by omega)), h.far⟩
  rw [splice8, outC_step t k hk] at hB
  exact hB

set_option maxRecDepth 100000 in
set_option maxHeartbeats 2000000 in
theorem hsum_any (hb : Nat) (l : List UInt8) (w : World) (hH : Hs w hb l) (hE : Env w) (hz : l.length < 1000000000000000) :
    Calls Tryd.prog 75 #[.pointer (some ⟨hb, 0, none⟩)] w fun e w' => e = .returned (.agg (cells8 (sumS l)).toArray) ∧ Below w.heap.size w w' := by
  obtain ⟨s, r, hK, hB⟩ := hH
  have HE := Lib.hid hE
  have HK := Lib.hid hK
  have HB := Lib.hid hB
  have HN := Lib.hid (show (hashC s r l.length).length = 73 from hashC_len _ _ _ hK.len)
  clear hE hB hK
  have hz45 := zero_hash
  go_enter Tryd.func75, Tryd.ntmps75
  go_upto_region 4 with (first
    | (refine wpList_load_row rfl 109 _ rfl hb rfl _ _ _ _ (HB.out.on (below1 _ _)) Tryd.underlying109 rfl (by rw [List.size_toArray, HN.out]; kernel_rfl) ?_)
    | (refine wpList_store_row rfl 109 _ _ rfl _ _ rfl rfl _ _ (Bk.new' (w.alloc _) (by simp) _ _) (by rw [List.size_toArray, HN.out]; kernel_rfl) (by rw [List.size_toArray, List.size_toArray, HN.out]; rfl) (hash_one _ _ _) ?_))
  change Code.wp _ _ _ _ (((w.alloc (.cells (cells8 (List.replicate 32 0)).toArray 57)).alloc (.cells (hashC ⟨0, 0, 0, 0, 0, 0, 0, 0⟩ (List.replicate 64 0) 0).toArray 109)).setRow (w.heap.size + 1) (hashC s r l.length).toArray)
  have HC := Lib.hid (Cw.start HK.out HB.out (hashC ⟨0, 0, 0, 0, 0, 0, 0, 0⟩ (List.replicate 64 0) 0).toArray)
  generalize ((w.alloc (.cells (cells8 (List.replicate 32 0)).toArray 57)).alloc (.cells (hashC ⟨0, 0, 0, 0, 0, 0, 0, 0⟩ (List.replicate 64 0) 0).toArray 109)).setRow (w.heap.size + 1) (hashC s r l.length).toArray = W1 at *
  clear hz45 HN HB HK
  have c72 := HC.out.size
  have HEV := Lib.hid (HE.out.on HC.out.bel HE.out.size)
  go_upto_region 5 with (first
    | (go_at_call 77; refine (ending_any l.length _ (by omega)).mono ?_; rintro e w2 ⟨rfl, hB2, hb2⟩; have HB2 := Lib.hid hB2; have Hb2 := Lib.hid hb2; clear hB2 hb2)
    | (go_at_call 74; refine (write_any (w.heap.size + 1) l (endS l.length) _ _ _ (HC.out.hs.on Hb2.out) (HEV.out.on Hb2.out HEV.out.size) (by have := HE.out.size; omega) (.inr ⟨_, _, rfl, by have := HC.out.big; omega, HB2.out.lt, fun i v hv => by rw [Nat.zero_add]; exact HB2.out.cell i v (by rw [List.toList_toArray]; exact hv)⟩) (Nat.le_refl _) (by rw [endS_len, zerosS]; omega)).mono ?_; rintro e w3 ⟨rfl, hH3, hO3⟩; have HH3 := Lib.hid hH3; have HO3 := Lib.hid hO3; clear hH3 hO3))
  obtain ⟨t, r', hK', hB3⟩ := HH3.out
  have HT := Lib.hid (show t = stS (padS l) from hK'.st)
  have HB3 := Lib.hid hB3
  have HO := Lib.hid (show Bk w3 w.heap.size 57 (cells8 (List.replicate 32 0)).toArray from (HC.out.out.on Hb2.out).only HO3.out (by omega))
  have HL := Lib.hid (show Below w.heap.size w w3 from HC.out.bel.trans ((Hb2.out.mono (by have := HC.out.big; omega)).trans ((HO3.out.below (Nat.le_of_lt (Nat.lt_of_lt_of_le HC.out.big Hb2.out.size))).mono (by omega))))
  have HG := Lib.hid (show w.heap.size < w3.heap.size from Nat.lt_of_le_of_lt (by omega) hB3.lt)
  clear hB3 hK' HB2 Hb2 HH3 HO3 c72 HEV HC HE hz
  go_upto_region 6 with (fail)
  have HD := Lib.hid (show Dw (w3.alloc (.cells (cells8 (List.replicate 32 0)).toArray 57)) w w3.heap.size t 0 from ⟨HO.out.on (below1 _ _), by rw [outC_zero]; exact Bk.new w3 _ _, HL.out.alloc (Nat.le_of_lt HG.out) _, HG.out⟩)
  have HR := Lib.hid (show World.rangeAt (w3.alloc (.cells (cells8 (List.replicate 32 0)).toArray 57)) (w.heap.size + 1) 0 (cells32 t.l) from fun j v hv => by rw [Nat.zero_add]; exact (HB3.out.on (below1 _ _)).cell j v (by rw [List.toList_toArray]; exact hashC_st _ _ _ j v hv))
  change Code.wp _ _ _ _ (w3.alloc (.cells (cells8 (List.replicate 32 0)).toArray 57))
  generalize w3.alloc (.cells (cells8 (List.replicate 32 0)).toArray 57) = W4 at *
  generalize w3.heap.size = M at *
  clear HO HL HG HB3
  go_wp2_with (refine wpList_load_mid rfl 89 _ rfl (w.heap.size + 1) 0 rfl (cells32 t.l) _ HR.out Tryd.underlying89 rfl (by kernel_rfl) ?_)
  go_loopw [22] (fun i wr => ∃ k : Nat, k ≤ 8 ∧ i = .int .i64 k ∧ Dw wr w M t k) (fun i _ => 8 - (intOf i).toNat)
  case atStart => exact ⟨0, by omega, rfl, HD.out⟩
  case round =>
    clear HD HR
    obtain ⟨k, hk, rfl, hD⟩ := hrel
    have w3 : (0 : Int) ≤ (k : Int) := by omega
    by_cases hlt : k < 8
    · obtain ⟨y, ey⟩ : ∃ y, Hid (y = t.l.getD k 0) := ⟨_, Lib.hid rfl⟩
      have hix : ∀ wx, (Instr.index 89 (.agg (cells32 t.l).toArray) (.int .i64 k)).run Tryd.prog wx = .ok (W32 y) wx := fun wx =>
        run_index_arr 89 88 8 Tryd.underlying89 _ Tryd.underlying88 rfl (by kernel_rfl) _ _ _ k rfl hlt _ (by rw [ey.out]; exact l_at t k hlt) wx
      have hsl := fun wx => run_slice_arr (P := Tryd.prog) 57 5 32 Tryd.underlying57 (by kernel_rfl) M 0 .i64 (4 * k) (4 * k) (by simp) (by omega) wx
      rw [Nat.zero_add] at hsl
      have w4 : (k : Int) < 8 := by omega
      have HD := Lib.hid hD
      have HLN := Lib.hid (show (cells8 (outC t k)).length = 32 by rw [cells8_len, outC_len t k (by omega)])
      clear hD
      go_wp2_with (go_at_call 78; refine (putw_any M (4 * k) _ _ y _ _ _ (by omega) (by omega) HD.out.d (by rw [HLN.out]; omega)).mono ?_; rintro e w5 ⟨rfl, hB5, hO5⟩; have HD5 := Lib.hid (HD.out.put hO5 (by rw [← ey.out]; exact hB5) hlt); clear hB5 hO5)
      go_roundw
      case rel => exact ⟨k + 1, by omega, by go_num, HD5.out⟩
      case measure => simp [intOf]; omega
    · obtain rfl : k = 8 := by omega
      obtain ⟨wo, rfl⟩ : ∃ wo : World, wo = wr := ⟨_, rfl⟩
      have hd := hD.d
      obtain ⟨S, hS⟩ : ∃ S, Hid (S = sumS l) := ⟨_, Lib.hid rfl⟩
      rw [outC_done, HT.out, show outS (stS (padS l)) = S from hS.out.symm] at hd
      have HD := Lib.hid hd
      have HO := Lib.hid hD.out
      have HB := Lib.hid hD.bel
      have HN := Lib.hid (show (cells8 S).toArray.size = 32 by rw [hS.out, List.size_toArray, cells8_len, sumS_len])
      clear hd hD hlt hk
      go_wp2_with (first
        | (refine wpList_load_row rfl 57 _ rfl _ rfl _ _ _ _ HD.out Tryd.underlying57 rfl (by rw [HN.out]; kernel_rfl) ?_)
        | (refine wpList_store_row rfl 57 _ _ rfl _ _ rfl rfl _ _ HO.out (by rw [HN.out]; kernel_rfl) (by rw [HN.out]; rfl) (cells8_one _) ?_))
      exact bodyPost_ret (v := .agg (cells8 S).toArray) (results_cell_row rfl _ _ _ _ _ _ _ rfl (setRow_heap _ _ _ _ _ _ HO.out) Tryd.underlying57 rfl (by rw [HN.out]; kernel_rfl)) rfl ⟨by rw [hS.out], below_setRow HB.out (Nat.le_refl _) _⟩
end Go.Proofs.YtooiaadnhglifaaDoor

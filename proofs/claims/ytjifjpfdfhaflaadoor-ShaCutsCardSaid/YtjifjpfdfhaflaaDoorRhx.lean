/-
  Contract: the reference's Hex.
-/
import Derived.Test.YtjifjpfdfhaflaaDoorHex
set_option linter.unusedVariables false
set_option linter.unusedSimpArgs false
namespace Go.Proofs.YtjifjpfdfhaflaaDoor
open Go.RowKit

theorem dig_cut (n : Nat) (h : n < 16) : digT.extract n (n + 1) = ⟨#[digS n]⟩ := by
  have : ∀ k : Fin 16, digT.extract k.val (k.val + 1) = ⟨#[digS k.val]⟩ := by decide
  exact this ⟨n, h⟩
theorem run_cut (n : Nat) (k1 k2 : IntKind) (i j : Int) (hi : i = (n : Int)) (hj : j = ((n + 1 : Nat) : Int)) (h : n < 16) (w : World) :
    (Instr.sliceAt 9 (.string digT) (some (.int k1 i)) (some (.int k2 j)) none).run Tryd.prog w = .ok (.string ⟨#[digS n]⟩) w := by
  subst hi hj
  have hd := dig_cut n h
  have hs : digT.size = 16 := rfl
  rw [run_sliceAt_string (h := Tryd.underlying9)]
  have b1 : (Instr.sliceBound (.int k2 ((n + 1 : Nat) : Int)) 16 BoundsCode.sliceAlen).run Tryd.prog w = .ok (n + 1) w := by
    rw [run_sliceBound _ _ _ _ _ (by omega) (by omega)]; simp
  have b2 : (Instr.sliceBound (.int k1 (n : Int)) (n + 1) BoundsCode.sliceB).run Tryd.prog w = .ok n w := by
    rw [run_sliceBound _ _ _ _ _ (by omega) (by omega)]; simp
  simp [Instr.slice, run_underlying Tryd.underlying9, Instr.sliceBounds, hs, hd, Result.andThen]
  simp only [Int.natCast_add, Int.cast_ofNat_Int] at b1
  rw [b1]
  simp only [b2, hd]

set_option maxRecDepth 100000 in
set_option maxHeartbeats 1000000 in
theorem rhex_any (d : List UInt8) (w : World) (hd : d.length = 32) :
    Calls Tryd.prog 11 #[.agg (cells8 d).toArray] w fun e w' => e = .returned (.string ⟨(hexS d).toArray⟩) ∧ Below w.heap.size w w' := by
  have HD := Lib.hid hd
  clear hd
  go_enter Tryd.func11, Tryd.ntmps11
  go_wp2
  go_loopw [4, 5] (fun v i wr => ∃ (k : Nat) (t : ByteArray), k ≤ 32 ∧ i = .int .i64 k ∧ v = .string t ∧ t.size ≤ 64 ∧ Hid (t = ⟨(hexS (d.take k)).toArray⟩) ∧ Bk wr w.heap.size 24 (cells8 d).toArray ∧ Below w.heap.size w wr) (fun _ i _ => 32 - (intOf i).toNat)
  case atStart => exact ⟨0, _, by omega, rfl, rfl, by decide, Lib.hid rfl, Bk.new w _ _, below1 _ _⟩
  case round =>
    obtain ⟨k, t, hk, rfl, rfl, hts, ht, hB, hb⟩ := hrel
    have w3 : (0 : Int) ≤ (k : Int) := by omega
    by_cases hlt : k < 32
    · have w4 : (k : Int) < 32 := by omega
      have hkd : k < d.length := by rw [HD.out]; exact hlt
      obtain ⟨y, ey⟩ : ∃ y, Hid (y = d[k]) := ⟨_, Lib.hid rfl⟩
      have c0 := hB.cell k (B8 y) (by simp [cells8, List.getElem?_eq_getElem hkd, ey.out])
      have HB := Lib.hid hB
      have HBB := Lib.hid hb
      have hy := u8_lt y
      obtain ⟨d1, e1⟩ : ∃ z, Hid (z = (⟨#[digS (y.toNat / 16)]⟩ : ByteArray)) := ⟨_, Lib.hid rfl⟩
      obtain ⟨d2, e2⟩ : ∃ z, Hid (z = (⟨#[digS (y.toNat % 16)]⟩ : ByteArray)) := ⟨_, Lib.hid rfl⟩
      have hc1 := fun wx => run_cut (y.toNat / 16) .u8 .u8 ((y.toNat : Int) / 16) ((y.toNat : Int) / 16 + 1) (by simp) (by simp) (by omega) wx
      have hc2 := fun wx => run_cut (y.toNat % 16) .u8 .u8 ((y.toNat : Int) % 16) ((y.toNat : Int) % 16 + 1) (by simp) (by simp) (by omega) wx
      rw [← e1.out] at hc1
      rw [← e2.out] at hc2
      unfold digT at hc1 hc2
      have z1 : d1.size = 1 := by rw [e1.out]; rfl
      have z2 : d2.size = 1 := by rw [e2.out]; rfl
      have z3 : ¬ 9223372036854775807 < d1.size + d2.size := by omega
      have z4 : ¬ 9223372036854775807 < t.size + (d1 ++ d2).size := by rw [ByteArray.size_append]; omega
      have HS1 := Lib.hid z1
      have HS2 := Lib.hid z2
      clear hB hb z1 z2
      go_upto_region 6 with (fail)
      go_quiet (fail)
      go_wp2_with fail
      go_roundw
      case rel =>
        refine ⟨k + 1, t ++ (d1 ++ d2), by omega, by go_num, rfl, ?_, Lib.hid ?_, HB.out.on (below_drewN' (Below.refl _ _) _), below_drewN' HBB.out _⟩
        · have e := hexS_len (d.take k)
          rw [List.length_take] at e
          rw [ByteArray.size_append, ByteArray.size_append, HS1.out, HS2.out, ht.out]
          show (hexS (d.take k)).toArray.size + _ ≤ 64
          rw [List.size_toArray, e]; omega
        · rw [ht.out, e1.out, e2.out, hexS_take d k hkd, ← ey.out]
          apply ByteArray.ext
          simp
      case measure => simp [intOf]; omega
    · obtain rfl : k = 32 := by omega
      have HT := ht.out
      rw [List.take_of_length_le (by rw [HD.out]; exact Nat.le_refl _)] at HT
      have HT := Lib.hid HT
      have HB := Lib.hid hb
      clear hb hB hlt hk hts
      go_wp2_with fail
      go_ret
      exact ⟨by rw [HT.out]; rfl, HB.out⟩
end Go.Proofs.YtjifjpfdfhaflaaDoor

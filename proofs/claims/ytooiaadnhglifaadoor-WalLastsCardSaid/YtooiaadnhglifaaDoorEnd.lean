/-
  Contract: sha.ending.
-/
import Derived.Test.YtooiaadnhglifaaDoorHsh
set_option linter.unusedVariables false
set_option linter.unusedSimpArgs false
namespace Go.Proofs.YtooiaadnhglifaaDoor
open Go.RowKit

theorem made8 (n : Nat) : madeCells #[Value.int .u8 0] (n * 1) = (cells8 (List.replicate n 0)).toArray := by
  rw [Nat.mul_one]
  apply Array.ext
  · simp [madeCells, cells8]
  · intro i h1 h2; simp [madeCells, cells8, Nat.mod_one]
theorem splice8 (l m : List UInt8) (o : Nat) : splice (cells8 l) o (cells8 m) = cells8 (splice l o m) := by simp [splice, cells8]
theorem end_list (n : Nat) : splice (splice (128 :: List.replicate (zerosS n + 8) 0) (1 + zerosS n) (by4S (UInt32.ofNat (8 * n / 4294967296)))) (1 + zerosS n + 4) (by4S (UInt32.ofNat (8 * n))) = endS n := by
  have e : ∀ z, List.replicate (z + 8) (0 : UInt8) = List.replicate z 0 ++ [0, 0, 0, 0, 0, 0, 0, 0] := fun z => (List.replicate_append_replicate (n := z) (m := 8) (a := (0 : UInt8))).symm
  have e1 : splice (128 :: List.replicate (zerosS n + 8) 0) (1 + zerosS n) (by4S (UInt32.ofNat (8 * n / 4294967296))) = 128 :: (List.replicate (zerosS n) 0 ++ (by4S (UInt32.ofNat (8 * n / 4294967296)) ++ [0, 0, 0, 0])) := by
    rw [e]
    simp only [splice, by4S, List.length_cons, List.length_nil, Nat.add_comm 1 (zerosS n), List.take_succ_cons]
    rw [List.take_append_of_le_length (by simp), List.take_of_length_le (by simp), show zerosS n + 1 + (0 + 1 + 1 + 1 + 1) = (zerosS n + 4) + 1 by omega, List.drop_succ_cons, List.drop_append, List.drop_of_length_le (by simp)]
    simp
  rw [e1]
  simp only [endS, be8S, splice, by4S, List.length_cons, List.length_nil, Nat.add_comm 1 (zerosS n), Nat.add_right_comm _ 1 4, List.take_succ_cons]
  rw [List.take_append, List.take_of_length_le (by simp), List.length_replicate, show zerosS n + 4 - zerosS n = 4 by omega, show zerosS n + 4 + 1 + (0 + 1 + 1 + 1 + 1) = (zerosS n + 8) + 1 by omega, List.drop_succ_cons, List.drop_append, List.drop_of_length_le (by simp)]
  simp
theorem info8 : (Tryd.prog.info? 5).map (fun i => (i.zero, i.size, i.bytes)) = some (some (.int .u8 0), 1, 1) := by kernel_rfl
theorem run_make8 (n : Nat) (k : IntKind) (c : Int) (hc : c = (n : Int)) (hn : n ≤ 1000000) (w : World) :
    (Instr.makeSlice 22 (.int k c) (.int k c)).run Tryd.prog w = .ok (.slice (some ⟨w.heap.size, 0, none⟩) n n) (w.alloc (.cells (cells8 (List.replicate n 0)).toArray 5)) := by
  subst hc
  obtain ⟨i, hi, hz0, hz1, hz2⟩ := info_parts info8
  have := run_makeSlice (P := Tryd.prog) (w := w) 22 5 i _ Tryd.underlying22 hi hz0 k k n n (by omega) (by omega) (by rw [hz1]; simp; omega) (by rw [hz2]; omega) (by omega)
  rw [this, hz1]
  simp only [Int.toNat_natCast]
  rw [← made8 n]; rfl

set_option maxRecDepth 100000 in
set_option maxHeartbeats 1000000 in
theorem ending_any (n : Nat) (w : World) (hn : n < 1152921504606846976) :
    Calls Tryd.prog 77 #[.int .u64 n] w fun e w' => e = .returned (.slice (some ⟨w.heap.size, 0, none⟩) (endS n).length (endS n).length) ∧ Bk w' w.heap.size 5 (cells8 (endS n)).toArray ∧ Below w.heap.size w w' := by
  obtain ⟨z, ez⟩ : ∃ z, z = zerosS n := ⟨_, rfl⟩
  have hz : (119 - (n : Int) % 64) % 64 = (z : Int) := by rw [ez, zerosS]; omega
  have hz63 : z < 64 := by rw [ez, zerosS]; omega
  have HZ := Lib.hid ez
  have HZ2 := Lib.hid hz
  clear ez hz
  go_enter Tryd.func77, Tryd.ntmps77
  go_upto_region 2 with (fail)
  rw [HZ2.out]
  have hmk := fun wx => run_make8 (1 + z + 8) .u64 (1 + (z : Int) + 8) (by omega) (by omega) wx
  go_upto_region 3 with (fail)
  have HB1 := Lib.hid (Bk.new w 5 (cells8 (List.replicate (1 + z + 8) 0)).toArray)
  have HW1 := Lib.hid (below1 w (.cells (cells8 (List.replicate (1 + z + 8) 0)).toArray 5))
  generalize w.alloc (.cells (cells8 (List.replicate (1 + z + 8) 0)).toArray 5) = W1 at *
  have c0 := HB1.out.cell 0 (B8 0) (by simp [cells8, show 1 + z + 8 = z + 8 + 1 by omega, List.replicate_succ])
  have f0 := HB1.out.soft 0
  clear hmk
  go_upto_region 4 with (fail)
  have HB2 := HB1.out.set 0 (.int .u8 128)
  rw [show (cells8 (List.replicate (1 + z + 8) 0)).toArray.setIfInBounds 0 (.int .u8 128) = (cells8 (128 :: List.replicate (z + 8) 0)).toArray by simp [cells8, show 1 + z + 8 = z + 8 + 1 by omega, List.replicate_succ]] at HB2
  have HB2 := Lib.hid HB2
  have HW2 := Lib.hid (HW1.out.setCell (p := ⟨w.heap.size, 0, none⟩) (Nat.le_refl _) (.int .u8 128))
  clear c0 f0 HB1 HW1
  generalize W1.setCell ⟨w.heap.size, 0, none⟩ (.int .u8 128) = W2 at *
  go_upto_region 5 with (fail)
  have E1 := Lib.hid (show (n : Int) * 8 / 4294967296 = ((UInt32.ofNat (8 * n / 4294967296)).toNat : Int) by rw [UInt32.toNat_ofNat_of_lt' (by show _ < 4294967296; omega)]; omega)
  have E2 := Lib.hid (show (n : Int) * 8 % 4294967296 = ((UInt32.ofNat (8 * n)).toNat : Int) by rw [UInt32.toNat_ofNat']; omega)
  have L2 := Lib.hid (show (cells8 (128 :: List.replicate (z + 8) 0)).length = z + 9 by simp [cells8])
  go_wp2_with (first
    | (rw [E1.out]; go_at_call 78; refine (putw_any _ _ _ _ _ _ _ _ (by omega) (by omega) HB2.out (by rw [L2.out]; omega)).mono ?_; rintro e w3 ⟨rfl, hB3, hO3⟩; rw [splice8] at hB3; have HB3 := Lib.hid hB3; have HO3 := Lib.hid hO3; clear hB3 hO3)
    | (rw [E2.out]; go_at_call 78; refine (putw_any _ _ _ _ _ _ _ _ (by omega) (by omega) HB3.out (by rw [cells8_len, length_splice _ _ _ (by simp [by4S]; omega)]; simp; omega)).mono ?_; rintro e w4 ⟨rfl, hB4, hO4⟩; rw [splice8] at hB4; have HB4 := Lib.hid hB4; have HO4 := Lib.hid hO4; clear hB4 hO4))
  go_ret
  have ez := HZ.out
  subst ez
  have hB4 := HB4.out
  rw [end_list] at hB4
  refine ⟨?_, hB4, HW2.out.trans ((HO3.out.trans HO4.out).below ?_)⟩
  · rw [endS_len, show 9 + zerosS n = 1 + zerosS n + 8 by omega]; rfl
  · exact Nat.le_of_lt HB2.out.lt
end Go.Proofs.YtooiaadnhglifaaDoor

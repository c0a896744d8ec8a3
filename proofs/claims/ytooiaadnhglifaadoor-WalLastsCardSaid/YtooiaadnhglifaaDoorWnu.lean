/-
  Contract: wal.putNumber writes a number behind bytes, the highest byte first.
-/
import Derived.Test.YtooiaadnhglifaaDoorApp
set_option linter.unusedVariables false
set_option linter.unusedSimpArgs false
namespace Go.Proofs.YtooiaadnhglifaaDoor
open Go.RowKit

/-- a number in so many bytes, the highest first -/
def numS (n size : Nat) : List UInt8 := (List.range size).map fun i => UInt8.ofNat (n / 2 ^ (8 * (size - 1 - i)))
theorem numS_len (n size : Nat) : (numS n size).length = size := by simp [numS]
theorem numS_step (n size k : Nat) (h : k < size) : (numS n size).take (k + 1) = (numS n size).take k ++ [UInt8.ofNat (n / 2 ^ (8 * (size - 1 - k)))] := by
  rw [List.take_succ_eq_append_getElem (by rw [numS_len]; exact h)]; simp [numS]

theorem rd0_byte (w : World) (T : TypeId) (v : Int) (b : UInt8) (hv : v = (b.toNat : Int)) : Rd0 (w.alloc (.cells #[.int .u8 v] T)) (some ⟨w.heap.size, 0, none⟩) [b] := by
  subst hv; exact rd0_lit w T [b]

set_option maxRecDepth 100000 in
set_option maxHeartbeats 1000000 in
theorem number_any (base : Nat) (v : Value) (xs : List UInt8) (size n : Nat) (w : World) (hA : Acc w base v xs) (hbase : base ≤ w.heap.size) (hs : size ≤ 8) (hz : xs.length ≤ 100000000000) :
    Calls Tryd.prog 47 #[v, .int .i64 size, .int .u64 n] w fun e w' => ∃ v', e = .returned v' ∧ Acc w' base v' (xs ++ numS n size) ∧ Below base w w' := by
  have HA := Lib.hid hA
  have HB := Lib.hid hbase
  have HZ := Lib.hid hz
  clear hA hbase hz
  go_enter Tryd.func47, Tryd.ntmps47
  go_wp2_with fail
  go_loopw [0, 9] (fun v i wr => ∃ k : Nat, k ≤ size ∧ i = .int .i64 k ∧ Acc wr base v (xs ++ (numS n size).take k) ∧ Below base w wr) (fun _ i _ => size - (intOf i).toNat)
  case atStart => exact ⟨0, by omega, rfl, by simpa using HA.out, Below.refl _ _⟩
  case round =>
    obtain ⟨k, hk, rfl, hA, hb⟩ := hrel
    have HA := Lib.hid hA
    have HBW := Lib.hid hb
    clear hA hb
    have w3 : (0 : Int) ≤ (k : Int) := by omega
    by_cases hlt : k < size
    · have w4 : (k : Int) < (size : Int) := by omega
      have s1 : IntKind.i64.wrap ((size : Int) - 1) = (size : Int) - 1 := IntWalk.i64_in _ (by omega)
      have s2 : IntKind.i64.wrap ((size : Int) - 1 - (k : Int)) = (size : Int) - 1 - (k : Int) := IntWalk.i64_in _ (by omega)
      have s3 : IntKind.i64.wrap (8 * ((size : Int) - 1 - (k : Int))) = 8 * ((size : Int) - 1 - (k : Int)) := IntWalk.i64_in _ (by omega)
      have w5 : (0 : Int) ≤ 8 * ((size : Int) - 1 - (k : Int)) := by omega
      have w6 : 8 * ((size : Int) - 1 - (k : Int)) ≤ 64 := by omega
      have HV := Lib.hid (show (n : Int) / 2 ^ (8 * (size - 1 - k)) % 256 = ((UInt8.ofNat (n / 2 ^ (8 * (size - 1 - k)))).toNat : Int) by rw [UInt8.toNat_ofNat']; simp)
      have HST := Lib.hid (numS_step n size k hlt)
      have HBS := Lib.hid (Nat.le_trans HB.out HBW.out.size)
      go_wp2_with (refine wpList_app8 rfl _ _ rfl rfl base _ _ rfl (HA.out.on HBS.out (below1 _ _)) _ [UInt8.ofNat (n / 2 ^ (8 * (size - 1 - k)))] 1 1 rfl rfl (rd0_byte wr 5 _ _ HV.out) (by have := HZ.out; rw [List.length_append, List.length_take, numS_len]; simp; omega) (by have := HBS.out; simp; omega) ?_; intro v3 w3 hA3 hb3; rw [List.append_assoc, ← HST.out] at hA3; have HA3 := Lib.hid hA3; have HB3 := Lib.hid (HBW.out.trans ((below1 _ _).mono HBS.out |>.trans hb3)); clear hA3 hb3)
      go_roundw
      case rel => exact ⟨k + 1, by omega, by go_num, HA3.out, HB3.out⟩
      case measure => simp [intOf]; omega
    · obtain rfl : k = size := by omega
      have hA := HA.out
      rw [List.take_of_length_le (by rw [numS_len]; exact Nat.le_refl _)] at hA
      have HA := Lib.hid hA
      clear hA
      obtain ⟨wq, rfl⟩ : ∃ wq : World, wq = wr := ⟨_, rfl⟩
      go_wp2_with fail
      go_ret
      exact ⟨_, rfl, HA.out, HBW.out⟩
end Go.Proofs.YtooiaadnhglifaaDoor

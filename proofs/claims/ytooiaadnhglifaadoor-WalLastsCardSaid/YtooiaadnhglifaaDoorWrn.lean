/-
  Contract: the reference's Number.
-/
import Derived.Test.YtooiaadnhglifaaDoorWnu
set_option linter.unusedVariables false
set_option linter.unusedSimpArgs false
namespace Go.Proofs.YtooiaadnhglifaaDoor
open Go.RowKit

set_option maxRecDepth 100000 in
set_option maxHeartbeats 1000000 in
theorem refnumber_any (size n : Nat) (w : World) (hs : size ≤ 8) :
    Calls Tryd.prog 25 #[.int .u64 n, .int .i64 size] w fun e w' => ∃ v', e = .returned v' ∧ Acc w' w.heap.size v' (numS n size) ∧ Below w.heap.size w w' := by
  have t1 : IntKind.i64.wrap ((size : Int) - 1) = (size : Int) - 1 := IntWalk.i64_in _ (by omega)
  go_enter Tryd.func25, Tryd.ntmps25
  go_wp2_with fail
  clear t1
  go_loopw [5, 6] (fun v i wr => ∃ k : Nat, k ≤ size ∧ i = .int .i64 ((size : Int) - 1 - (k : Int)) ∧ Acc wr w.heap.size v ((numS n size).take k) ∧ Below w.heap.size w wr) (fun _ i _ => (intOf i + 1).toNat)
  case atStart => exact ⟨0, by omega, by simp, acc_nil, Below.refl _ _⟩
  case round =>
    obtain ⟨k, hk, rfl, hA, hb⟩ := hrel
    have HA := Lib.hid hA
    have HBW := Lib.hid hb
    clear hA hb
    have HBS := Lib.hid HBW.out.size
    by_cases hlt : k < size
    · have w4 : (0 : Int) ≤ (size : Int) - 1 - (k : Int) := by omega
      have s3 : IntKind.i64.wrap (8 * ((size : Int) - 1 - (k : Int))) = 8 * ((size : Int) - 1 - (k : Int)) := IntWalk.i64_in _ (by omega)
      have s4 : IntKind.u64.wrap (8 * ((size : Int) - 1 - (k : Int))) = 8 * ((size : Int) - 1 - (k : Int)) := IntWalk.u64_in _ (by omega)
      have s5 : IntKind.i64.wrap ((size : Int) - 1 - (k : Int) - 1) = (size : Int) - 1 - (k : Int) - 1 := IntWalk.i64_in _ (by omega)
      have w5 : (0 : Int) ≤ 8 * ((size : Int) - 1 - (k : Int)) := by omega
      have w6 : 8 * ((size : Int) - 1 - (k : Int)) ≤ 64 := by omega
      have HV := Lib.hid (show (n : Int) / 2 ^ (8 * (size - 1 - k)) % 256 = ((UInt8.ofNat (n / 2 ^ (8 * (size - 1 - k)))).toNat : Int) by rw [UInt8.toNat_ofNat']; simp)
      have HST := Lib.hid (numS_step n size k hlt)
      go_wp2_with (refine wpList_app8 rfl _ _ rfl rfl w.heap.size _ _ rfl (HA.out.on HBS.out (below1 _ _)) _ [UInt8.ofNat (n / 2 ^ (8 * (size - 1 - k)))] 1 1 rfl rfl (rd0_byte wr 5 _ _ HV.out) (by rw [List.length_take, numS_len]; simp; omega) (by have := HBS.out; simp; omega) ?_; intro v3 w3 hA3 hb3; rw [← HST.out] at hA3; have HA3 := Lib.hid hA3; have HB3 := Lib.hid (HBW.out.trans ((below1 _ _).mono HBS.out |>.trans hb3)); clear hA3 hb3)
      go_roundw
      case rel => exact ⟨k + 1, by omega, by congr 1; omega, HA3.out, HB3.out⟩
      case measure => simp [intOf]; omega
    · obtain rfl : k = size := by omega
      have w4 : (k : Int) - 1 - (k : Int) < 0 := by omega
      have hA := HA.out
      rw [List.take_of_length_le (by rw [numS_len]; exact Nat.le_refl _)] at hA
      have HA := Lib.hid hA
      clear hA
      obtain ⟨wq, rfl⟩ : ∃ wq : World, wq = wr := ⟨_, rfl⟩
      go_wp2_with fail
      go_ret
      exact ⟨_, rfl, HA.out, HBW.out⟩
end Go.Proofs.YtooiaadnhglifaaDoor

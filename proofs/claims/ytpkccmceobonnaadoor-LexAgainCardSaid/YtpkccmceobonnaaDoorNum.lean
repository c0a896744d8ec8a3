/-
  Contract: the reference's Number writes the decimal numeral.
-/
import Derived.Test.YtpkccmceobonnaaDoorBack
import Derived.RegionTactic
import Derived.Deep.RegionHeld3
import Derived.Laws.BytesString
namespace Go.Proofs.YtpkccmceobonnaaDoor
open Go.RowKit

/-- what is written so far, of N, where n is still to be written -/
def dByte (k : Nat) : UInt8 := UInt8.ofNat (48 + k % 10)
def NumTo (N n : Nat) (out : ByteArray) : Prop := Lib.decDigits N = Lib.decDigits n ++ out.data.toList

theorem dByte_nat (k : Nat) : (((dByte k).toNat : Nat) : Int) = 48 + (k : Int) % 10 := by unfold dByte; rw [UInt8.toNat_ofNat']; omega
theorem numTo_size (N k : Nat) (out : ByteArray) (h : NumTo N k out) (hN : N ≤ 9223372036854775807) : out.size ≤ 30 := by
  have e : (10 : Nat) ^ (19 + 1) = 100000000000000000000 := by decide
  have h1 := dec_len 19 N (by omega)
  unfold NumTo at h
  rw [h, List.length_append] at h1
  have : out.size = out.data.toList.length := by simp
  omega
theorem num_last (N k : Nat) (out : ByteArray) (h : NumTo N k out) (hk : k < 10) : ((⟨#[dByte k]⟩ : ByteArray) ++ out).data.toList = Lib.decDigits N := by
  unfold NumTo at h
  rw [h, Lib.decDigits, dif_pos hk]
  have e : dByte k = UInt8.ofNat (48 + k) := by unfold dByte; rw [Nat.mod_eq_of_lt hk]
  rw [e, ByteArray.data_append]; simp
theorem num_more (N k : Nat) (out : ByteArray) (h : NumTo N k out) (hk : ¬ k < 10) : NumTo N (k / 10) ((⟨#[dByte k]⟩ : ByteArray) ++ out) := by
  unfold NumTo at *
  rw [h]
  conv => lhs; rw [Lib.decDigits, dif_neg hk]
  rw [ByteArray.data_append]; simp [dByte]

set_option maxHeartbeats 2000000 in
set_option maxRecDepth 100000 in
theorem number_pos (n : Int) (w : World) (h0 : 0 ≤ n) (h1 : n ≤ 9223372036854775807) :
    Calls Tryd.prog 27 #[.int .i64 n] w fun e w' => e = .returned (.string ⟨(Lib.decDigits n.toNat).toArray⟩) ∧ Below w.heap.size w w' := by
  obtain ⟨N, rfl⟩ := Int.eq_ofNat_of_zero_le h0
  have g0 : (((N : Nat) : Int) == -9223372036854775808) = false := by rw [beq_eq_false_iff_ne]; omega
  have g1 : ¬ ((N : Nat) : Int) < 0 := by omega
  go_enter Tryd.func27, Tryd.ntmps27
  go_wp2_with fail
  go_loopw [0, 3, 4] (fun a o g wr => ∃ (k : Nat) (out : ByteArray), a = .int .i64 k ∧ o = .string out ∧ k ≤ N ∧ Below w.heap.size w wr ∧ ((g = .bool true ∧ NumTo N k out) ∨ (g = .bool false ∧ k = 0 ∧ out.data.toList = Lib.decDigits N))) (fun a _ g _ => (intOf a).toNat + (match g with | .bool true => 1 | _ => 0))
  case atStart => exact ⟨N, ⟨#[]⟩, rfl, rfl, Nat.le_refl _, Below.refl _ _, .inl ⟨rfl, by unfold NumTo; simp⟩⟩
  case round =>
    obtain ⟨k, out, rfl, rfl, hk, hb, hg⟩ := hrel
    have HB := Lib.hid hb
    rcases hg with ⟨rfl, hn⟩ | ⟨rfl, hk0, hd⟩
    · have HN := Lib.hid hn
      clear hn hb
      have k0 : (0 : Int) ≤ (k : Int) := by omega
      have k1 : (k : Int) ≤ 9223372036854775807 := by omega
      have hcv : (convert 53 9 (.slice (some ⟨wr.heap.size, 0, none⟩) 1 1)).run Tryd.prog (wr.alloc (.cells #[.int .u8 (48 + (k : Int) % 10)] 5)) = .ok (.string ⟨#[dByte k]⟩) (wr.alloc (.cells #[.int .u8 (48 + (k : Int) % 10)] 5)) :=
        run_convert_bytes_back _ 53 9 5 ⟨wr.heap.size, 0, none⟩ 1 [dByte k] Tryd.underlying53 Tryd.underlying5 Tryd.underlying9 (fun j hj => by
          obtain rfl : j = 0 := by simp at hj; exact hj
          rw [Addr.add_lit]
          show _ = some (Value.int .u8 ((dByte k).toNat : Int))
          rw [dByte_nat]
          simp [go_sem])
      have hos := numTo_size N k out HN.out (by omega)
      by_cases hk9 : k < 10
      · have q1 : ¬ (0 : Int) < (k : Int) / 10 := by omega
        have HL := Lib.hid (num_last N k out HN.out hk9)
        go_wp2_with fail
        refine ⟨⟨0, ⟨#[dByte k]⟩ ++ out, by congr 1; omega, rfl, Nat.zero_le _, HB.out.alloc HB.out.size _, .inr ⟨rfl, rfl, HL.out⟩⟩, by simp [intOf]; omega⟩
      · have q1 : (0 : Int) < (k : Int) / 10 := by omega
        have HL := Lib.hid (num_more N k out HN.out hk9)
        go_wp2_with fail
        refine ⟨⟨k / 10, ⟨#[dByte k]⟩ ++ out, by go_num, rfl, by omega, HB.out.alloc HB.out.size _, .inl ⟨rfl, HL.out⟩⟩, by simp [intOf]; omega⟩
    · have HD := Lib.hid hd
      subst hk0
      clear hd hb
      go_wp2_with fail
      go_ret
      refine ⟨?_, HB.out⟩
      rw [show (((N : Nat) : Int)).toNat = N from rfl, ← HD.out]
      rfl
end Go.Proofs.YtpkccmceobonnaaDoor

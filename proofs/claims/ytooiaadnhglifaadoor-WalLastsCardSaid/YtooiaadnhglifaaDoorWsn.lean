/-
  Contracts: wal.number and the reference's number.
-/
import Derived.Test.YtooiaadnhglifaaDoorWen
set_option linter.unusedVariables false
set_option linter.unusedSimpArgs false
namespace Go.Proofs.YtooiaadnhglifaaDoor
open Go.RowKit

/-- the number that bytes are, the highest first -/
def beS (l : List UInt8) : Nat := l.foldl (fun n c => n * 256 + c.toNat) 0
theorem beS_lt_aux : ∀ (l : List UInt8) (a : Nat), l.foldl (fun n c => n * 256 + c.toNat) a < (a + 1) * 256 ^ l.length
  | [], a => by simp
  | c :: r, a => by
    have := beS_lt_aux r (a * 256 + c.toNat)
    have hc := u8_lt c
    simp only [List.foldl_cons, List.length_cons]
    refine Nat.lt_of_lt_of_le this ?_
    rw [Nat.pow_succ', ← Nat.mul_assoc]
    exact Nat.mul_le_mul_right _ (by omega)
theorem beS_lt (l : List UInt8) : beS l < 256 ^ l.length := by unfold beS; simpa using beS_lt_aux l 0
theorem beS_take (l : List UInt8) (k : Nat) (h : k < l.length) : beS (l.take (k + 1)) = beS (l.take k) * 256 + l[k].toNat := by
  rw [List.take_succ_eq_append_getElem h, beS, List.foldl_append]; rfl
theorem beS_lt8 (l : List UInt8) (h : l.length ≤ 8) : beS l < 18446744073709551616 := by
  have := beS_lt l
  have h2 : 256 ^ l.length ≤ 256 ^ 8 := Nat.pow_le_pow_right (by decide) h
  omega
theorem beS_lt7 (l : List UInt8) (k : Nat) (h : l.length ≤ 8) (hk : k < l.length) : beS (l.take k) < 72057594037927936 := by
  have := beS_lt (l.take k)
  have h2 : 256 ^ (l.take k).length ≤ 256 ^ 7 := Nat.pow_le_pow_right (by decide) (by rw [List.length_take]; omega)
  omega

theorem or_step (n c : Nat) (hn : n < 72057594037927936) (hc : c < 256) : bits .or .u64 ((n : Int) * 256) (c : Int) = (n : Int) * 256 + (c : Int) := by
  have e1 := Nat.two_pow_add_eq_or_of_lt (i := 8) (b := c) (by omega) n
  have e0 : (n : Int) * 256 = ((n * 256 : Nat) : Int) := by simp
  rw [e0, u64_or_nat _ _ (by omega) (by omega), show n * 256 = 2 ^ 8 * n by omega, ← e1]; simp
set_option maxRecDepth 100000 in
set_option maxHeartbeats 1000000 in
theorem refnum_any (q : Option Addr) (n c size : Nat) (m : List UInt8) (hn : n = m.length) (w : World) (hm : Rd0 w q m) (h8 : size ≤ 8) (hl : size ≤ m.length) :
    Calls Tryd.prog 51 #[.slice q n c, .int .i64 size] w fun e w' => e = .returned (.int .u64 (beS (m.take size))) ∧ w = w' := by
  subst hn
  have HM := Lib.hid hm
  clear hm
  go_enter Tryd.func51, Tryd.ntmps51
  go_wp2_with fail
  go_loopw [5, 6] (fun v i wr => ∃ k : Nat, k ≤ size ∧ i = .int .i64 k ∧ v = .int .u64 (beS (m.take k)) ∧ w = wr) (fun _ i _ => size - (intOf i).toNat)
  case atStart => exact ⟨0, by omega, rfl, rfl, rfl⟩
  case round =>
    obtain ⟨k, hk, rfl, rfl, rfl⟩ := hrel
    have w3 : (0 : Int) ≤ (k : Int) := by omega
    by_cases hlt : k < size
    · have w4 : (k : Int) < (size : Int) := by omega
      have hkm : k < m.length := by omega
      obtain ⟨b, off, rfl, hbl, hc0⟩ : ∃ b off, q = some ⟨b, off, none⟩ ∧ b < w.heap.size ∧ w.cell? ⟨b, off + k, none⟩ = some (B8 m[k]) := by
        rcases HM.out with h | ⟨b, off, h1, h2, h3⟩
        · subst h; simp at hkm
        · exact ⟨b, off, h1, h2, h3 k _ (by simp [cells8, List.getElem?_eq_getElem hkm])⟩
      have w5 : (k : Int) < (m.length : Int) := by omega
      have HT := Lib.hid (beS_take m k hkm)
      have hlt7 : beS (m.take k) < 72057594037927936 := by
        have := beS_lt7 (m.take size) k (by rw [List.length_take]; omega) (by rw [List.length_take]; omega)
        rwa [List.take_take, Nat.min_eq_left (by omega)] at this
      have hy := u8_lt m[k]
      generalize m[k] = y at *
      generalize beS (m.take k) = N at *
      have s1 : IntKind.u64.wrap ((N : Int) * 256) = (N : Int) * 256 := IntWalk.u64_in _ (by omega)
      have s2 : IntKind.u64.wrap (y.toNat : Int) = (y.toNat : Int) := IntWalk.u64_in _ (by omega)
      have s3 : IntKind.u64.wrap ((N : Int) * 256 + (y.toNat : Int)) = (N : Int) * 256 + (y.toNat : Int) := IntWalk.u64_in _ (by omega)
      go_wp2_with fail
      go_roundw
      case rel => exact ⟨k + 1, by omega, by go_num, by rw [HT.out]; simp, trivial⟩
      case measure => simp [intOf]; omega
    · obtain rfl : k = size := by omega
      go_wp2_with fail
      go_ret
      exact ⟨rfl, rfl⟩

set_option maxRecDepth 100000 in
set_option maxHeartbeats 1000000 in
theorem num_any (q : Option Addr) (n c : Nat) (m : List UInt8) (hn : n = m.length) (w : World) (hm : Rd0 w q m) (h8 : m.length ≤ 8) :
    Calls Tryd.prog 28 #[.slice q n c] w fun e w' => e = .returned (.int .u64 (beS m)) ∧ w = w' := by
  subst hn
  have HM := Lib.hid hm
  clear hm
  go_enter Tryd.func28, Tryd.ntmps28
  go_wp2_with fail
  go_loopw [3, 8] (fun v i wr => ∃ k : Nat, k ≤ m.length ∧ i = .int .i64 k ∧ v = .int .u64 (beS (m.take k)) ∧ w = wr) (fun _ i _ => m.length - (intOf i).toNat)
  case atStart => exact ⟨0, by omega, rfl, rfl, rfl⟩
  case round =>
    obtain ⟨k, hk, rfl, rfl, rfl⟩ := hrel
    have w3 : (0 : Int) ≤ (k : Int) := by omega
    by_cases hkm : k < m.length
    · have w5 : (k : Int) < (m.length : Int) := by omega
      obtain ⟨b, off, rfl, hbl, hc0⟩ : ∃ b off, q = some ⟨b, off, none⟩ ∧ b < w.heap.size ∧ w.cell? ⟨b, off + k, none⟩ = some (B8 m[k]) := by
        rcases HM.out with h | ⟨b, off, h1, h2, h3⟩
        · subst h; simp at hkm
        · exact ⟨b, off, h1, h2, h3 k _ (by simp [cells8, List.getElem?_eq_getElem hkm])⟩
      have HT := Lib.hid (beS_take m k hkm)
      have hlt7 := beS_lt7 m k h8 hkm
      have hy := u8_lt m[k]
      generalize m[k] = y at *
      generalize beS (m.take k) = N at *
      have s1 : IntKind.u64.wrap ((N : Int) * 256) = (N : Int) * 256 := IntWalk.u64_in _ (by omega)
      have s2 : IntKind.u64.wrap (y.toNat : Int) = (y.toNat : Int) := IntWalk.u64_in _ (by omega)
      have s3 : IntKind.u64.wrap ((N : Int) * 256 + (y.toNat : Int)) = (N : Int) * 256 + (y.toNat : Int) := IntWalk.u64_in _ (by omega)
      have s4 : bits .or .u64 ((N : Int) * 256) (y.toNat : Int) = (N : Int) * 256 + (y.toNat : Int) := or_step N y.toNat (by omega) hy
      go_wp2_with fail
      go_roundw
      case rel => exact ⟨k + 1, by omega, by go_num, by rw [HT.out]; simp, trivial⟩
      case measure => simp [intOf]; omega
    · obtain rfl : k = m.length := by omega
      have HL := Lib.hid (show beS (m.take m.length) = beS m by rw [List.take_length])
      go_wp2_with fail
      go_ret
      exact ⟨by rw [← HL.out]; rfl, rfl⟩
end Go.Proofs.YtooiaadnhglifaaDoor

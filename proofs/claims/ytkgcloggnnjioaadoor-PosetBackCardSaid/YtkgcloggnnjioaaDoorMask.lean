/-
  Masks: the small functions on them.
-/
import Derived.Test.YtkgcloggnnjioaaDoorRows
import Derived.WalkKit
import Derived.WalkSpells
import Derived.WalkLawsBesides
import Derived.Laws.Bits64b
namespace Go.Proofs.YtkgcloggnnjioaaDoor
open Go.RowKit

/-- a mask of 64 bits -/
def mask (m : Nat) : Value := .int .u64 m
theorem lt_pow64 {a : Nat} (h : a < 64) : 2 ^ a < 18446744073709551616 := Nat.pow_lt_pow_right (by decide) h
theorem wrap_bit {a : Nat} (h : a < 64) : IntKind.u64.wrap (2 ^ a) = ((2 ^ a : Nat) : Int) := by
  have := lt_pow64 h
  have e : (2 : Int) ^ a = ((2 ^ a : Nat) : Int) := by simp
  rw [e]
  generalize 2 ^ a = x at *
  rw [IntKind.wrap_u64]
  omega
theorem and_bit (m a : Nat) : (m &&& 2 ^ a ≠ 0) ↔ m.testBit a = true := by
  constructor
  · intro h
    apply Classical.byContradiction
    intro hc
    apply h
    apply Nat.eq_of_testBit_eq
    intro i
    rw [Nat.testBit_and, Nat.testBit_two_pow, Nat.zero_testBit]
    by_cases e : a = i
    · subst e; simp_all
    · simp [e]
  · intro h hc
    have := congrArg (fun x => Nat.testBit x a) hc
    simp [Nat.testBit_and, h] at this

set_option maxHeartbeats 400000 in
theorem among_any (n a : Int) (w : World) : Calls Tryd.prog 30 #[.int .i64 n, .int .i64 a] w fun e w' => e = .returned (.bool (decide (0 ≤ a ∧ a < n))) ∧ w' = w := by
  by_cases h : 0 ≤ a
  · go_enter Tryd.func30, Tryd.ntmps30
    go_wp2
    go_ret
    exact ⟨by simp [h], rfl⟩
  · go_enter Tryd.func30, Tryd.ntmps30
    go_wp2
    go_ret
    exact ⟨by simp; omega, rfl⟩

set_option maxHeartbeats 400000 in
theorem bit_any (a : Nat) (h : a < 64) (w : World) : Calls Tryd.prog 37 #[.int .i64 a] w fun e w' => e = .returned (mask (2 ^ a)) ∧ w' = w := by
  go_enter Tryd.func37, Tryd.ntmps37
  go_wp2
  go_ret
  exact ⟨by rw [wrap_bit h]; rfl, rfl⟩

theorem has_val {m a : Nat} (hm : m < 18446744073709551616) (h : a < 64) : (bits .and .u64 (m : Int) (IntKind.u64.wrap (2 ^ a)) != 0) = m.testBit a := by
  rw [wrap_bit h, bits_and_u64_nat _ _ hm (lt_pow64 h)]
  by_cases ht : m.testBit a = true
  · rw [ht]
    have := (and_bit m a).2 ht
    simp only [bne_iff_ne, ne_eq]
    omega
  · have ht' : m.testBit a = false := by simpa using ht
    rw [ht']
    have : m &&& 2 ^ a = 0 := Classical.byContradiction fun hc => ht ((and_bit m a).1 hc)
    rw [this]; rfl

set_option maxHeartbeats 400000 in
theorem has_any (m a : Nat) (hm : m < 18446744073709551616) (h : a < 64) (w : World) : Calls Tryd.prog 33 #[mask m, .int .i64 a] w fun e w' => e = .returned (.bool (m.testBit a)) ∧ w' = w := by
  unfold mask
  go_enter Tryd.func33, Tryd.ntmps33
  go_wp2
  go_ret
  exact ⟨by rw [has_val hm h]; rfl, rfl⟩

theorem Bit_val {m a : Nat} (hm : m < 18446744073709551616) : (bits .and .u64 ((m : Int) / 2 ^ a) 1 == 1) = m.testBit a := by
  have e : (m : Int) / 2 ^ a = ((m / 2 ^ a : Nat) : Int) := by simp
  have hl : m / 2 ^ a < 18446744073709551616 := Nat.lt_of_le_of_lt (Nat.div_le_self _ _) hm
  have := bits_and_u64_nat (m / 2 ^ a) 1 hl (by omega)
  rw [e]
  rw [show ((1 : Nat) : Int) = 1 from rfl] at this
  rw [this]
  rw [Nat.testBit, Nat.shiftRight_eq_div_pow, Nat.and_comm]
  rw [Nat.one_and_eq_mod_two]
  rcases Nat.mod_two_eq_zero_or_one (m / 2 ^ a) with h | h <;> rw [h] <;> rfl

set_option maxHeartbeats 400000 in
theorem Bit_any (m a : Nat) (hm : m < 18446744073709551616) (h : a < 64) (w : World) : Calls Tryd.prog 29 #[mask m, .int .i64 a] w fun e w' => e = .returned (.bool (m.testBit a)) ∧ w' = w := by
  unfold mask
  go_enter Tryd.func29, Tryd.ntmps29
  go_wp2
  go_ret
  exact ⟨by rw [Bit_val hm]; rfl, rfl⟩

set_option maxHeartbeats 400000 in
theorem Bit_out (m : Nat) (a : Int) (h : a < 0 ∨ 64 ≤ a) (w : World) : Calls Tryd.prog 29 #[mask m, .int .i64 a] w fun e w' => e = .returned (.bool false) ∧ w' = w := by
  unfold mask
  rcases h with h | h
  · have h0 : decide (0 ≤ a) = false := by simp; omega
    clear h
    go_enter Tryd.func29, Tryd.ntmps29
    go_wp2
    go_ret
    exact ⟨rfl, rfl⟩
  · have h0 : 0 ≤ a := by omega
    have h1 : decide (a < 64) = false := by simp; omega
    clear h
    go_enter Tryd.func29, Tryd.ntmps29
    go_wp2
    go_ret
    exact ⟨rfl, rfl⟩

set_option maxHeartbeats 400000 in
theorem Set_any (m a : Nat) (hm : m < 18446744073709551616) (h : a < 64) (w : World) : Calls Tryd.prog 32 #[mask m, .int .i64 a] w fun e w' => e = .returned (mask (m ||| 2 ^ a)) ∧ w' = w := by
  unfold mask
  go_enter Tryd.func32, Tryd.ntmps32
  go_wp2
  go_ret
  exact ⟨by rw [wrap_bit h, bits_or_u64_nat _ _ hm (lt_pow64 h)]; rfl, rfl⟩
end Go.Proofs.YtkgcloggnnjioaaDoor

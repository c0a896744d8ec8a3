/-
  Plain mathematics: a decimal numeral is read back as the number. Nothing of the program.
-/
import Derived.Lib.ParseIntB
import Derived.Lib.ItoaNum
namespace Go.Proofs.YtpkccmceobonnaaDoor
open Go.Lib

theorem dec_byte (d : Nat) (h : d < 10) : (UInt8.ofNat (48 + d)).toNat = 48 + d := by
  rw [UInt8.toNat_ofNat']; omega
theorem parse_dec (M : Nat) (hM : M ≤ 18446744073709551615) (u : Nat) : u ≤ M → ∀ r, parseUintM M 0 (decDigits u ++ r) = parseUintM M u r := by
  induction u using Nat.strongRecOn with
  | ind u ih =>
    intro hu r
    by_cases h : u < 10
    · rw [decDigits, dif_pos h, List.cons_append, List.nil_append, parseUintM, dec_byte u h, if_pos (by omega), if_neg (by omega), if_neg (by omega)]
      congr 1; omega
    · rw [decDigits, dif_neg h, List.append_assoc, ih (u / 10) (by omega) (by omega), List.cons_append, List.nil_append, parseUintM, dec_byte (u % 10) (by omega), if_pos (by omega), if_neg (by omega), if_neg (by omega)]
      congr 1; omega
theorem dec_head (u : Nat) : ∃ c r, decDigits u = c :: r ∧ 48 ≤ c.toNat ∧ c.toNat ≤ 57 := by
  induction u using Nat.strongRecOn with
  | ind u ih =>
    by_cases h : u < 10
    · exact ⟨_, [], by rw [decDigits, dif_pos h], by rw [dec_byte u h]; omega, by rw [dec_byte u h]; omega⟩
    · obtain ⟨c, r, e, h1, h2⟩ := ih (u / 10) (by omega)
      exact ⟨c, _, by rw [decDigits, dif_neg h, e]; rfl, h1, h2⟩
theorem parse_all (u : Nat) (hu : u ≤ 18446744073709551615) : parseUintB 64 (decDigits u) = .ok u := by
  obtain ⟨c, r, e, _, _⟩ := dec_head u
  have e64 : (2 : Nat) ^ 64 - 1 = 18446744073709551615 := by decide
  unfold parseUintB
  rw [if_neg (by rw [e]; exact List.cons_ne_nil _ _), e64]
  have := parse_dec 18446744073709551615 (Nat.le_refl _) u hu []
  rw [List.append_nil] at this
  rw [this, parseUintM]
theorem e63 : (2 : Nat) ^ (64 - 1) = 9223372036854775808 := by decide
/-- A number's text is read as the number. -/
theorem parse_itoa (n : Int) (h0 : -9223372036854775808 ≤ n) (h1 : n ≤ 9223372036854775807) : parseIntB 64 (itoa n) = .ok n := by
  unfold itoa
  by_cases hn : n < 0
  · rw [if_pos hn]
    unfold parseIntB
    have h45 : (45 : UInt8).toNat = 45 := rfl
    simp only [h45, if_true, or_true]
    rw [parse_all n.natAbs (by omega)]
    simp only [not_true, false_and, if_false, true_and, e63]
    rw [if_neg (by omega)]
    congr 1; omega
  · rw [if_neg hn]
    obtain ⟨c, r, e, hc1, hc2⟩ := dec_head n.toNat
    unfold parseIntB
    rw [e]
    have g1 : ¬ (c.toNat = 43 ∨ c.toNat = 45) := by omega
    have g2 : ¬ c.toNat = 45 := by omega
    simp only [g1, if_false]
    rw [← e, parse_all n.toNat (by omega)]
    simp only [g2, not_false_eq_true, true_and, false_and, if_false, e63]
    rw [if_neg (by omega)]
    congr 1; omega
theorem itoa_head (n : Int) : ∃ c r, itoa n = c :: r ∧ c.toNat ≤ 57 := by
  unfold itoa
  by_cases hn : n < 0
  · exact ⟨45, _, by rw [if_pos hn], by decide⟩
  · obtain ⟨c, r, e, _, h⟩ := dec_head n.toNat
    exact ⟨c, r, by rw [if_neg hn, e], h⟩
end Go.Proofs.YtpkccmceobonnaaDoor

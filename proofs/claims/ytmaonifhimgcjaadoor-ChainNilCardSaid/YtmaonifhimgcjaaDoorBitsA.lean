/-
  Plain: a mask's bits, rising; the lowest one taken away.
-/
import Derived.Lib.TrailingZeros
namespace Go.Proofs.YtmaonifhimgcjaaDoor

def bitsOf (m : Nat) : List Nat := (List.range 64).filter fun i => m.testBit i
theorem mem_bitsOf {m i : Nat} : i ∈ bitsOf m ↔ i < 64 ∧ m.testBit i = true := by unfold bitsOf; simp
theorem bitsOf_zero : bitsOf 0 = [] := by unfold bitsOf; simp
theorem bitsOf_len (m : Nat) : (bitsOf m).length ≤ 64 := by
  unfold bitsOf; have := List.length_filter_le (fun i => m.testBit i) (List.range 64); simpa using this
theorem filter_first (q : Nat → Bool) (t : Nat) (hq : ∀ i, i ≤ t → q i = false) : ∀ n, t < n → (List.range n).filter (fun i => i == t || q i) = t :: (List.range n).filter q := by
  have hnone : ∀ n, n ≤ t → (List.range n).filter (fun i => i == t || q i) = [] := fun n hn => by
    rw [List.filter_eq_nil_iff]
    intro i hi
    have hi := List.mem_range.1 hi
    have h1 : (i == t) = false := by rw [beq_eq_false_iff_ne]; omega
    simp [h1, hq i (by omega)]
  have hnone2 : ∀ n, n ≤ t + 1 → (List.range n).filter q = [] := fun n hn => by
    rw [List.filter_eq_nil_iff]
    intro i hi
    have hi := List.mem_range.1 hi
    simp [hq i (by omega)]
  intro n
  induction n with
  | zero => intro h; omega
  | succ n ih =>
    intro h
    rw [List.range_succ, List.filter_append, List.filter_append]
    by_cases e : n = t
    · subst e
      rw [hnone n (Nat.le_refl _), hnone2 n (by omega)]
      simp [hq n (Nat.le_refl _)]
    · rw [ih (by omega)]
      have h1 : (n == t) = false := by rw [beq_eq_false_iff_ne]; exact e
      simp [List.filter_cons, h1]
theorem low_form (r : Nat) (h0 : r ≠ 0) (h : r < 18446744073709551616) : ∃ q, r = 2 ^ Lib.ctz 64 r * (2 * q + 1) ∧ Lib.ctz 64 r < 64 := by
  have := Lib.ctzFrom_spec 64 r (by omega) (by simpa using h)
  unfold Lib.ctz
  rw [if_neg h0]
  exact this
theorem testBit_form (t q i : Nat) : (2 ^ t * (2 * q + 1)).testBit i = (i == t || (decide (t < i) && q.testBit (i - t - 1))) := by
  rw [Nat.mul_comm, Nat.testBit_mul_two_pow]
  by_cases h1 : i = t
  · subst h1; simp [Nat.testBit_zero]
  · by_cases h2 : t < i
    · obtain ⟨j, rfl⟩ : ∃ j, i = t + (j + 1) := ⟨i - t - 1, by omega⟩
      have e3 : t + (j + 1) - t = j + 1 := by omega
      rw [e3, Nat.testBit_succ, show (2 * q + 1) / 2 = q by omega]
      simp
    · have : ¬ t ≤ i := by omega
      simp [this, h2]; omega
theorem testBit_pred (t q i : Nat) : (2 ^ t * (2 * q + 1) - 1).testBit i = (decide (i < t) || (decide (t < i) && q.testBit (i - t - 1))) := by
  have hp : 0 < 2 ^ t := Nat.pow_pos (by decide)
  have e : 2 ^ t * (2 * q + 1) - 1 = 2 ^ t * (2 * q) + (2 ^ t - 1) := by rw [Nat.mul_add, Nat.mul_one]; omega
  rw [e, Nat.testBit_two_pow_mul_add _ (by omega)]
  by_cases h1 : i < t
  · simp [h1]
  · rw [if_neg h1]
    by_cases h2 : i = t
    · subst h2; simp [Nat.testBit_zero]
    · obtain ⟨j, rfl⟩ : ∃ j, i = t + (j + 1) := ⟨i - t - 1, by omega⟩
      have e3 : t + (j + 1) - t = j + 1 := by omega
      rw [e3, Nat.testBit_succ, show 2 * q / 2 = q by omega]
      have h3 : ¬ t + (j + 1) < t := by omega
      have h4 : t < t + (j + 1) := by omega
      have e5 : t + (j + 1) - t - 1 = j := by omega
      simp only [h3, h4, Nat.add_sub_cancel, decide_true, decide_false, Bool.true_and, Bool.false_or]
/-- a mask without its lowest bit -/
def clr (r : Nat) : Nat := r &&& (r - 1)
theorem clr_le (r : Nat) : clr r ≤ r := Nat.and_le_left
theorem bitsOf_cons (r : Nat) (h0 : r ≠ 0) (h : r < 18446744073709551616) : bitsOf r = Lib.ctz 64 r :: bitsOf (clr r) := by
  obtain ⟨q, hq, ht⟩ := low_form r h0 h
  generalize Lib.ctz 64 r = t at *
  have hc : ∀ i, (clr r).testBit i = (decide (t < i) && q.testBit (i - t - 1)) := fun i => by
    unfold clr
    rw [Nat.testBit_and, hq, testBit_form, testBit_pred]
    by_cases h1 : i = t
    · subst h1; simp
    · by_cases h2 : t < i
      · have : ¬ i < t := by omega
        simp [h1, h2, this]
      · have h3 : i < t := by omega
        simp [h1, h2]
  have hr : ∀ i, r.testBit i = (i == t || (clr r).testBit i) := fun i => by rw [hc, hq, testBit_form]
  unfold bitsOf
  rw [show (fun i => r.testBit i) = fun i => (i == t || (clr r).testBit i) from funext hr]
  exact filter_first (fun i => (clr r).testBit i) t (fun i hi => by rw [hc]; simp; omega) 64 ht
theorem bitsOf_ne {r : Nat} (h0 : r ≠ 0) (h : r < 18446744073709551616) : bitsOf r ≠ [] := by rw [bitsOf_cons r h0 h]; simp
end Go.Proofs.YtmaonifhimgcjaaDoor

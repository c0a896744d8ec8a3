/-
  Plain: what the law on orders asks.
-/
import Derived.Test.YtkgcloggnnjioaaDoorRefJ
namespace Go.Proofs.YtkgcloggnnjioaaDoor
open Go.RowKit

theorem at_trans {ms : List Nat} {a b c : Int} (h1 : atB ms a b = true) (h2 : atB ms b c = true) : atB ms a c = true := by
  obtain ⟨ho, i, j, rfl, rfl, hi, hj, hij⟩ := atB_out h1
  obtain ⟨_, j', k, e, rfl, _, hk, hjk⟩ := atB_out h2
  obtain rfl : j = j' := by omega
  rw [atB_nat ho hi hk]
  exact ord_trans ho hij hjk
theorem at_anti {ms : List Nat} {a b : Int} (h1 : atB ms a b = true) (h2 : atB ms b a = true) : a = b := by
  obtain ⟨ho, i, j, rfl, rfl, hi, hj, hij⟩ := atB_out h1
  obtain ⟨_, j', i', e, e', _, _, hji⟩ := atB_out h2
  obtain rfl : j = j' := by omega
  obtain rfl : i = i' := by omega
  rw [ord_anti ho hij hji]
theorem above_bit (ms : List Nat) (hs : Small ms) (a : Int) (b : Nat) : (aboveM ms a).testBit b = atB ms a b := by
  rw [above_gen ms hs, testBit_genK]
  by_cases hb : b < ms.length
  · simp [hb]
  · simp only [hb, decide_false, Bool.false_and]
    cases h : atB ms a b with
    | false => rfl
    | true =>
      obtain ⟨_, i, j, _, e, _, hj, _⟩ := atB_out h
      omega
theorem below_bit (ms : List Nat) (a : Nat) (b : Int) : (belowM ms b).testBit a = atB ms a b := by
  rw [below_gen, testBit_genK]
  by_cases hb : a < ms.length
  · simp [hb]
  · simp only [hb, decide_false, Bool.false_and]
    cases h : atB ms a b with
    | false => rfl
    | true =>
      obtain ⟨_, i, j, e, _, hi, _, _⟩ := atB_out h
      omega
theorem above_lt (ms : List Nat) (hs : Small ms) (a : Int) : aboveM ms a < 18446744073709551616 := by
  rw [above_gen ms hs]; exact genK_any (n := ms.length) (fun k hk => at_len hk) _ (Nat.le_refl _)
theorem below_lt (ms : List Nat) (a : Int) : belowM ms a < 18446744073709551616 := by
  rw [below_gen]; exact genK_any (n := ms.length) (fun k hk => at_len hk) _ (Nat.le_refl _)
theorem join_facts {ms : List Nat} {a b : Int} {k : Nat} (h : joinR ms a b = some k) : atB ms a k = true ∧ atB ms b k = true ∧ ∀ c, atB ms a c = true → atB ms b c = true → atB ms k c = true := by
  have hl : labelsB ms [a, b] = true := by
    unfold joinR at h
    split at h
    · assumption
    · cases h
  obtain ⟨i, rfl, hi⟩ := labelsB_in hl (a := a) (by simp)
  obtain ⟨j, rfl, hj⟩ := labelsB_in hl (a := b) (by simp)
  have ho := labelsB_ord hl
  rw [joinR_find ho hi hj] at h
  have hok := List.find?_some h
  have hk := List.mem_range.1 (List.mem_of_find?_eq_some h)
  unfold okK bt at hok
  rw [Bool.and_eq_true, Bool.and_eq_true, List.all_eq_true] at hok
  rw [atB_nat ho hi hk, atB_nat ho hj hk]
  refine ⟨hok.1.1, hok.1.2, fun c h1 h2 => ?_⟩
  obtain ⟨_, i', c', e1, rfl, _, hc, hic⟩ := atB_out h1
  obtain ⟨_, j', c2, e2, e3, _, _, hjc⟩ := atB_out h2
  obtain rfl : i = i' := by omega
  obtain rfl : j = j' := by omega
  obtain rfl : c' = c2 := by omega
  rw [atB_nat ho hk hc]
  have := hok.2 c' (List.mem_range.2 hc)
  unfold has at hic hjc
  rw [hic, hjc] at this
  simpa using this
end Go.Proofs.YtkgcloggnnjioaaDoor

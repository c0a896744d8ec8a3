/-
  Plain: orders as lists of masks, and what the code asks of each label.
-/
import Derived.Test.YtkgcloggnnjioaaDoorBitsA
namespace Go.Proofs.YtkgcloggnnjioaaDoor

def Small (ms : List Nat) : Prop := ∀ m ∈ ms, m < 18446744073709551616
theorem Small.at {ms : List Nat} (h : Small ms) {a : Nat} (ha : a < ms.length) : ms[a] < 18446744073709551616 := h _ (List.getElem_mem ha)
theorem small_getD {ms : List Nat} (h : Small ms) (a : Nat) : ms.getD a 0 < 18446744073709551616 := by
  rw [List.getD_eq_getElem?_getD]
  by_cases ha : a < ms.length
  · rw [List.getElem?_eq_getElem ha]; exact h.at ha
  · rw [List.getElem?_eq_none (by omega)]; decide
theorem getD_at {ms : List Nat} {a : Nat} (ha : a < ms.length) : ms.getD a 0 = ms[a] := by
  rw [List.getD_eq_getElem?_getD, List.getElem?_eq_getElem ha]; rfl
/-- a and not b -/
def andn (a b : Nat) : Nat := a &&& (18446744073709551615 - b)
theorem bit_lt {m i : Nat} (hm : m < 18446744073709551616) (h : m.testBit i = true) : i < 64 := by
  apply Classical.byContradiction
  intro hc
  have : m < 2 ^ i := Nat.lt_of_lt_of_le hm (by rw [show (18446744073709551616 : Nat) = 2 ^ 64 from rfl]; exact Nat.pow_le_pow_right (by decide) (by omega))
  rw [Nat.testBit_lt_two_pow this] at h; cases h
theorem testBit_andn (a b i : Nat) (ha : a < 18446744073709551616) (hb : b < 18446744073709551616) : (andn a b).testBit i = (a.testBit i && !b.testBit i) := by
  unfold andn
  rw [Nat.testBit_and, show 18446744073709551615 - b = 2 ^ 64 - (b + 1) by omega, Nat.testBit_two_pow_sub_succ hb]
  cases h : a.testBit i with
  | false => simp
  | true => simp [bit_lt ha h]
theorem andn_lt (a b : Nat) (ha : a < 18446744073709551616) : andn a b < 18446744073709551616 := Nat.lt_of_le_of_lt Nat.and_le_left ha
theorem andn_zero (a b : Nat) (ha : a < 18446744073709551616) (hb : b < 18446744073709551616) : andn a b = 0 ↔ ∀ i, a.testBit i = true → b.testBit i = true := by
  constructor
  · intro h i hi
    have := testBit_andn a b i ha hb
    rw [h, Nat.zero_testBit, hi] at this
    simpa using this.symm
  · intro h
    apply Nat.eq_of_testBit_eq
    intro i
    rw [testBit_andn a b i ha hb, Nat.zero_testBit]
    cases hi : a.testBit i with
    | false => rfl
    | true => rw [h i hi]; rfl
theorem pow_lt64 {a : Nat} (h : a < 64) : 2 ^ a < 18446744073709551616 := Nat.pow_lt_pow_right (by decide) h
theorem bits_but (m a b : Nat) (hm : m < 18446744073709551616) (ha : a < 64) : b ∈ bitsOf (andn m (2 ^ a)) ↔ m.testBit b = true ∧ b ≠ a := by
  rw [mem_bitsOf, testBit_andn m _ b hm (pow_lt64 ha), Nat.testBit_two_pow]
  constructor
  · rintro ⟨_, h⟩
    simp at h
    exact ⟨h.1, fun e => h.2 e.symm⟩
  · rintro ⟨h, hne⟩
    refine ⟨bit_lt hm h, ?_⟩
    simp [h]
    exact fun e => hne e.symm

def has (ms : List Nat) (a b : Nat) : Prop := (ms.getD a 0).testBit b = true
/-- a label of an order: it has itself; none beyond; never both ways; it goes on -/
def AOk (ms : List Nat) (a : Nat) : Prop := has ms a a ∧ (∀ b, has ms a b → b < ms.length) ∧ (∀ b, has ms a b → b ≠ a → ¬ has ms b a) ∧ (∀ b c, has ms a b → has ms b c → has ms a c)
def OrdM (ms : List Nat) : Prop := 1 ≤ ms.length ∧ ms.length ≤ 64 ∧ ∀ a, a < ms.length → AOk ms a
open Classical in
noncomputable def ordB (ms : List Nat) : Bool := decide (OrdM ms)
open Classical in
theorem ordB_true {ms : List Nat} (h : OrdM ms) : ordB ms = true := by unfold ordB; exact decide_eq_true h
open Classical in
theorem ordB_false {ms : List Nat} (h : ¬ OrdM ms) : ordB ms = false := by unfold ordB; exact decide_eq_false h
/-- what the code asks of those above a label -/
def HoldsC (ms : List Nat) (a : Nat) : Prop := ∀ b ∈ bitsOf (andn (ms.getD a 0) (2 ^ a)), (ms.getD b 0).testBit a = false ∧ andn (ms.getD b 0) (ms.getD a 0) = 0
theorem codeA_iff (ms : List Nat) (hs : Small ms) (hn : ms.length ≤ 64) (a : Nat) (ha : a < ms.length) :
    AOk ms a ↔ ((ms.getD a 0).testBit a = true ∧ andn (ms.getD a 0) (2 ^ ms.length - 1) = 0 ∧ HoldsC ms a) := by
  have hA := small_getD hs a
  have hL : 2 ^ ms.length - 1 < 18446744073709551616 := by
    have : 2 ^ ms.length ≤ 2 ^ 64 := Nat.pow_le_pow_right (by decide) hn
    have e : (2 : Nat) ^ 64 = 18446744073709551616 := rfl
    omega
  have hL2 : ∀ i, (2 ^ ms.length - 1).testBit i = decide (i < ms.length) := fun i => Nat.testBit_two_pow_sub_one _ _
  constructor
  · rintro ⟨h1, h2, h3, h4⟩
    refine ⟨h1, (andn_zero _ _ hA hL).2 fun i hi => by rw [hL2]; exact decide_eq_true (h2 i hi), fun b hb => ?_⟩
    obtain ⟨hb1, hb2⟩ := (bits_but _ a b hA (by omega)).1 hb
    refine ⟨by have := h3 b hb1 hb2; unfold has at this; simpa using this, (andn_zero _ _ (small_getD hs b) hA).2 fun i hi => h4 b i hb1 hi⟩
  · rintro ⟨h1, h2, h3⟩
    have h2' : ∀ b, has ms a b → b < ms.length := fun b hb => by
      have := (andn_zero _ _ hA hL).1 h2 b hb
      rw [hL2] at this; simpa using this
    refine ⟨h1, h2', fun b hb hne => ?_, fun b c hb hc => ?_⟩
    · have := (h3 b ((bits_but _ a b hA (by omega)).2 ⟨hb, hne⟩)).1
      unfold has; rw [this]; decide
    · by_cases e : b = a
      · subst e; exact hc
      · exact (andn_zero _ _ (small_getD hs b) hA).1 (h3 b ((bits_but _ a b hA (by omega)).2 ⟨hb, e⟩)).2 c hc
end Go.Proofs.YtkgcloggnnjioaaDoor

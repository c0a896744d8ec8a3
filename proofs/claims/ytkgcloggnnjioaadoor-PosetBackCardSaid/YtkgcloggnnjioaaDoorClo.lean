/-
  Plain: the closure of pairs (Warshall), an order made again of its pairs, what is seen step by step.
-/
import Derived.Test.YtkgcloggnnjioaaDoorOrdA
namespace Go.Proofs.YtkgcloggnnjioaaDoor

section
variable {E : Nat → Nat → Prop}

/-- a way from a to b whose inner stops are all below k -/
inductive Way (E : Nat → Nat → Prop) (k : Nat) : Nat → Nat → Prop
  | edge {a b : Nat} : E a b → Way E k a b
  | via {a c b : Nat} : Way E k a c → c < k → Way E k c b → Way E k a b



theorem Way.mono {k m : Nat} (h : k ≤ m) {a b : Nat} (w : Way E k a b) : Way E m a b := by
  induction w with
  | edge h => exact .edge h
  | via _ hc _ i1 i2 => exact .via i1 (Nat.lt_of_lt_of_le hc h) i2

theorem way_zero {a b : Nat} : Way E 0 a b ↔ E a b := by
  constructor
  · intro w
    cases w with
    | edge h => exact h
    | via _ hc _ => exact absurd hc (Nat.not_lt_zero _)
  · exact .edge

/-- one pass of the closure -/
theorem way_succ {k a b : Nat} : Way E (k + 1) a b ↔ Way E k a b ∨ Way E k a k ∧ Way E k k b := by
  constructor
  · intro w
    induction w with
    | edge h => exact .inl (.edge h)
    | @via a c b _ hc _ i1 i2 =>
      rcases Nat.lt_or_ge c k with h | h
      · rcases i1 with x | ⟨x, y⟩ <;> rcases i2 with z | ⟨z, u⟩
        · exact .inl (.via x h z)
        · exact .inr ⟨.via x h z, u⟩
        · exact .inr ⟨x, .via y h z⟩
        · exact .inr ⟨x, u⟩
      · obtain rfl : c = k := by omega
        rcases i1 with x | ⟨x, _⟩ <;> rcases i2 with z | ⟨_, u⟩
        · exact .inr ⟨x, z⟩
        · exact .inr ⟨x, u⟩
        · exact .inr ⟨x, z⟩
        · exact .inr ⟨x, u⟩
  · rintro (w | ⟨w1, w2⟩)
    · exact w.mono (Nat.le_succ _)
    · exact .via (w1.mono (Nat.le_succ _)) (Nat.lt_succ_self _) (w2.mono (Nat.le_succ _))

theorem Way.trans {n a b c : Nat} (hb : b < n) (w1 : Way E n a b) (w2 : Way E n b c) : Way E n a c := .via w1 hb w2

/-- the least one that goes on: what has the edges and goes on through all below n has the ways -/
theorem Way.least {n : Nat} {F : Nat → Nat → Prop} (hE : ∀ a b, E a b → F a b) (hF : ∀ a b c, b < n → F a b → F b c → F a c) {a b : Nat} (w : Way E n a b) : F a b := by
  induction w with
  | edge h => exact hE _ _ h
  | via _ hc _ i1 i2 => exact hF _ _ _ hc i1 i2

/-- ends are ends of edges -/
theorem Way.bound {n m : Nat} (hE : ∀ a b, E a b → a < n ∧ b < n) {a b : Nat} (w : Way E m a b) : a < n ∧ b < n := by
  induction w with
  | edge h => exact hE _ _ h
  | via _ _ _ i1 i2 => exact ⟨i1.1, i2.2⟩

/-- what has the edges, goes on, and is in every such one is the ways -/
theorem way_unique {n : Nat} {F : Nat → Nat → Prop} (hE : ∀ a b, E a b → F a b) (hF : ∀ a b c, F a b → F b c → F a c) (hl : ∀ a b, F a b → Way E n a b) (a b : Nat) : F a b ↔ Way E n a b :=
  ⟨hl a b, fun w => w.least hE fun a b c _ x y => hF a b c x y⟩

/-- a way, step by step: the first step is an edge -/
inductive Steps (E : Nat → Nat → Prop) : Nat → Nat → Prop
  | one {a b : Nat} : E a b → Steps E a b
  | more {a c b : Nat} : Steps E a c → E c b → Steps E a b

theorem Steps.trans {a b c : Nat} (h1 : Steps E a b) (h2 : Steps E b c) : Steps E a c := by
  induction h2 with
  | one h => exact .more h1 h
  | more _ h i => exact .more i h

theorem steps_way {n : Nat} (hb : ∀ a b, E a b → a < n ∧ b < n) {a b : Nat} : Steps E a b ↔ Way E n a b := by
  constructor
  · intro h
    induction h with
    | one h => exact .edge h
    | more _ h i => exact .via i (hb _ _ h).1 (.edge h)
  · intro w
    induction w with
    | edge h => exact .one h
    | via _ _ _ i1 i2 => exact i1.trans i2

end
/-- the row a with more bits -/
def orAt (ms : List Nat) (a m : Nat) : List Nat := ms.set a (ms.getD a 0 ||| m)
theorem orAt_len (ms : List Nat) (a m : Nat) : (orAt ms a m).length = ms.length := by unfold orAt; simp
theorem getD_set (ms : List Nat) (a b v : Nat) : (ms.set a v).getD b 0 = if a = b ∧ a < ms.length then v else ms.getD b 0 := by
  rw [List.getD_eq_getElem?_getD, List.getD_eq_getElem?_getD, List.getElem?_set]
  by_cases h : a = b
  · subst h
    by_cases h2 : a < ms.length
    · simp [h2]
    · simp [h2]
  · simp [h]
theorem orAt_getD (ms : List Nat) (a m b : Nat) : (orAt ms a m).getD b 0 = if a = b ∧ a < ms.length then ms.getD b 0 ||| m else ms.getD b 0 := by
  unfold orAt; rw [getD_set]
  by_cases h : a = b ∧ a < ms.length
  · rw [if_pos h, if_pos h, h.1]
  · rw [if_neg h, if_neg h]
theorem has_orAt (ms : List Nat) (a m x b : Nat) : has (orAt ms a m) x b ↔ has ms x b ∨ (a = x ∧ a < ms.length ∧ m.testBit b = true) := by
  unfold has
  rw [orAt_getD]
  by_cases h : a = x ∧ a < ms.length
  · rw [if_pos h, Nat.testBit_or, Bool.or_eq_true]
    constructor
    · rintro (h1 | h1)
      · exact .inl h1
      · exact .inr ⟨h.1, h.2, h1⟩
    · rintro (h1 | ⟨_, _, h1⟩)
      · exact .inl h1
      · exact .inr h1
  · rw [if_neg h]
    constructor
    · exact .inl
    · rintro (h1 | ⟨h2, h3, _⟩)
      · exact h1
      · exact absurd ⟨h2, h3⟩ h
theorem small_orAt {ms : List Nat} (h : Small ms) {a m : Nat} (hm : m < 18446744073709551616) : Small (orAt ms a m) := by
  intro x hx
  unfold orAt at hx
  rcases List.mem_or_eq_of_mem_set hx with h1 | h1
  · exact h x h1
  · subst h1; exact Nat.or_lt_two_pow (n := 64) (small_getD h a) hm

/-- each label by itself -/
def idM (k : Nat) : List Nat := (List.range k).map (2 ^ ·)
theorem idM_len (k : Nat) : (idM k).length = k := by unfold idM; simp
theorem idM_getD (k a : Nat) (h : a < k) : (idM k).getD a 0 = 2 ^ a := by
  unfold idM; rw [List.getD_eq_getElem?_getD]; simp [h]
theorem has_idM (k a b : Nat) : has (idM k) a b ↔ a < k ∧ b = a := by
  unfold has
  by_cases h : a < k
  · rw [idM_getD k a h, Nat.testBit_two_pow]; simp [h]; exact ⟨fun h => h.symm, fun h => h.symm⟩
  · rw [List.getD_eq_getElem?_getD, List.getElem?_eq_none (by rw [idM_len]; omega)]; simp [h]
theorem small_idM {k : Nat} (h : k ≤ 64) : Small (idM k) := by
  intro x hx; unfold idM at hx
  obtain ⟨a, ha, rfl⟩ := List.mem_map.1 hx
  have := List.mem_range.1 ha
  exact pow_lt64 (by omega)

def addP (ms : List Nat) (p : Nat × Nat) : List Nat := orAt ms p.1 (2 ^ p.2)
def addPs (ms : List Nat) (ps : List (Nat × Nat)) : List Nat := ps.foldl addP ms
theorem addPs_snoc (ms : List Nat) (ps : List (Nat × Nat)) (p : Nat × Nat) : addPs ms (ps ++ [p]) = addP (addPs ms ps) p := by unfold addPs; rw [List.foldl_append]; rfl
theorem addPs_len (ps : List (Nat × Nat)) : ∀ ms : List Nat, (addPs ms ps).length = ms.length := by
  induction ps with
  | nil => intro ms; rfl
  | cons p ps ih => intro ms; show (addPs (addP ms p) ps).length = _; rw [ih]; exact orAt_len _ _ _
theorem has_addPs (ps : List (Nat × Nat)) : ∀ ms : List Nat, (∀ p ∈ ps, p.1 < ms.length) → ∀ a b, has (addPs ms ps) a b ↔ has ms a b ∨ (a, b) ∈ ps := by
  induction ps with
  | nil => intro ms _ a b; simp [addPs]
  | cons p ps ih =>
    intro ms h a b
    show has (addPs (addP ms p) ps) a b ↔ _
    rw [ih (addP ms p) (fun q hq => by unfold addP; rw [orAt_len]; exact h q (by simp [hq]))]
    unfold addP
    rw [has_orAt, List.mem_cons, Nat.testBit_two_pow]
    have := h p (by simp)
    obtain ⟨p1, p2⟩ := p
    simp only [decide_eq_true_eq, Prod.mk.injEq]
    constructor
    · rintro ((h1 | ⟨h1, _, h3⟩) | h1)
      · exact .inl h1
      · exact .inr (.inl ⟨h1.symm, h3.symm⟩)
      · exact .inr (.inr h1)
    · rintro (h1 | ⟨h1, h2⟩ | h1)
      · exact .inl (.inl h1)
      · exact .inl (.inr ⟨h1.symm, by simpa using this, h2.symm⟩)
      · exact .inr h1
theorem small_addPs (ps : List (Nat × Nat)) : ∀ ms : List Nat, Small ms → (∀ p ∈ ps, p.2 < 64) → Small (addPs ms ps) := by
  induction ps with
  | nil => intro ms h _; exact h
  | cons p ps ih => intro ms h hp; exact ih _ (small_orAt h (pow_lt64 (hp p (by simp)))) (fun q hq => hp q (by simp [hq]))

/-- one row joined with the row k, if it has k -/
def joinA (k : Nat) (ms : List Nat) (a : Nat) : List Nat := if (ms.getD a 0).testBit k = true then orAt ms a (ms.getD k 0) else ms
def joinK (k : Nat) (ms : List Nat) (m : Nat) : List Nat := (List.range m).foldl (joinA k) ms
def passK (n : Nat) (ms : List Nat) (m : Nat) : List Nat := (List.range m).foldl (fun ms k => joinK k ms n) ms
theorem joinK_zero (k : Nat) (ms : List Nat) : joinK k ms 0 = ms := rfl
theorem joinK_succ (k : Nat) (ms : List Nat) (m : Nat) : joinK k ms (m + 1) = joinA k (joinK k ms m) m := by unfold joinK; rw [List.range_succ, List.foldl_append]; rfl
theorem passK_zero (n : Nat) (ms : List Nat) : passK n ms 0 = ms := rfl
theorem passK_succ (n : Nat) (ms : List Nat) (m : Nat) : passK n ms (m + 1) = joinK m (passK n ms m) n := by unfold passK; rw [List.range_succ, List.foldl_append]; rfl
theorem joinA_len (k : Nat) (ms : List Nat) (a : Nat) : (joinA k ms a).length = ms.length := by unfold joinA; split; exact orAt_len _ _ _; rfl
theorem joinK_len (k : Nat) (ms : List Nat) : ∀ m, (joinK k ms m).length = ms.length
  | 0 => rfl
  | m + 1 => by rw [joinK_succ, joinA_len, joinK_len]
theorem passK_len (n : Nat) (ms : List Nat) : ∀ m, (passK n ms m).length = ms.length
  | 0 => rfl
  | m + 1 => by rw [passK_succ, joinK_len, passK_len]
theorem small_joinA {ms : List Nat} (h : Small ms) (k a : Nat) : Small (joinA k ms a) := by unfold joinA; split; exact small_orAt h (small_getD h k); exact h
theorem small_joinK {ms : List Nat} (h : Small ms) (k : Nat) : ∀ m, Small (joinK k ms m)
  | 0 => h
  | m + 1 => by rw [joinK_succ]; exact small_joinA (small_joinK h k m) _ _
theorem small_passK (n : Nat) {ms : List Nat} (h : Small ms) : ∀ m, Small (passK n ms m)
  | 0 => h
  | m + 1 => by rw [passK_succ]; exact small_joinK (small_passK n h m) _ _
theorem has_joinA (k : Nat) (ms : List Nat) (a x b : Nat) : has (joinA k ms a) x b ↔ has ms x b ∨ (a = x ∧ a < ms.length ∧ has ms a k ∧ has ms k b) := by
  unfold joinA
  by_cases h : (ms.getD a 0).testBit k = true
  · rw [if_pos h, has_orAt]
    constructor
    · rintro (h1 | ⟨h1, h2, h3⟩)
      · exact .inl h1
      · exact .inr ⟨h1, h2, h, h3⟩
    · rintro (h1 | ⟨h1, h2, _, h3⟩)
      · exact .inl h1
      · exact .inr ⟨h1, h2, h3⟩
  · rw [if_neg h]
    constructor
    · exact .inl
    · rintro (h1 | ⟨_, _, h3, _⟩)
      · exact h1
      · exact absurd h3 h
theorem has_joinK (k : Nat) (ms : List Nat) : ∀ m, m ≤ ms.length → ∀ x b, has (joinK k ms m) x b ↔ has ms x b ∨ (x < m ∧ has ms x k ∧ has ms k b) := by
  intro m
  induction m with
  | zero => intro _ x b; rw [joinK_zero]; simp
  | succ m ih =>
    intro hm x b
    have ih := ih (by omega)
    have hk : ∀ b, has (joinK k ms m) k b ↔ has ms k b := fun b => by
      rw [ih]; exact ⟨fun h => h.elim id (fun h => h.2.2), .inl⟩
    rw [joinK_succ, has_joinA, joinK_len, hk, ih x b, ih m k]
    constructor
    · rintro ((h1 | ⟨h1, h2, h3⟩) | ⟨rfl, _, (h1 | ⟨h1, _⟩), h3⟩)
      · exact .inl h1
      · exact .inr ⟨by omega, h2, h3⟩
      · exact .inr ⟨by omega, h1, h3⟩
      · omega
    · rintro (h1 | ⟨h1, h2, h3⟩)
      · exact .inl (.inl h1)
      · by_cases e : x = m
        · subst e; exact .inr ⟨rfl, by omega, .inl h2, h3⟩
        · exact .inl (.inr ⟨by omega, h2, h3⟩)
theorem has_lt {ms : List Nat} {a b : Nat} (h : has ms a b) : a < ms.length := by
  apply Classical.byContradiction
  intro hc
  unfold has at h
  rw [List.getD_eq_getElem?_getD, List.getElem?_eq_none (by omega)] at h
  simp at h
theorem has_passK (ms : List Nat) : ∀ m a b, has (passK ms.length ms m) a b ↔ Way (has ms) m a b := by
  intro m
  induction m with
  | zero => intro a b; rw [passK_zero]; exact way_zero.symm
  | succ m ih =>
    intro a b
    have hl := passK_len ms.length ms m
    rw [passK_succ, has_joinK m _ ms.length (by omega), way_succ, ih, ih, ih]
    constructor
    · rintro (h | ⟨_, h⟩)
      · exact .inl h
      · exact .inr h
    · rintro (h | h)
      · exact .inl h
      · exact .inr ⟨by have := has_lt ((ih a m).2 h.1); omega, h⟩
/-- the closure that Build makes -/
def closedM (n : Nat) (ps : List (Nat × Nat)) : List Nat := passK n (addPs (idM n) ps) n
theorem closedM_len (n : Nat) (ps : List (Nat × Nat)) : (closedM n ps).length = n := by unfold closedM; rw [passK_len, addPs_len, idM_len]
theorem small_closedM {n : Nat} (hn : n ≤ 64) {ps : List (Nat × Nat)} (h : ∀ p ∈ ps, p.1 < n ∧ p.2 < n) : Small (closedM n ps) := by
  unfold closedM
  exact small_passK n (small_addPs ps _ (small_idM hn) (fun p hp => by have := h p hp; omega)) n
/-- the edges -/
def Ed (n : Nat) (ps : List (Nat × Nat)) (a b : Nat) : Prop := (a < n ∧ b = a) ∨ (a, b) ∈ ps
theorem has_closedM {n : Nat} {ps : List (Nat × Nat)} (h : ∀ p ∈ ps, p.1 < n ∧ p.2 < n) (a b : Nat) : has (closedM n ps) a b ↔ Way (Ed n ps) n a b := by
  have hl : (addPs (idM n) ps).length = n := by rw [addPs_len, idM_len]
  have := has_passK (addPs (idM n) ps) n a b
  rw [hl] at this
  unfold closedM
  rw [this]
  have e : has (addPs (idM n) ps) = Ed n ps := by
    funext a b
    rw [has_addPs ps (idM n) (fun p hp => by rw [idM_len]; exact (h p hp).1), has_idM]; rfl
  rw [e]
theorem ed_lt {n : Nat} {ps : List (Nat × Nat)} (h : ∀ p ∈ ps, p.1 < n ∧ p.2 < n) : ∀ a b, Ed n ps a b → a < n ∧ b < n := by
  rintro a b (⟨h1, rfl⟩ | h1)
  · exact ⟨h1, h1⟩
  · exact h _ h1
theorem closedM_lt {n : Nat} {ps : List (Nat × Nat)} (h : ∀ p ∈ ps, p.1 < n ∧ p.2 < n) {a b : Nat} (hab : has (closedM n ps) a b) : a < n ∧ b < n := ((has_closedM h a b).1 hab).bound (ed_lt h)
theorem closedM_trans {n : Nat} {ps : List (Nat × Nat)} (h : ∀ p ∈ ps, p.1 < n ∧ p.2 < n) {a b c : Nat} (hab : has (closedM n ps) a b) (hbc : has (closedM n ps) b c) : has (closedM n ps) a c :=
  (has_closedM h a c).2 (((has_closedM h a b).1 hab).trans (closedM_lt h hab).2 ((has_closedM h b c).1 hbc))
theorem closedM_refl {n : Nat} {ps : List (Nat × Nat)} (h : ∀ p ∈ ps, p.1 < n ∧ p.2 < n) {a : Nat} (ha : a < n) : has (closedM n ps) a a := (has_closedM h a a).2 (.edge (.inl ⟨ha, rfl⟩))
/-- what has the same bits, as many rows, is the same -/
theorem ext_has {ms ns : List Nat} (hl : ms.length = ns.length) (h : ∀ a b, has ms a b ↔ has ns a b) : ms = ns := by
  apply List.ext_getElem hl
  intro i h1 h2
  apply Nat.eq_of_testBit_eq
  intro j
  have := h i j
  unfold has at this
  rw [getD_at h1, getD_at h2] at this
  exact Bool.eq_iff_iff.2 this
/-- what stands above a label, with none between -/
def nextF (ms : List Nat) (m b : Nat) : Nat := andn m (andn (ms.getD b 0) (2 ^ b))
def nextM (ms : List Nat) (a : Nat) : Nat := (bitsOf (andn (ms.getD a 0) (2 ^ a))).foldl (nextF ms) (andn (ms.getD a 0) (2 ^ a))
theorem nextF_lt (ms : List Nat) {m : Nat} (hm : m < 18446744073709551616) (b : Nat) : nextF ms m b < 18446744073709551616 := andn_lt _ _ hm
theorem nextL_lt (ms : List Nat) : ∀ (l : List Nat) (m : Nat), m < 18446744073709551616 → l.foldl (nextF ms) m < 18446744073709551616
  | [], _, h => h
  | b :: l, _m, h => nextL_lt ms l _ (nextF_lt ms h b)
theorem testBit_nextL (ms : List Nat) (hs : Small ms) (i : Nat) : ∀ (l : List Nat) (m : Nat), m < 18446744073709551616 → (∀ b ∈ l, b < 64) →
    ((l.foldl (nextF ms) m).testBit i = true ↔ m.testBit i = true ∧ ∀ b ∈ l, ¬ (has ms b i ∧ i ≠ b))
  | [], _, _, _ => by simp
  | b :: l, m, h, hl => by
    have hb := small_getD hs b
    have hb64 := hl b (by simp)
    rw [List.foldl_cons, testBit_nextL ms hs i l _ (nextF_lt ms h b) (fun x hx => hl x (by simp [hx]))]
    unfold nextF
    rw [testBit_andn _ _ _ h (andn_lt _ _ hb), testBit_andn _ _ _ hb (pow_lt64 hb64), Nat.testBit_two_pow]
    simp only [List.mem_cons, Bool.and_eq_true, Bool.not_eq_true', Bool.and_eq_false_iff, Bool.not_eq_false', decide_eq_true_eq]
    constructor
    · rintro ⟨⟨h1, h2⟩, h3⟩
      refine ⟨h1, ?_⟩
      rintro x (rfl | hx)
      · rintro ⟨h4, h5⟩
        unfold has at h4
        rcases h2 with h2 | h2
        · rw [h2] at h4; cases h4
        · exact h5 h2.symm
      · exact h3 x hx
    · rintro ⟨h1, h2⟩
      refine ⟨⟨h1, ?_⟩, fun x hx => h2 x (.inr hx)⟩
      have := h2 b (.inl rfl)
      unfold has at this
      by_cases h5 : b = i
      · exact .inr h5
      · refine .inl ?_
        cases h6 : (ms.getD b 0).testBit i with
        | false => rfl
        | true => exact absurd ⟨h6, fun e => h5 e.symm⟩ this
theorem nextM_lt {ms : List Nat} (hs : Small ms) (a : Nat) : nextM ms a < 18446744073709551616 := nextL_lt ms _ _ (andn_lt _ _ (small_getD hs a))
/-- a pair that nothing is between -/
def Cov (ms : List Nat) (a b : Nat) : Prop := has ms a b ∧ b ≠ a ∧ ∀ c, has ms a c → c ≠ a → c ≠ b → ¬ has ms c b
theorem testBit_nextM {ms : List Nat} (hs : Small ms) {a : Nat} (ha : a < 64) (b : Nat) : (nextM ms a).testBit b = true ↔ Cov ms a b := by
  have hA := small_getD hs a
  unfold nextM
  rw [testBit_nextL ms hs b _ _ (andn_lt _ _ hA) (fun x hx => (mem_bitsOf.1 hx).1)]
  have e : ∀ x, (andn (ms.getD a 0) (2 ^ a)).testBit x = true ↔ has ms a x ∧ x ≠ a := fun x => by
    rw [testBit_andn _ _ _ hA (pow_lt64 ha), Nat.testBit_two_pow]
    unfold has
    simp only [Bool.and_eq_true, Bool.not_eq_true', decide_eq_false_iff_not]
    exact ⟨fun ⟨h1, h2⟩ => ⟨h1, fun e => h2 e.symm⟩, fun ⟨h1, h2⟩ => ⟨h1, fun e => h2 e.symm⟩⟩
  rw [e]
  unfold Cov
  constructor
  · rintro ⟨⟨h1, h2⟩, h3⟩
    exact ⟨h1, h2, fun c hc hca hcb hcc => h3 c ((bits_but _ a c hA ha).2 ⟨hc, hca⟩) ⟨hcc, fun e => hcb e.symm⟩⟩
  · rintro ⟨h1, h2, h3⟩
    refine ⟨⟨h1, h2⟩, fun c hc ⟨hcc, hcb⟩ => ?_⟩
    obtain ⟨hc1, hc2⟩ := (bits_but _ a c hA ha).1 hc
    exact h3 c hc1 hc2 (fun e => hcb e.symm) hcc
theorem mem_nextM {ms : List Nat} (hs : Small ms) {a : Nat} (ha : a < 64) (b : Nat) : b ∈ bitsOf (nextM ms a) ↔ Cov ms a b := by
  rw [mem_bitsOf, testBit_nextM hs ha]
  exact ⟨fun h => h.2, fun h => ⟨bit_lt (small_getD hs a) h.1, h⟩⟩
def rowP (ms : List Nat) (a : Nat) : List (Nat × Nat) := (bitsOf (nextM ms a)).map fun b => (a, b)
def pairsK (ms : List Nat) : Nat → List (Nat × Nat)
  | 0 => []
  | k + 1 => pairsK ms k ++ rowP ms k
/-- the pairs of which an order is made -/
def pairsM (ms : List Nat) : List (Nat × Nat) := pairsK ms ms.length
theorem mem_pairsK {ms : List Nat} (hs : Small ms) {a b : Nat} : ∀ k, k ≤ 64 → ((a, b) ∈ pairsK ms k ↔ a < k ∧ Cov ms a b)
  | 0, _ => by simp [pairsK]
  | k + 1, hk => by
    rw [pairsK, List.mem_append, mem_pairsK hs k (by omega)]
    unfold rowP
    rw [List.mem_map]
    constructor
    · rintro (⟨h1, h2⟩ | ⟨x, hx, e⟩)
      · exact ⟨by omega, h2⟩
      · cases e; exact ⟨by omega, (mem_nextM hs (by omega) b).1 hx⟩
    · rintro ⟨h1, h2⟩
      by_cases e : a = k
      · subst e; exact .inr ⟨b, (mem_nextM hs (by omega) b).2 h2, rfl⟩
      · exact .inl ⟨by omega, h2⟩
theorem mem_pairsM {ms : List Nat} (hs : Small ms) (hn : ms.length ≤ 64) {a b : Nat} : (a, b) ∈ pairsM ms ↔ Cov ms a b := by
  unfold pairsM
  rw [mem_pairsK hs _ hn]
  exact ⟨fun h => h.2, fun h => ⟨has_lt h.1, h⟩⟩
theorem pairsK_len (ms : List Nat) : ∀ k, (pairsK ms k).length ≤ 64 * k
  | 0 => by simp [pairsK]
  | k + 1 => by
    rw [pairsK, List.length_append]
    have := pairsK_len ms k
    have h2 : (rowP ms k).length ≤ 64 := by unfold rowP; rw [List.length_map]; exact bitsOf_len _
    omega
open Classical in
/-- the plain answer's way to them -/
noncomputable def covB (ms : List Nat) (a b : Nat) : Bool := decide (Cov ms a b)
theorem filter_cut (p : Nat → Bool) (n : Nat) (h : ∀ i, p i = true → i < n) : ∀ m, n ≤ m → (List.range m).filter p = (List.range n).filter p := by
  intro m
  induction m with
  | zero => intro hm; obtain rfl : n = 0 := by omega
            rfl
  | succ m ih =>
    intro hm
    by_cases e : n = m + 1
    · subst e; rfl
    · rw [List.range_succ, List.filter_append, ih (by omega)]
      have : p m = false := by
        rw [Bool.eq_false_iff]; intro ht; have := h m ht; omega
      simp [this]
open Classical in
theorem covB_iff (ms : List Nat) (a b : Nat) : covB ms a b = true ↔ Cov ms a b := by unfold covB; exact decide_eq_true_iff
theorem bits_cov {ms : List Nat} (hs : Small ms) (ho : OrdM ms) {a : Nat} (ha : a < ms.length) : bitsOf (nextM ms a) = (List.range ms.length).filter (covB ms a) := by
  have hn := ho.2.1
  have e : (fun i => (nextM ms a).testBit i) = covB ms a := by
    funext i
    rw [Bool.eq_iff_iff, testBit_nextM hs (by omega), covB_iff]
  unfold bitsOf
  rw [e]
  refine filter_cut _ _ (fun i hi => ?_) 64 hn
  rw [covB_iff] at hi
  exact (ho.2.2 a ha).2.1 i hi.1

-- an order is made again of its pairs
theorem ord_lt {ms : List Nat} (ho : OrdM ms) {a b : Nat} (h : has ms a b) : a < ms.length ∧ b < ms.length := ⟨has_lt h, (ho.2.2 a (has_lt h)).2.1 b h⟩
theorem ord_trans {ms : List Nat} (ho : OrdM ms) {a b c : Nat} (h1 : has ms a b) (h2 : has ms b c) : has ms a c := (ho.2.2 a (has_lt h1)).2.2.2 b c h1 h2
theorem ord_anti {ms : List Nat} (ho : OrdM ms) {a b : Nat} (h1 : has ms a b) (h2 : has ms b a) : a = b := Classical.byContradiction fun hc => (ho.2.2 a (has_lt h1)).2.2.1 b h1 (fun e => hc e.symm) h2
theorem ord_refl {ms : List Nat} (ho : OrdM ms) {a : Nat} (ha : a < ms.length) : has ms a a := (ho.2.2 a ha).1
theorem ed_ord {n : Nat} {ps : List (Nat × Nat)} {ms : List Nat} (ho : OrdM ms) (hn : n = ms.length) (hp : ∀ a b, (a, b) ∈ ps → has ms a b) : ∀ a b, Ed n ps a b → has ms a b := by
  rintro a b (⟨h1, rfl⟩ | h1)
  · exact ord_refl ho (by omega)
  · exact hp a b h1
theorem way_ord {n : Nat} {ps : List (Nat × Nat)} {ms : List Nat} (ho : OrdM ms) (hn : n = ms.length) (hp : ∀ a b, (a, b) ∈ ps → has ms a b) {m a b : Nat} (w : Way (Ed n ps) m a b) : has ms a b := by
  induction w with
  | edge h => exact ed_ord ho hn hp _ _ h
  | via _ _ _ i1 i2 => exact ord_trans ho i1 i2
/-- how many labels stand between -/
def upTo (ms : List Nat) (a b : Nat) : List Nat := (List.range ms.length).filter fun c => (ms.getD a 0).testBit c && (ms.getD c 0).testBit b
theorem mem_upTo {ms : List Nat} {a b c : Nat} : c ∈ upTo ms a b ↔ c < ms.length ∧ has ms a c ∧ has ms c b := by
  unfold upTo has; simp
theorem filter_lt {p q : Nat → Bool} (hpq : ∀ x, p x = true → q x = true) : ∀ (l : List Nat) (x : Nat), x ∈ l → p x = false → q x = true → (l.filter p).length < (l.filter q).length := by
  have hle : ∀ l : List Nat, (l.filter p).length ≤ (l.filter q).length := by
    intro l
    induction l with
    | nil => simp
    | cons y l ih =>
      rw [List.filter_cons, List.filter_cons]
      cases hp : p y with
      | true => rw [hpq y hp]; simp; exact ih
      | false =>
        cases q y with
        | true => simp; omega
        | false => simpa using ih
  intro l
  induction l with
  | nil => intro x hx; cases hx
  | cons y l ih =>
    intro x hx h1 h2
    rw [List.filter_cons, List.filter_cons]
    rcases List.mem_cons.1 hx with rfl | hx
    · rw [h1, h2]; simp; have := hle l; omega
    · have := ih x hx h1 h2
      cases hp : p y with
      | true => rw [hpq y hp]; simp; exact this
      | false =>
        cases q y with
        | true => simp; omega
        | false => simpa using this
theorem cov_way {ms : List Nat} (ho : OrdM ms) {n : Nat} (hn : n = ms.length) {ps : List (Nat × Nat)} (hp : ∀ a b, Cov ms a b → (a, b) ∈ ps) : ∀ (k : Nat) (a b : Nat), (upTo ms a b).length ≤ k → has ms a b → Way (Ed n ps) n a b := by
  intro k
  induction k with
  | zero =>
    intro a b hk h
    have := mem_upTo.2 ⟨(ord_lt ho h).1, ord_refl ho (ord_lt ho h).1, h⟩
    rw [List.length_eq_zero_iff.1 (by omega : (upTo ms a b).length = 0)] at this
    cases this
  | succ k ih =>
    intro a b hk h
    by_cases e : b = a
    · subst e; exact .edge (.inl ⟨by have := (ord_lt ho h).1; omega, rfl⟩)
    by_cases hc : ∃ c, has ms a c ∧ c ≠ a ∧ c ≠ b ∧ has ms c b
    · obtain ⟨c, h1, h2, h3, h4⟩ := hc
      have hcl := (ord_lt ho h1).2
      have s1 : (upTo ms a c).length < (upTo ms a b).length := by
        unfold upTo
        refine filter_lt (fun x hx => ?_) _ b (List.mem_range.2 (ord_lt ho h).2) ?_ ?_
        · simp only [Bool.and_eq_true] at hx ⊢; exact ⟨hx.1, ord_trans ho hx.2 h4⟩
        · rw [Bool.and_eq_false_iff]; right
          rw [Bool.eq_false_iff]; intro hb; exact h3 (ord_anti ho h4 hb)
        · simp only [Bool.and_eq_true]; exact ⟨h, ord_refl ho (ord_lt ho h).2⟩
      have s2 : (upTo ms c b).length < (upTo ms a b).length := by
        unfold upTo
        refine filter_lt (fun x hx => ?_) _ a (List.mem_range.2 (ord_lt ho h).1) ?_ ?_
        · simp only [Bool.and_eq_true] at hx ⊢; exact ⟨ord_trans ho h1 hx.1, hx.2⟩
        · rw [Bool.and_eq_false_iff]; left
          rw [Bool.eq_false_iff]; intro hb; exact h2 (ord_anti ho hb h1)
        · simp only [Bool.and_eq_true]; exact ⟨ord_refl ho (ord_lt ho h).1, h⟩
      exact .via (ih a c (by omega) h1) (by omega) (ih c b (by omega) h4)
    · exact .edge (.inr (hp a b ⟨h, e, fun c h1 h2 h3 h4 => hc ⟨c, h1, h2, h3, h4⟩⟩))
/-- Build of Pairs is the order again -/
theorem closed_pairs {ms : List Nat} (hs : Small ms) (ho : OrdM ms) : closedM ms.length (pairsM ms) = ms := by
  have hm : ∀ a b, (a, b) ∈ pairsM ms ↔ Cov ms a b := fun a b => mem_pairsM hs ho.2.1
  have hb : ∀ p ∈ pairsM ms, p.1 < ms.length ∧ p.2 < ms.length := fun p hp => ord_lt ho ((hm p.1 p.2).1 hp).1
  refine ext_has (closedM_len _ _) fun a b => ?_
  rw [has_closedM hb]
  exact ⟨way_ord ho rfl (fun a b h => ((hm a b).1 h).1), fun h => cov_way ho rfl (fun a b h => (hm a b).2 h) _ a b (Nat.le_refl _) h⟩
/-- with fewer pairs it is an order still -/
theorem less_ord {ms : List Nat} (ho : OrdM ms) {ps : List (Nat × Nat)} (hp : ∀ a b, (a, b) ∈ ps → has ms a b) : OrdM (closedM ms.length ps) := by
  have hb : ∀ p ∈ ps, p.1 < ms.length ∧ p.2 < ms.length := fun p h => ord_lt ho (hp p.1 p.2 h)
  refine ⟨by rw [closedM_len]; exact ho.1, by rw [closedM_len]; exact ho.2.1, fun a ha => ?_⟩
  rw [closedM_len] at ha
  refine ⟨closedM_refl hb ha, fun b h => by rw [closedM_len]; exact (closedM_lt hb h).2, fun b h hne h2 => ?_, fun b c h1 h2 => closedM_trans hb h1 h2⟩
  exact hne (ord_anti ho (way_ord ho rfl hp ((has_closedM hb _ _).1 h2)) (way_ord ho rfl hp ((has_closedM hb _ _).1 h)))
/-- and another one: each pair is needed -/
theorem less_other {ms : List Nat} (ho : OrdM ms) {ps : List (Nat × Nat)} {a b : Nat} (hc : Cov ms a b) (hp : ∀ x y, (x, y) ∈ ps → has ms x y) (hn : (a, b) ∉ ps) : closedM ms.length ps ≠ ms := by
  have hb : ∀ p ∈ ps, p.1 < ms.length ∧ p.2 < ms.length := fun p h => ord_lt ho (hp p.1 p.2 h)
  intro e
  have h1 : has (closedM ms.length ps) a b := by rw [e]; exact hc.1
  have w := (has_closedM hb a b).1 h1
  clear h1 e
  have key : ∀ m x y, Way (Ed ms.length ps) m x y → x = a → y = b → False := by
    intro m x y w
    induction w with
    | edge h =>
      rintro rfl rfl
      rcases h with ⟨_, h⟩ | h
      · exact hc.2.1 h
      · exact hn h
    | @via x c y w1 _ w2 i1 i2 =>
      rintro rfl rfl
      by_cases e1 : c = y
      · exact i1 rfl e1
      by_cases e2 : c = x
      · exact i2 e2 rfl
      exact hc.2.2 c (way_ord ho rfl hp w1) e2 e1 (way_ord ho rfl hp w2)
  exact key _ _ _ w rfl rfl
/-- what is seen, step by step, is what stands above -/
theorem least_seen {n : Nat} {ps : List (Nat × Nat)} (h : ∀ p ∈ ps, p.1 < n ∧ p.2 < n) {S : Nat → Bool} {a : Nat} (hA : S a = true) (h1 : ∀ x, S x = true → has (closedM n ps) a x) (h2 : ∀ p ∈ ps, S p.1 = true → S p.2 = true) (b : Nat) : S b = true ↔ has (closedM n ps) a b := by
  refine ⟨h1 b, fun hb => ?_⟩
  have key : ∀ m x y, Way (Ed n ps) m x y → S x = true → S y = true := by
    intro m x y w
    induction w with
    | edge e =>
      intro hx
      rcases e with ⟨_, rfl⟩ | e
      · exact hx
      · exact h2 _ e hx
    | via _ _ _ i1 i2 => exact fun hx => i2 (i1 hx)
  exact key _ _ _ ((has_closedM h a b).1 hb) hA
/-- how many bits are set in all -/
def mass : List Nat → Nat
  | [] => 0
  | m :: ms => (bitsOf m).length + mass ms
theorem mass_le : ∀ ms : List Nat, mass ms ≤ 64 * ms.length
  | [] => by simp [mass]
  | m :: ms => by
    rw [mass, List.length_cons]
    have := mass_le ms
    have := bitsOf_len m
    omega
theorem bits_more {m c : Nat} (hc : c < 64) (h : m.testBit c = false) : (bitsOf m).length < (bitsOf (m ||| 2 ^ c)).length := by
  unfold bitsOf
  refine filter_lt (fun x hx => ?_) _ c (List.mem_range.2 hc) h ?_
  · rw [Nat.testBit_or, hx]; rfl
  · rw [Nat.testBit_or, Nat.testBit_two_pow]; simp
theorem mass_set : ∀ (ms : List Nat) (a v : Nat), a < ms.length → (bitsOf (ms.getD a 0)).length < (bitsOf v).length → mass ms < mass (ms.set a v)
  | [], _, _, h, _ => by simp at h
  | m :: ms, 0, v, _, h => by
    rw [List.set_cons_zero, mass, mass]
    simp at h
    omega
  | m :: ms, a + 1, v, h, h2 => by
    rw [List.set_cons_succ, mass, mass]
    have := mass_set ms a v (by simpa using h) (by simpa using h2)
    omega
theorem mass_more {ms : List Nat} {a c : Nat} (ha : a < ms.length) (hc : c < 64) (h : ¬ has ms a c) : mass ms < mass (orAt ms a (2 ^ c)) := by
  unfold orAt
  refine mass_set ms a _ ha (bits_more hc ?_)
  unfold has at h
  simpa using h
/-- between the edges and the closure -/
def Mid (n : Nat) (ps : List (Nat × Nat)) (ms : List Nat) : Prop := ms.length = n ∧ Small ms ∧ (∀ a b, Ed n ps a b → has ms a b) ∧ ∀ a b, has ms a b → has (closedM n ps) a b
theorem mid_start {n : Nat} (hn : n ≤ 64) {ps : List (Nat × Nat)} (h : ∀ p ∈ ps, p.1 < n ∧ p.2 < n) : Mid n ps (addPs (idM n) ps) := by
  have e : ∀ a b, has (addPs (idM n) ps) a b ↔ Ed n ps a b := fun a b => by
    rw [has_addPs ps (idM n) (fun p hp => by rw [idM_len]; exact (h p hp).1), has_idM]; rfl
  refine ⟨by rw [addPs_len, idM_len], small_addPs ps _ (small_idM hn) (fun p hp => by have := h p hp; omega), fun a b => (e a b).2, fun a b hab => ?_⟩
  exact (has_closedM h a b).2 (.edge ((e a b).1 hab))
theorem mid_step {n : Nat} (hn : n ≤ 64) {ps : List (Nat × Nat)} (h : ∀ p ∈ ps, p.1 < n ∧ p.2 < n) {ms : List Nat} (hm : Mid n ps ms) {a b c : Nat} (h1 : has ms a b) (h2 : has ms b c) : Mid n ps (orAt ms a (2 ^ c)) := by
  obtain ⟨m1, m2, m3, m4⟩ := hm
  have h3 := closedM_trans h (m4 _ _ h1) (m4 _ _ h2)
  have hc := (closedM_lt h h3).2
  refine ⟨by rw [orAt_len]; exact m1, small_orAt m2 (pow_lt64 (by omega)), fun x y hxy => (has_orAt _ _ _ _ _).2 (.inl (m3 x y hxy)), fun x y hxy => ?_⟩
  rcases (has_orAt _ _ _ _ _).1 hxy with h4 | ⟨rfl, _, h4⟩
  · exact m4 x y h4
  · rw [Nat.testBit_two_pow, decide_eq_true_eq] at h4
    subst h4; exact h3
theorem mid_end {n : Nat} {ps : List (Nat × Nat)} (h : ∀ p ∈ ps, p.1 < n ∧ p.2 < n) {ms : List Nat} (hm : Mid n ps ms) (ht : ∀ a b c, a < n → b < n → c < n → has ms a b → has ms b c → has ms a c) : ms = closedM n ps := by
  obtain ⟨m1, m2, m3, m4⟩ := hm
  refine ext_has (by rw [m1, closedM_len]) fun a b => ⟨m4 a b, fun hab => ?_⟩
  refine ((has_closedM h a b).1 hab).least m3 fun x y z _ hx hy => ?_
  exact ht x y z (closedM_lt h (m4 _ _ hx)).1 (closedM_lt h (m4 _ _ hx)).2 (closedM_lt h (m4 _ _ hy)).2 hx hy
end Go.Proofs.YtkgcloggnnjioaaDoor

/-
  Evaluation of closed calls: what a step leaves alone; operations that change nothing that is there.
-/
import Derived.Test.YtcganjggdkcfhaaGe14
set_option linter.unusedVariables false
set_option linter.unusedSimpArgs false
namespace Go.Ge

/-! ### heaps as functions -/
structure RelF (μ : Mu) (f : Nat → Option AObj) (w : World) : Prop where
  live : ∀ i o, f i = some o → ∃ p, μ i = some p ∧ ObjR μ w.heap[p.blk]? p o
  inj : ∀ i j o o' p q, f i = some o → f j = some o' → μ i = some p → μ j = some q → p.blk = q.blk → i = j
def FreeF (μ : Mu) (f : Nat → Option AObj) (k : Nat) : Prop := ∀ j o p, f j = some o → o.isTab = false → μ j = some p → p.blk ≠ k
structure GoesF (nx : Nat) (μ : Mu) (h : Heap) (w : World) (μ' : Mu) (f : Nat → Option AObj) (w' : World) : Prop where
  le : μ.le μ'
  news : ∀ i p, μ' i = some p → μ i = some p ∨ w.heap.size ≤ p.blk ∨ ¬ Free μ h p.blk
  low : ∀ i, i < nx → μ' i = μ i ∧ (h.get i = none → f i = none)
  old : ∀ j p, μ j = some p → h.get j = none → f j = none
  tabs : ∀ j o, h.get j = some o → o.isTab = true → f j = some o
  frame : ∀ k, k < w.heap.size → Free μ h k → w'.heap[k]? = w.heap[k]?
  size : w.heap.size ≤ w'.heap.size
  os : w'.os = w.os
  tape : w'.tape = w.tape
  output : w'.output = w.output

section
variable {μ μ' : Mu} {h h' : Heap} {w w' : World} {f g : Nat → Option AObj} {id nx : Nat}
theorem Rel.toF (r : Rel μ h w) : RelF μ h.get w := ⟨r.live, r.inj⟩
theorem RelF.sub (r : RelF μ f w) (hs : ∀ i o, g i = some o → f i = some o) : RelF μ g w :=
  ⟨fun i o hi => r.live i o (hs i o hi), fun i j o o' p q hi hj => r.inj i j o o' p q (hs i o hi) (hs j o' hj)⟩
theorem RelF.toRel (r : RelF μ f w) (hs : ∀ i o, h.get i = some o → f i = some o) : Rel μ h w :=
  ⟨fun i o hi => r.live i o (hs i o hi), fun i j o o' p q hi hj => r.inj i j o o' p q (hs i o hi) (hs j o' hj)⟩
theorem RelF.blk_lt (r : RelF μ f w) {i : Nat} {o : AObj} {p : Place} (hi : f i = some o) (hp : μ i = some p) : p.blk < w.heap.size := by
  obtain ⟨q, hq, ho⟩ := r.live i o hi
  rw [hp] at hq
  cases hq
  have := ho.some
  rcases Nat.lt_or_ge p.blk w.heap.size with h | h
  · exact h
  · rw [Array.getElem?_eq_none h] at this; cases this
theorem GoesF.free {μ₀ : Mu} {h₀ : Heap} {w₀ : World} (g : GoesF nx μ₀ h₀ w₀ μ f w) {k : Nat} (hk : k < w₀.heap.size) (hf : Free μ₀ h₀ k) : FreeF μ f k := by
  intro j o p hj ht hp e
  rcases g.news j p hp with h1 | h1 | h1
  · cases ho : h₀.get j with
    | none => rw [g.old j p h1 ho] at hj; cases hj
    | some o' =>
      cases ht' : o'.isTab with
      | false => exact hf j o' p ho ht' h1 e
      | true => rw [g.tabs j o' ho ht'] at hj; cases hj; rw [ht] at ht'; cases ht'
  · omega
  · subst e; exact h1 hf
theorem GoesF.sub {μ₀ : Mu} {h₀ : Heap} {w₀ : World} (x : GoesF nx μ₀ h₀ w₀ μ f w) (hs : ∀ i o, g i = some o → f i = some o) (ht : ∀ j o, h₀.get j = some o → o.isTab = true → g j = some o) : GoesF nx μ₀ h₀ w₀ μ g w := by
  have hn : ∀ i, f i = none → g i = none := fun i hi => by
    cases hg : g i with
    | none => rfl
    | some o => rw [hs i o hg] at hi; cases hi
  exact ⟨x.le, x.news, fun i hi => ⟨(x.low i hi).1, fun h0 => hn i ((x.low i hi).2 h0)⟩, fun j p hp h0 => hn j (x.old j p hp h0), ht, x.frame, x.size, x.os, x.tape, x.output⟩

/-- a step on a part of the heap leaves the rest alone -/
theorem step_in {μ₀ : Mu} {h₀ : Heap} {w₀ : World} {nx₀ : Nat} (r : RelF μ f w) (x : GoesF nx₀ μ₀ h₀ w₀ μ f w) (hsub : ∀ i o, h.get i = some o → f i = some o)
    (gs : Goes id nx μ h w μ' h' w') (r' : Rel μ' h' w') (hex : ∀ j o, f j = some o → h.get j = none → j < nx ∧ j ≠ id) (h1 : nx₀ ≤ nx) (h2 : nx₀ ≤ id) :
    ∃ g, RelF μ' g w' ∧ GoesF nx₀ μ₀ h₀ w₀ μ' g w' ∧ (∀ i o, h'.get i = some o → g i = some o) ∧ (∀ i o, f i = some o → h.get i = none → g i = some o) ∧ (∀ i, g i ≠ none → f i ≠ none ∨ h'.get i ≠ none) := by
  have hfree : ∀ i o p, f i = some o → h.get i = none → μ i = some p → Free μ h p.blk := fun i o p hi hh hp j o' q hj _ hq e => by
    have := r.inj i j o o' p q hi (hsub j o' hj) hp hq e.symm
    subst this
    rw [hj] at hh; cases hh
  have hnew : ∀ i o, f i = some o → h.get i = none → h'.get i = none := fun i o hi hh => (gs.low i (hex i o hi hh).1 (hex i o hi hh).2).2 hh
  refine ⟨fun i => if (f i).isSome ∧ h.get i = none then f i else h'.get i, ⟨fun i o hi => ?_, fun i j o o' p q hi hj hp hq e => ?_⟩, ⟨Mu.le_trans x.le gs.le, fun i p hp => ?_, fun i hi => ⟨?_, fun h0 => ?_⟩, fun j p hp h0 => ?_, fun j o hj ht => ?_, fun k hk hf => ?_, Nat.le_trans x.size gs.size, gs.os.trans x.os, gs.tape.trans x.tape, gs.output.trans x.output⟩, fun i o hi => ?_, fun i o hi hh => ?_, fun i hi => ?_⟩
  · try dsimp only at hi
    split at hi
    · rename_i hc
      obtain ⟨p, hp, ho⟩ := r.live i o hi
      refine ⟨p, gs.le _ _ hp, ?_⟩
      rw [gs.frame p.blk (r.blk_lt hi hp) (hfree i o p hi hc.2 hp)]
      exact ho.mono gs.le
    · exact r'.live i o hi
  · try dsimp only at hi hj
    have mix : ∀ (i j : Nat) (o o' : AObj) (p q : Place), f i = some o → h.get i = none → h'.get j = some o' → μ' i = some p → μ' j = some q → p.blk = q.blk → False := by
      intro i j o o' p q hi hh hj hp hq e
      have hp' : μ i = some p := by rw [← (gs.low i (hex i o hi hh).1 (hex i o hi hh).2).1]; exact hp
      rcases gs.news j q hq with k1 | k1 | k1
      · cases hhj : h.get j with
        | none => rw [gs.old j q k1 hhj] at hj; cases hj
        | some o2 =>
          have := r.inj i j o o2 p q hi (hsub j o2 hhj) hp' k1 e
          subst this
          rw [hhj] at hh; cases hh
      · have := r.blk_lt hi hp'; omega
      · exact k1 (e ▸ hfree i o p hi hh hp')
    split at hi <;> split at hj
    · rename_i c1 c2
      have hp' : μ i = some p := by rw [← (gs.low i (hex i o hi c1.2).1 (hex i o hi c1.2).2).1]; exact hp
      have hq' : μ j = some q := by rw [← (gs.low j (hex j o' hj c2.2).1 (hex j o' hj c2.2).2).1]; exact hq
      exact r.inj i j o o' p q hi hj hp' hq' e
    · rename_i c1 c2; exact (mix i j o o' p q hi c1.2 hj hp hq e).elim
    · rename_i c1 c2; exact (mix j i o' o q p hj c2.2 hi hq hp e.symm).elim
    · exact r'.inj i j o o' p q hi hj hp hq e
  · rcases gs.news i p hp with k1 | k1 | k1
    · exact x.news i p k1
    · exact .inr (.inl (Nat.le_trans x.size k1))
    · rcases Nat.lt_or_ge p.blk w₀.heap.size with hk | hk
      · refine .inr (.inr fun hf => k1 fun j o q hj ht hq => x.free hk hf j o q (hsub j o hj) ht hq)
      · exact .inr (.inl hk)
  · rw [(gs.low i (by omega) (by omega)).1]; exact (x.low i hi).1
  · have hfi := (x.low i hi).2 h0
    try dsimp only
    rw [if_neg (by rw [hfi]; simp)]
    refine (gs.low i (by omega) (by omega)).2 ?_
    cases hg : h.get i with
    | none => rfl
    | some o => rw [hsub i o hg] at hfi; cases hfi
  · have hfi := x.old j p hp h0
    try dsimp only
    rw [if_neg (by rw [hfi]; simp)]
    refine gs.old j p (x.le _ _ hp) ?_
    cases hg : h.get j with
    | none => rfl
    | some o => rw [hsub j o hg] at hfi; cases hfi
  · have hfj := x.tabs j o hj ht
    try dsimp only
    cases hg : h.get j with
    | none => rw [if_pos ⟨by rw [hfj]; rfl, rfl⟩]; exact hfj
    | some o2 =>
      rw [if_neg (by simp)]
      have e := hsub j o2 hg
      rw [hfj] at e
      cases e
      exact gs.tabs j o hg ht
  · have hfr := x.free hk hf
    exact (gs.frame k (Nat.lt_of_lt_of_le hk x.size) fun j o q hj ht hq => hfr j o q (hsub j o hj) ht hq).trans (x.frame k hk hf)
  · try dsimp only
    split
    · rename_i c
      cases hfi : f i with
      | none => rw [hfi] at c; simp at c
      | some o' => rw [hnew i o' hfi c.2] at hi; cases hi
    · exact hi
  · try dsimp only
    rw [if_pos ⟨by rw [hi]; rfl, hh⟩]
    exact hi
  · try dsimp only at hi
    split at hi
    · exact .inl hi
    · exact .inr hi
end

/-! ### operations that change nothing that is there -/
def isBig : Op → Bool
  | .store .. | .mapUpdate .. | .insert .. | .mapEntry .. | .entryStore .. | .next .. => true
  | .call c => match c.callee with
    | .builtin .len | .builtin .min | .builtin .max => false
    | _ => true
  | _ => false
theorem keep_heap {h h' : Heap} {v : Option Value} {x : Value} (hl : keep h v = some (x, h')) : h' = h := (keep_eq hl).2
theorem set_other {h : Heap} {id : Nat} {o : Option AObj} (hlt : id < 65536) (j : Nat) (hj : j ≠ id) : (h.set id o).get j = h.get j := by
  rw [Heap.get_set _ _ _ _ hlt, if_neg hj]
theorem set_same {h : Heap} {b : Nat} {o : AObj} (hb : h.get b = some o) (j : Nat) : (h.set b (some o)).get j = h.get j := by
  rw [Heap.get_set _ _ _ _ (Heap.get_lt hb)]
  split
  · rename_i e; subst e; exact hb.symm
  · rfl
theorem small_only {P : Program} {id : Nat} {h h' : Heap} {ev : Operand → Option Value} {op : Op} {v : Value} (hb : isBig op = false) (hl : aop P id h ev op = some (v, h')) (j : Nat) (hj : j ≠ id) : h'.get j = h.get j := by
  cases op <;> simp only [isBig] at hb <;> try (cases hb; done)
  case alloc e =>
    simp only [aop] at hl
    split at hl
    · rename_i hlt
      unfold aAlloc at hl
      split at hl
      · cases hl; exact set_other hlt j hj
      · cases hl
    · cases hl
  case box e x =>
    simp only [aop] at hl
    split at hl
    · rename_i hlt
      split at hl
      · cases hl; exact set_other hlt j hj
      · cases hl
    · cases hl
  case buildSlice t n ps =>
    simp only [aop] at hl
    split at hl
    · rename_i hlt
      split at hl
      · unfold aBuildSlice at hl
        (repeat' split at hl) <;> first | (cases hl; done) | (cases hl; exact set_other hlt j hj)
      · cases hl
    · cases hl
  case makeMap t x =>
    simp only [aop] at hl
    split at hl
    · rename_i hlt
      split at hl
      · unfold aMakeMap at hl
        (repeat' split at hl) <;> first | (cases hl; done) | (cases hl; exact set_other hlt j hj)
      · cases hl
    · cases hl
  case makeSlice t a b =>
    simp only [aop] at hl
    split at hl
    · rename_i hlt
      split at hl
      · unfold aMakeSlice at hl
        (repeat' split at hl) <;> first | (cases hl; done) | (cases hl; exact set_other hlt j hj)
      · cases hl
    · cases hl
  case range t x =>
    simp only [aop] at hl
    split at hl
    · rename_i hlt
      split at hl
      · unfold aRange at hl
        (repeat' split at hl) <;> first | (cases hl; done) | (cases hl; exact set_other hlt j hj)
      · cases hl
    · cases hl
  case convert s d x =>
    simp only [aop] at hl
    split at hl
    · unfold aConvert at hl
      (repeat' split at hl) <;> first
        | (cases hl; done)
        | (cases hl; rfl)
        | (rename_i hc _ _ _ _; cases hl; exact set_other hc.2 j hj)
        | (rename_i hc; cases hl; exact set_other hc.2 j hj)
        | (rename_i hb
           cases hl
           exact set_same hb j)
    · cases hl
  case call c =>
    simp only [aop] at hl
    split at hl
    · rename_i b hc
      rw [hc] at hb
      cases b <;> simp only at hb <;> try (cases hb; done)
      all_goals
        split at hl
        · split at hl
          · simp only [aBuiltin] at hl
            split at hl
            · rw [keep_heap hl]
            · cases hl
          · cases hl
        · cases hl
    · cases hl
  all_goals
    simp only [aop] at hl
    first
      | (cases hl; done)
      | (rw [keep_heap hl]; done)
      | ((repeat' split at hl) <;> first | (cases hl; done) | (rw [keep_heap hl]; done) | (cases hl; rfl))
end Go.Ge

/-
  Evaluation of closed calls: regions that draw their order.
-/
import Derived.Test.YtcganjggdkcfhaaGe15
set_option linter.unusedVariables false
set_option linter.unusedSimpArgs false
namespace Go.Ge

/-! ### tests of sameness -/
def same1 : Value → Value → Bool
  | .bool a, .bool b => decide (a = b)
  | .int j a, .int k b => decide (j = k) && decide (a = b)
  | .string a, .string b => decide (a.data.toList = b.data.toList)
  | .pointer a, .pointer b => decide (a = b)
  | .slice a l c, .slice b m d => decide (a = b) && decide (l = m) && decide (c = d)
  | .map a, .map b => decide (a = b)
  | .chan a, .chan b => decide (a = b)
  | .nilFunc, .nilFunc => true
  | .nilIface, .nilIface => true
  | _, _ => false
theorem same1_eq {a b : Value} (h : same1 a b = true) : a = b := by
  unfold same1 at h
  split at h <;> simp at h
  · rw [h]
  · rw [h.1, h.2]
  · rename_i a b
    congr 1
    apply ByteArray.ext
    apply Array.ext'
    simpa using h
  · rw [h]
  · rw [h.1.1, h.1.2, h.2]
  · rw [h]
  · rw [h]
  · rfl
  · rfl
def sameL : List Value → List Value → Bool
  | [], [] => true
  | x :: xs, y :: ys => same1 x y && sameL xs ys
  | _, _ => false
theorem sameL_eq : ∀ {a b : List Value}, sameL a b = true → a = b
  | [], [], _ => rfl
  | x :: xs, y :: ys, h => by
    simp only [sameL, Bool.and_eq_true] at h
    rw [same1_eq h.1, sameL_eq h.2]
  | [], _ :: _, h => by simp [sameL] at h
  | _ :: _, [], h => by simp [sameL] at h
def sameV : Value → Value → Bool
  | .agg xs, .agg ys => sameL xs.toList ys.toList
  | .tuple xs, .tuple ys => sameL xs.toList ys.toList
  | .iface t v, .iface u x => decide (t = u) && same1 v x
  | .func (.func f) a b, .func (.func g) c d => decide (f = g) && sameL a.toList c.toList && sameL b.toList d.toList
  | .func (.yield f) a b, .func (.yield g) c d => decide (f = g) && sameL a.toList c.toList && sameL b.toList d.toList
  | a, b => same1 a b
theorem sameV_eq {a b : Value} (h : sameV a b = true) : a = b := by
  unfold sameV at h
  split at h
  · rw [Array.ext' (sameL_eq h)]
  · rw [Array.ext' (sameL_eq h)]
  · simp at h; rw [h.1, same1_eq h.2]
  · simp at h; rw [h.1.1, Array.ext' (sameL_eq h.1.2), Array.ext' (sameL_eq h.2)]
  · simp at h; rw [h.1.1, Array.ext' (sameL_eq h.1.2), Array.ext' (sameL_eq h.2)]
  · exact same1_eq h
def sameO : Option AObj → Option AObj → Bool
  | none, none => true
  | some (.cells c e g), some (.cells c' e' g') => sameL c c' && decide (e = e') && decide (g = g')
  | some (.map [] n), some (.map [] m) => decide (n = m)
  | _, _ => false
theorem sameO_eq {a b : Option AObj} (h : sameO a b = true) : a = b := by
  unfold sameO at h
  split at h
  · rfl
  · simp at h; rw [sameL_eq h.1.1, h.1.2, h.2]
  · simp at h; rw [h]
  · cases h

/-! ### who stands ahead of whom -/
def edgeMask (M : T Nat) : List Edge → Nat → Option Nat
  | [], _ => some 0
  | e :: es, i => match edgeMask M es i with
    | some s => if Region.binds .any e = true then (match T.get 10 M e.on with
      | some x => if e.on < i then some (s ||| (2 ^ e.on ||| x)) else none
      | none => none) else some s
    | none => none
def maskF : List Oper → Nat → T Nat → Option (T Nat)
  | [], _, M => some M
  | o :: os, i, M => match edgeMask M o.after.toList i with
    | some s => maskF os (i + 1) (T.put 10 M i (some s))
    | none => none
def msk (M : T Nat) (i : Nat) : Nat := (T.get 10 M i).getD 0

theorem edgeMask_bit {M : T Nat} {i x : Nat} : ∀ {es : List Edge} {s : Nat}, edgeMask M es i = some s → s.testBit x = true → ∃ e ∈ es, Region.binds .any e = true ∧ e.on < i ∧ (x = e.on ∨ (msk M e.on).testBit x = true)
  | [], s, h, hb => by simp only [edgeMask] at h; cases h; simp at hb
  | e :: es, s, h, hb => by
    simp only [edgeMask] at h
    split at h
    · rename_i s' hs'
      split at h
      · rename_i hbind
        split at h
        · rename_i y hy
          split at h
          · rename_i hlt
            cases h
            rw [Nat.testBit_or, Nat.testBit_or, Bool.or_eq_true, Bool.or_eq_true] at hb
            rcases hb with hb | hb | hb
            · obtain ⟨e', he', h1, h2, h3⟩ := edgeMask_bit hs' hb
              exact ⟨e', List.mem_cons_of_mem _ he', h1, h2, h3⟩
            · refine ⟨e, List.mem_cons_self .., hbind, hlt, .inl ?_⟩
              rw [Nat.testBit_two_pow] at hb
              simpa using (of_decide_eq_true hb).symm
            · refine ⟨e, List.mem_cons_self .., hbind, hlt, .inr ?_⟩
              unfold msk
              rw [hy]
              exact hb
          · cases h
        · cases h
      · cases h
        obtain ⟨e', he', h1, h2, h3⟩ := edgeMask_bit hs' hb
        exact ⟨e', List.mem_cons_of_mem _ he', h1, h2, h3⟩
    · cases h
/-- masks are made of edges -/
def Made (ops : Array Oper) (m : Nat) (M : T Nat) : Prop := ∀ i x, i < m → (msk M i).testBit x = true → ∃ o e, ops[i]? = some o ∧ e ∈ o.after ∧ Region.binds .any e = true ∧ e.on < i ∧ (x = e.on ∨ (msk M e.on).testBit x = true)
theorem maskF_made {ops : Array Oper} : ∀ (l : List Oper) (i : Nat) (M M' : T Nat), (∀ j, ops[i + j]? = l[j]?) → i + l.length ≤ 1024 → Made ops i M → maskF l i M = some M' → Made ops (i + l.length) M'
  | [], i, M, M', _, _, hm, h => by simp only [maskF] at h; cases h; simpa using hm
  | o :: os, i, M, M', hl, hn, hm, h => by
    simp only [maskF] at h
    split at h
    · rename_i s hs
      simp only [List.length_cons] at hn ⊢
      have hget : ∀ j, j < 1024 → msk (T.put 10 M i (some s)) j = if j = i then s else msk M j := fun j hj => by
        unfold msk
        rw [T.get_put 10 M i j (some s) (by omega) hj]
        split <;> rfl
      have := maskF_made (ops := ops) os (i + 1) _ M' (fun j => by have := hl (j + 1); simpa [Nat.add_assoc, Nat.add_comm 1 j] using this) (by omega) (by
        intro j x hj hb
        rw [hget j (by omega)] at hb
        by_cases e : j = i
        · subst e
          rw [if_pos rfl] at hb
          obtain ⟨e, he, h1, h2, h3⟩ := edgeMask_bit hs hb
          refine ⟨o, e, by have := hl 0; simpa using this, by simpa using he, h1, h2, ?_⟩
          rw [hget e.on (by omega), if_neg (by omega)]
          exact h3
        · rw [if_neg e] at hb
          obtain ⟨o', e', k1, k2, k3, k4, k5⟩ := hm j x (by omega) hb
          refine ⟨o', e', k1, k2, k3, k4, ?_⟩
          rw [hget e'.on (by omega), if_neg (by omega)]
          exact k5) h
      rw [show i + (os.length + 1) = i + 1 + os.length by omega]
      exact this
    · cases h
/-- what stands ahead is done, where each one's next ones ahead are -/
theorem Made.done {ops : Array Oper} {m : Nat} {M : T Nat} (hm : Made ops m M) {L : Nat → Prop} (hc : ∀ i o, i < m → L i → ops[i]? = some o → ∀ e ∈ o.after, Region.binds .any e = true → L e.on) :
    ∀ (i : Nat), i < m → (∀ o, ops[i]? = some o → ∀ e ∈ o.after, Region.binds .any e = true → L e.on) → ∀ x, (msk M i).testBit x = true → L x := by
  intro i
  induction i using Nat.strongRecOn with
  | _ i ih =>
    intro hi hp x hx
    obtain ⟨o, e, h1, h2, h3, h4, h5⟩ := hm i x hi hx
    have hL := hp o h1 e h2 h3
    rcases h5 with rfl | h5
    · exact hL
    · exact ih e.on h4 (by omega) (fun o' ho' => hc e.on o' (by omega) hL ho') x h5
end Go.Ge

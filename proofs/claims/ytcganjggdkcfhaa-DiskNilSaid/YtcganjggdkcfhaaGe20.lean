/-
  Evaluation of closed calls: a call without arguments that is reckoned to end in true does so in every world, and leaves what was there alone.
-/
import Derived.Test.YtcganjggdkcfhaaGe19
import Derived.Below
set_option linter.unusedVariables false
set_option linter.unusedSimpArgs false
namespace Go.Ge
open Go.RowKit

def saysTrue (x : Option (Value × AS)) : Bool := match x with | some (.bool true, _) => true | _ => false
theorem saysTrue_some {x : Option (Value × AS)} (h : saysTrue x = true) : ∃ S', x = some (.bool true, S') := by
  unfold saysTrue at h
  split at h
  · exact ⟨_, rfl⟩
  · cases h
theorem leaf_get (i : Nat) : Heap.get (.leaf : Heap) i = none := by
  unfold Heap.get
  split
  · exact T.get_leaf 16 i
  · rfl
theorem ground {P : Program} {k : Nat} {f : FuncId} (h : saysTrue ((lev P (drawF P) k).call f [] ⟨.leaf, 0⟩) = true) (w : World) :
    Calls P f #[] w fun e w' => e = .returned (.bool true) ∧ Below w.heap.size w w' := by
  obtain ⟨S', hc⟩ := saysTrue_some h
  have := (lev_ok (drawF_ok P) k).call f [] ⟨.leaf, 0⟩ _ S' hc (fun _ => none) w [] ⟨⟨fun i o hi => (by rw [leaf_get] at hi; cases hi), fun i j o o' p q hi => (by rw [leaf_get] at hi; cases hi)⟩, fun _ _ _ => rfl⟩ .nil
  refine (callsIn_wide (n := 0)).1 (CallsIn.mono this fun e w' he => ?_)
  obtain ⟨v', μ', rfl, hvr, _, hg, _⟩ := he
  rw [hvr.eq_of_dat rfl]
  exact ⟨rfl, hg.os, hg.tape, hg.output, hg.size, fun k hk => hg.frame k hk fun j o p hj => (by rw [leaf_get] at hj; cases hj)⟩

/-- tables that are there, by their blocks -/
def tabsH : List (Nat × List Value) → Heap
  | [] => .leaf
  | (g, c) :: l => (tabsH l).set g (some (.tab g c))
def tabsOk (n : Nat) : List (Nat × List Value) → Bool
  | [] => true
  | (g, c) :: l => decide (g < n) && c.all dat && !c.isEmpty && tabsOk n l
theorem tabsH_get {n : Nat} (hn : n ≤ 65536) : ∀ (l : List (Nat × List Value)), tabsOk n l = true → ∀ i o, (tabsH l).get i = some o → ∃ c, (i, c) ∈ l ∧ o = .tab i c ∧ i < n ∧ c.all dat = true ∧ c ≠ []
  | [], _, i, o, hi => by rw [show tabsH [] = .leaf from rfl, leaf_get] at hi; cases hi
  | (g, c) :: l, hk, i, o, hi => by
    simp only [tabsOk, Bool.and_eq_true, decide_eq_true_eq, Bool.not_eq_true', List.isEmpty_eq_false_iff] at hk
    obtain ⟨⟨⟨h1, h2⟩, h3⟩, h4⟩ := hk
    simp only [tabsH] at hi
    rw [Heap.get_set _ _ _ _ (by omega)] at hi
    split at hi
    · rename_i e; subst e; cases hi; exact ⟨c, List.mem_cons_self .., rfl, h1, h2, h3⟩
    · obtain ⟨c', k1, k2⟩ := tabsH_get hn l h4 i o hi; exact ⟨c', List.mem_cons_of_mem _ k1, k2⟩
theorem groundT {P : Program} {k n : Nat} {f : FuncId} (tabs : List (Nat × List Value)) (hk : tabsOk n tabs = true) (hn : n ≤ 65536) (h : saysTrue ((lev P (drawF P) k).call f [] ⟨tabsH tabs, n⟩) = true) (w : World)
    (hT : ∀ g c, (g, c) ∈ tabs → ∀ i v, c[i]? = some v → w.cell? ⟨g, i, none⟩ = some v) :
    Calls P f #[] w fun e w' => e = .returned (.bool true) ∧ Below w.heap.size w w' := by
  obtain ⟨S', hc⟩ := saysTrue_some h
  have hget := tabsH_get hn tabs hk
  have hgood : Good (fun i => if ((tabsH tabs).get i).isSome then some ⟨i, 0, 0, .nilFunc⟩ else none) ⟨tabsH tabs, n⟩ w := by
    refine ⟨⟨fun i o hi => ?_, fun i j o o' p q hi hj hp hq e => ?_⟩, fun i h1 h2 => ?_⟩
    · obtain ⟨c, h1, rfl, h2, h3, h4⟩ := hget i o hi
      refine ⟨⟨i, 0, 0, .nilFunc⟩, by simp [hi], rfl, ?_⟩
      have hcell := hT i c h1
      cases c with
      | nil => exact absurd rfl h4
      | cons v0 cs =>
        have h0 := hcell 0 v0 rfl
        simp only [World.cell?] at h0
        split at h0
        · rename_i c' e fz hb
          refine ⟨c', e, fz, hb, fun j v hj => ⟨?_, List.all_eq_true.1 h3 v (List.mem_of_getElem? hj)⟩⟩
          have := hcell j v hj
          simp only [World.cell?, hb] at this
          simpa using this
        · cases h0
    · simp only [hi, hj] at hp hq
      cases hp; cases hq
      exact e
    · cases hg : (tabsH tabs).get i with
      | none => simp
      | some o => obtain ⟨_, _, _, h3, _⟩ := hget i o hg; dsimp only at h1; omega
  have := (lev_ok (drawF_ok P) k).call f [] ⟨tabsH tabs, n⟩ _ S' hc _ w [] hgood .nil
  refine (callsIn_wide (n := 0)).1 (CallsIn.mono this fun e w' he => ?_)
  obtain ⟨v', μ', rfl, hvr, _, hg, _⟩ := he
  rw [hvr.eq_of_dat rfl]
  exact ⟨rfl, hg.os, hg.tape, hg.output, hg.size, fun k hk => hg.frame k hk fun j o p hj ht => (by obtain ⟨c, _, rfl, _⟩ := hget j o hj; cases ht)⟩
end Go.Ge

/-
  Evaluation of calls whose arguments are handed on and never looked into.
-/
import Derived.Test.YtcganjggdkcfhaaGe20
set_option linter.unusedVariables false
set_option linter.unusedSimpArgs false
namespace Go.Ge
open Go.RowKit

/-- the names of what is handed on: 70000 and more -/
def nameOf (h : Heap) (vals : List Value) : Mu := fun i =>
  if 70000 ≤ i then (match vals[i - 70000]? with | some v => some ⟨0, 0, 0, v⟩ | none => none)
  else if (h.get i).isSome then some ⟨i, 0, 0, .nilFunc⟩ else none
theorem opq_at {h : Heap} {vals : List Value} (k : Nat) {v : Value} (hv : vals[k]? = some v) (h1 : v.oneCell' = true) : VR (nameOf h vals) (.chan (some (70000 + k))) v := by
  have : nameOf h vals (70000 + k) = some ⟨0, 0, 0, v⟩ := by
    unfold nameOf
    rw [if_pos (by omega), show 70000 + k - 70000 = k by omega, hv]
  exact VR.opq this h1
theorem groundA {P : Program} {k n : Nat} {f : FuncId} (tabs : List (Nat × List Value)) (hk : tabsOk n tabs = true) (hn : n ≤ 65536) {args args' : List Value} (vals : List Value)
    (h : saysTrue ((lev P (drawF P) k).call f args ⟨tabsH tabs, n⟩) = true) (ha : VRs (nameOf (tabsH tabs) vals) args args') (w : World)
    (hT : ∀ g c, (g, c) ∈ tabs → ∀ i v, c[i]? = some v → w.cell? ⟨g, i, none⟩ = some v) :
    Calls P f args'.toArray w fun e w' => e = .returned (.bool true) ∧ Below w.heap.size w w' := by
  obtain ⟨S', hc⟩ := saysTrue_some h
  have hget := tabsH_get hn tabs hk
  have hlow : ∀ i, i < 65536 → nameOf (tabsH tabs) vals i = if ((tabsH tabs).get i).isSome then some ⟨i, 0, 0, .nilFunc⟩ else none := fun i hi => by
    unfold nameOf
    rw [if_neg (by omega)]
  have hgood : Good (nameOf (tabsH tabs) vals) ⟨tabsH tabs, n⟩ w := by
    refine ⟨⟨fun i o hi => ?_, fun i j o o' p q hi hj hp hq e => ?_⟩, fun i h1 h2 => ?_⟩
    · obtain ⟨c, h1, rfl, h2, h3, h4⟩ := hget i o hi
      refine ⟨⟨i, 0, 0, .nilFunc⟩, by rw [hlow i (Heap.get_lt hi)]; simp [hi], rfl, ?_⟩
      have hcell := hT i c h1
      cases c with
      | nil => exact absurd rfl h4
      | cons v0 cs =>
        have h0 := hcell 0 v0 rfl
        simp only [World.cell?] at h0
        split at h0
        · rename_i c' e fz hb
          refine ⟨c', e, fz, hb, fun j v hj => ⟨?_, List.all_eq_true.1 h3 v (List.mem_of_getElem? hj)⟩⟩
          have := hcell j v hj
          simp only [World.cell?, hb] at this
          simpa using this
        · cases h0
    · rw [hlow i (Heap.get_lt hi)] at hp
      rw [hlow j (Heap.get_lt hj)] at hq
      simp only [hi, hj] at hp hq
      cases hp; cases hq
      exact e
    · rw [hlow i h2]
      cases hg : (tabsH tabs).get i with
      | none => simp
      | some o => obtain ⟨_, _, _, h3, _⟩ := hget i o hg; dsimp only at h1; omega
  have := (lev_ok (drawF_ok P) k).call f args ⟨tabsH tabs, n⟩ _ S' hc _ w args' hgood ha
  refine (callsIn_wide (n := 0)).1 (CallsIn.mono this fun e w' he => ?_)
  obtain ⟨v', μ', rfl, hvr, _, hg, _⟩ := he
  rw [hvr.eq_of_dat rfl]
  exact ⟨rfl, hg.os, hg.tape, hg.output, hg.size, fun k hk => hg.frame k hk fun j o p hj ht => (by obtain ⟨c, _, rfl, _⟩ := hget j o hj; cases ht)⟩
end Go.Ge

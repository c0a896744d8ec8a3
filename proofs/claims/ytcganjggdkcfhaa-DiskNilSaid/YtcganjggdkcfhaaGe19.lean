/-
  Evaluation of closed calls: regions that draw their order: the operations that change what is there, the end.
-/
import Derived.Test.YtcganjggdkcfhaaGe18
set_option linter.unusedVariables false
set_option linter.unusedSimpArgs false
namespace Go.Ge

section
variable {P : Program} {E : Evs} {ops : Array Oper} {M : T Nat} {base n : Nat} {D : List Nat} {R0 : T Value} {h0 : Heap} {Vf : T Value} {Of : T AObj} {HK : AS}
variable {r : Option Nat} {μ₀ : Mu} {S₀ : AS} {w₀ : World} {listed : Array Bool} {a : Act} {w : World} {pre rest : List Nat} {H : AS} {μ : Mu} {f : Nat → Option AObj}

/-- an operation that may change what is there: it is the next of them -/
theorem inv_big (hE : EvsOk P E) (hm : Made ops ops.size M) (hsz : ops.size ≤ 1000) (hlt : S₀.nx + ops.size < 65536) (hd : dstsOk ops n = true) (hch : chainOk M (bigs ops) = true) {Q : Exit → Act → World → Prop}
    (I : Inv P E ops M n D R0 Vf Of HK μ₀ S₀ w₀ listed a w pre rest H μ f) {i : Nat} {o : Oper} (hi : i < ops.size) (hun : ¬ L listed i) (ho : ops[i]? = some o) (hp : ∀ e ∈ o.after, Region.binds .any e = true → listed.getD e.on false = true) (hb : isBig o.op = true)
    {K : Act → World → Prop} (hK : ∀ a' w', (∃ pre rest H μ f, Inv P E ops M n D R0 Vf Of HK μ₀ S₀ w₀ (listed.setIfInBounds i true) a' w' pre rest H μ f) → K a' w') : wpOpIn (W r) 0 P ops Q i K a w := by
  have hdone := hm.done (L := L listed) I.closed i hi (fun o' ho' => by rw [ho] at ho'; cases ho'; exact hp)
  have hs : i < listed.size := by rw [I.size]; exact hi
  have hset : ∀ j, L (listed.setIfInBounds i true) j ↔ L listed j ∨ j = i := fun j => L_set hs
  have himem : i ∈ bigs ops := by
    unfold bigs
    rw [List.mem_filter]
    refine ⟨List.mem_range.2 hi, ?_⟩
    rw [ho]
    exact hb
  have hirest : i ∈ rest := by
    rw [I.split] at himem
    rcases List.mem_append.1 himem with h | h
    · exact absurd (I.done i h) hun
    · exact h
  obtain ⟨rest', rfl⟩ : ∃ rest', rest = i :: rest' := by
    cases rest with
    | nil => cases hirest
    | cons d rest' =>
      rcases List.mem_cons.1 hirest with rfl | h
      · exact ⟨rest', rfl⟩
      · have hpw := chainOk_pair hch
        rw [I.split] at hpw
        have := (List.pairwise_cons.1 (List.pairwise_append.1 hpw).2.1).1 i h
        exact absurd (hdone d this) (I.todo d (List.mem_cons_self ..))
  have hnd : (bigs ops).Nodup := List.Pairwise.filter _ List.nodup_range
  have hinot : i ∉ rest' := by
    rw [I.split] at hnd
    exact (List.nodup_cons.1 (List.nodup_append.1 hnd).2.1).1
  have hipre : i ∉ pre := fun h => hun (I.done i h)
  obtain ⟨_, H', hbf, hfacts⟩ := I.facts
  obtain ⟨V, O, o', v, hle, hal, ho', hr, hV, hO⟩ := hbf
  rw [ho] at ho'
  cases ho'
  have hev := I.fr.ev (Exists.choose_spec I.good0).rel I.goes.le hsz hle hdone hun (fun y hy hL => fun x hx => I.inD_done hm hy hL hx)
  have hsub := I.at_sub hsz hlt hle hal hdone
  have hsplit : bigs ops = (pre ++ [i]) ++ rest' := by rw [I.split]; simp
  have hdone' : ∀ d ∈ pre ++ [i], L (listed.setIfInBounds i true) d := fun d hd => by
    rcases List.mem_append.1 hd with h | h
    · exact (hset d).2 (.inl (I.done d h))
    · exact (hset d).2 (.inr (by simpa using h))
  have htodo' : ∀ d ∈ rest', ¬ L (listed.setIfInBounds i true) d := fun d hd hL => by
    rcases (hset d).1 hL with h | rfl
    · exact I.todo d (List.mem_cons_of_mem _ hd) h
    · exact hinot hd
  have hbigO : ∀ d ∈ pre ++ [i], T.get 10 Of d = none := fun d hd => by
    rcases List.mem_append.1 hd with h | h
    · exact I.bigO d h
    · have : d = i := by simpa using h
      subst this; exact hO
  -- what is not at hand for it
  have hnone : ∀ y, y < ops.size → y ∉ pre → inD M (pre ++ [i]) y = false → (heapAt ops M S₀.nx pre O H.h i).get (S₀.nx + y) = none := by
    intro y hy hyp hin
    rw [inD_snoc, Bool.or_eq_false_iff] at hin
    refine addO_none _ _ _ (fun z hz => by have := List.mem_range.1 hz; omega) (I.absent y hy hyp hin.1) fun z hz e => ?_
    have : z = y := by omega
    subst this
    simp [selS, hin.2]
  have hobjs : ∀ y o2, y < ops.size → L (listed.setIfInBounds i true) y → inD M (pre ++ [i]) y = false → T.get 10 Of y = some o2 → f (S₀.nx + y) = some o2 ∧ (heapAt ops M S₀.nx pre O H.h i).get (S₀.nx + y) = none := by
    intro y o2 hy hL hin hO2
    have hin' := hin
    rw [inD_snoc, Bool.or_eq_false_iff] at hin'
    have hyi : y ≠ i := by rintro rfl; rw [hO] at hO2; cases hO2
    have hyp : y ∉ pre := fun h => by rw [I.bigO y h] at hO2; cases hO2
    have hLy : L listed y := by
      rcases (hset y).1 hL with h | h
      · exact h
      · exact absurd h hyi
    exact ⟨I.objs y o2 hy hLy hin'.1 hO2, hnone y hy hyp hin⟩
  have htab : ∀ j o2, S₀.h.get j = some o2 → o2.isTab = true → (heapAt ops M S₀.nx pre O H.h i).get j = some o2 := fun j o2 hj ht => by
    have hjlt : j < S₀.nx := by
      obtain ⟨w₁, g0⟩ := I.good0
      obtain ⟨p, hp, _⟩ := g0.rel.live j o2 hj
      rcases Nat.lt_or_ge j S₀.nx with h | h
      · exact h
      · rw [g0.dom j h (Heap.get_lt hj)] at hp; cases hp
    exact addO_keep _ _ j o2 (fun z hz => by have := List.mem_range.1 hz; omega) (fun z _ => by omega) (I.tabs j o2 hj ht)
  unfold bigR at hr
  split at hr
  · cases hr
  · rename_i hw
    have hwt := I.fr.wanted hsz hd hle hdone hw
    unfold wpOpIn
    simp only [ho, hwt, if_true]
    have hg : Good μ ⟨heapAt ops M S₀.nx pre O H.h i, H.nx⟩ w := ⟨I.rel.toRel hsub, I.dom⟩
    have hidn := I.names i hi hun
    have hbase := I.base
    refine opStep_wp hE (S := ⟨heapAt ops M S₀.nx pre O H.h i, H.nx⟩) hg hev hidn (by dsimp only; omega) hr fun μ' u w' hu hbh => hK _ _ ?_
    have hfid : f (S₀.nx + i) = none := by
      cases hc : f (S₀.nx + i) with
      | none => rfl
      | some o => obtain ⟨p, h1, _⟩ := I.rel.live _ o hc; rw [hidn] at h1; cases h1
    obtain ⟨g, g1, g2, g3, g4, g5⟩ := step_in I.rel I.goes hsub hbh.goes hbh.good.rel (fun j o hj _ => ⟨I.lt hj, fun e => by subst e; rw [hfid] at hj; cases hj⟩) (by dsimp only; omega) (by omega)
    have hnx := hbh.nx
    dsimp only at hnx
    refine ⟨pre ++ [i], rest', H', μ', g, ⟨by simp [I.size], closed_set I hi ho hp, hsplit, hfacts, hdone', htodo', (I.fr.mono hbh.goes.le).put hd hi I.size hu hV ho, g1, g2, by omega, g3, fun y o2 hy hL hin hO2 => ?_, hbh.good.dom, fun y hy hL => ?_, fun j o hj => ?_, fun y hy hyp hin => ?_, hbigO, I.good0, fun j o2 hj ht => hbh.goes.tabs j o2 (htab j o2 hj ht) ht⟩⟩
    · obtain ⟨k1, k2⟩ := hobjs y o2 hy hL hin hO2
      exact g4 _ _ k1 k2
    · have hne : ¬ L listed y ∧ y ≠ i := ⟨fun h => hL ((hset y).2 (.inl h)), fun h => hL ((hset y).2 (.inr h))⟩
      rw [(hbh.goes.low (S₀.nx + y) (by dsimp only; omega) (by omega)).1]
      exact I.names y hy hne.1
    · rcases g5 j (by rw [hj]; simp) with h | h
      · cases hc : f j with
        | none => exact absurd hc h
        | some o2 => exact I.small j o2 hc
      · cases hc : H'.h.get j with
        | none => exact absurd hc h
        | some o2 => exact Heap.get_lt hc
    · have hyi : y ≠ i := fun e => hyp (by rw [e]; simp)
      exact (hbh.goes.low (S₀.nx + y) (by dsimp only; omega) (by omega)).2 (hnone y hy (fun h => hyp (List.mem_append_left _ h)) hin)
  · rename_i hw
    simp only [Option.some.injEq, Prod.mk.injEq] at hr
    obtain ⟨rfl, rfl⟩ := hr
    have hwt := I.fr.wanted hsz hd hle hdone hw
    unfold wpOpIn
    simp only [ho, hwt, Bool.false_eq_true, if_false]
    refine ⟨fun _ _ => trivial, hK _ _ ⟨pre ++ [i], rest', _, μ, f, ⟨by simp [I.size], closed_set I hi ho hp, hsplit, hfacts, hdone', htodo', I.fr.put hd hi I.size undefVR hV ho, I.rel, I.goes, I.base, hsub, fun y o2 hy hL hin hO2 => (hobjs y o2 hy hL hin hO2).1, I.dom, fun y hy hL => I.names y hy fun h => hL ((hset y).2 (.inl h)), I.small, fun y hy hyp hin => ?_, hbigO, I.good0, htab⟩⟩⟩
    exact hnone y hy (fun h => hyp (List.mem_append_left _ h)) hin

theorem maskF_lt : ∀ (l : List Oper) (i : Nat) (M M' : T Nat), maskF l i M = some M' → ∀ j o, l[j]? = some o → ∀ e ∈ o.after, Region.binds .any e = true → e.on < i + j
  | [], i, M, M', _, j, o, ho => by simp at ho
  | o₀ :: os, i, M, M', h, j, o, ho => by
    simp only [maskF] at h
    split at h
    · rename_i s hs
      have hedge : ∀ (es : List Edge) (s : Nat), edgeMask M es i = some s → ∀ e ∈ es, Region.binds .any e = true → e.on < i := by
        intro es
        induction es with
        | nil => intro s _ e he; cases he
        | cons e₀ es ih =>
          intro s hs e he hb
          simp only [edgeMask] at hs
          split at hs
          · rename_i s' hs'
            rcases List.mem_cons.1 he with rfl | he
            · rw [if_pos hb] at hs
              split at hs
              · split at hs
                · assumption
                · cases hs
              · cases hs
            · exact ih s' hs' e he hb
          · cases hs
      cases j with
      | zero =>
        simp at ho
        subst ho
        intro e he hb
        exact hedge _ s hs e (by simpa using he) hb
      | succ j =>
        have := maskF_lt os (i + 1) _ M' h j o (by simpa using ho)
        intro e he hb
        have := this e he hb
        omega
    · cases h

theorem drawF_ok (P : Program) : DrOk P (drawF P) := by
  intro E hE r id ops n R S R' S' hl μ w D a g fr
  unfold drawF at hl
  split at hl
  · rename_i hc
    obtain ⟨hmix, hsz, hlt, hdst⟩ := hc
    split at hl
    · rename_i M hM
      split at hl
      · rename_i hch
        split at hl
        · rename_i Vf Of HK hph
          split at hl
          · rename_i R₁ hR
            cases hl
            have hmade : Made ops ops.size M := by
              have := maskF_made (ops := ops) ops.toList 0 .leaf M (fun j => by simp) (by simp; omega) (fun i x hi => by omega) hM
              simpa using this
            have hedge : ∀ i o, ops[i]? = some o → ∀ e ∈ o.after, Region.binds .any e = true → e.on < i := fun i o ho e he hb => by
              have := maskF_lt ops.toList 0 .leaf M hM i o (by simpa using ho) e he hb
              omega
            obtain ⟨_, _, hfacts⟩ := phF_ok hsz (bigs ops) [] ⟨S.h, S.nx + ops.size⟩ .leaf .leaf Vf Of HK (fun d hd => by have := (mem_bigs hd).1; omega) (fun i _ _ => T.get_leaf 10 i) hph
            have hrep : ∀ i, i < ops.size → (Array.replicate ops.size false).getD i false = false := fun i hi => by simp [hi]
            have hno : ∀ i, ¬ L (Array.replicate ops.size false) i := fun i h => by
              unfold L at h
              by_cases hi : i < ops.size
              · rw [hrep i hi] at h; cases h
              · simp [hi] at h
            have hS : ∀ j o, S.h.get j = some o → j < S.nx := fun j o hj => by
              obtain ⟨p, hp, _⟩ := g.rel.live j o hj
              rcases Nat.lt_or_ge j S.nx with h | h
              · exact h
              · rw [g.dom j h (Heap.get_lt hj)] at hp; cases hp
            refine wpIn_region_any hmix ?_
            refine wpAnyIn_of (fun listed a' w' => ∃ pre rest H μ' f, Inv P E ops M n D R Vf Of HK μ S w listed a' w' pre rest H μ' f) ?_ ops.size _ a _ ?_ (Nat.le_trans List.countP_le_length (by simp))
            · rintro listed a' w' ⟨pre, rest, H, μ', f, I⟩
              have hready : ∀ i ∈ Region.ready .any ops listed, ∃ o, i < ops.size ∧ ¬ L listed i ∧ ops[i]? = some o ∧ ∀ e ∈ o.after, Region.binds .any e = true → listed.getD e.on false = true := by
                intro i hi
                rw [mem_ready] at hi
                obtain ⟨h0, o, ho, hall⟩ := hi
                have hlt' := (Array.getElem?_eq_some_iff.1 ho).1
                refine ⟨o, hlt', fun hL => ?_, ho, hall⟩
                unfold L at hL
                have hsz' : i < listed.size := by rw [I.size]; exact hlt'
                simp [hsz'] at h0 hL
                rw [h0] at hL; cases hL
              refine ⟨I.size, fun hnil => ?_, fun i hi => ?_⟩
              · -- all is done
                have hall : ∀ i, i < ops.size → L listed i := by
                  intro i
                  induction i using Nat.strongRecOn with
                  | _ i ih =>
                    intro hi
                    by_cases hL : L listed i
                    · exact hL
                    · have : i ∈ Region.ready .any ops listed := by
                        rw [mem_ready]
                        have hsz' : i < listed.size := by rw [I.size]; exact hi
                        refine ⟨?_, ops[i], Array.getElem?_eq_getElem hi, fun e he hb => ?_⟩
                        · unfold L at hL
                          simp [hsz'] at hL ⊢
                          exact hL
                        · have := hedge i _ (Array.getElem?_eq_getElem hi) e he hb
                          exact ih e.on this (by omega)
                      rw [hnil] at this
                      cases this
                have hrest : rest = [] := by
                  cases rest with
                  | nil => rfl
                  | cons d rest' => exact absurd (hall d (mem_bigs (by rw [I.split]; simp)).1) (I.todo d (List.mem_cons_self ..))
                subst hrest
                have hpre : bigs ops = pre := by rw [I.split]; simp
                obtain ⟨_, rfl⟩ := I.facts
                have hsubf : ∀ j o, (addO S.nx Of (fun y => !inD M (bigs ops) y) (List.range ops.size) H.h).get j = some o → f j = some o := by
                  intro j o hj
                  rcases addO_get _ _ j o (fun y hy => by have := List.mem_range.1 hy; omega) hj with ⟨y, h1, rfl, h3, h4⟩ | h1
                  · have hy := List.mem_range.1 h1
                    rw [hpre] at h3
                    exact I.objs y o hy (hall y hy) (by simpa using h3) h4
                  · exact I.has j o h1
                have hgs := I.goes.sub (g := (addO S.nx Of (fun y => !inD M (bigs ops) y) (List.range ops.size) H.h).get) hsubf (fun j o hj ht => addO_keep _ _ j o (fun z hz => by have := List.mem_range.1 hz; omega) (fun z _ => by have := hS j o hj; omega) (I.tabs j o hj ht))
                refine ⟨rfl, μ', ⟨I.rel.toRel hsubf, I.dom⟩, ⟨I.fr.sz, fun t v ht => ?_, I.fr.dn⟩, ⟨hgs.le, hgs.news, fun i hi _ => hgs.low i hi, hgs.old, hgs.tabs, hgs.frame, hgs.size, hgs.os, hgs.tape, hgs.output⟩, by have := I.base; dsimp only; omega⟩
                refine I.fr.reg t v ?_
                unfold evAt
                rcases finR_get _ _ _ hR t v ht with ⟨y, h1, h2, h3⟩ | ⟨h1, h2⟩
                · have hy := List.mem_range.1 h1
                  obtain ⟨_, _, k3⟩ := dstsOk_spec hdst hy h2
                  rw [k3]
                  simp only
                  rw [if_pos (show listed.getD y false = true from hall y hy)]
                  exact h3
                · cases hwr : wrF ops t (List.range ops.size) with
                  | none => exact h2
                  | some y => exact absurd (wrF_spec hwr).2 (h1 y (wrF_spec hwr).1)
              · obtain ⟨o, h1, h2, h3, h4⟩ := hready i hi
                by_cases hb : isBig o.op = true
                · exact inv_big hE hmade hsz hlt hdst hch I h1 h2 h3 h4 hb fun _ _ h => h
                · exact inv_small hE hmade hsz hlt hdst I h1 h2 h3 h4 (by simpa using hb) fun _ _ h => h
            · refine ⟨[], bigs ops, ⟨S.h, S.nx + ops.size⟩, μ, S.h.get, ⟨by simp, fun i o _ hL => absurd hL (hno i), rfl, hfacts, fun d hd => (by cases hd), fun d _ => hno d, ⟨fr.sz, fr.dn, fun t v ht => ?_⟩, (g.rel.drew _).toF, ⟨Mu.le_refl _, fun _ _ e => .inl e, fun _ _ => ⟨rfl, fun h => h⟩, fun _ _ _ h => h, fun _ _ h _ => h, fun _ _ _ => rfl, Nat.le_refl _, rfl, rfl, rfl⟩, Nat.le_refl _, fun _ _ h => h, fun y o _ hL => absurd hL (hno y), fun i h1 h2 => g.dom i (by dsimp only at h1; omega) h2, fun y hy _ => g.dom _ (by omega) (by omega), fun j o hj => Heap.get_lt hj, fun y hy _ _ => ?_, fun d hd => (by cases hd), ⟨w, g⟩, fun _ _ h _ => h⟩⟩
              · refine fr.reg t v ?_
                unfold evAt at ht
                split at ht
                · rename_i y hy
                  have hym := List.mem_range.1 (wrF_spec hy).1
                  rw [hrep y hym] at ht
                  exact ht
                · exact ht
              · dsimp only
                cases hc : S.h.get (S.nx + y) with
                | none => rfl
                | some o => have := hS _ o hc; omega
          · cases hl
        · cases hl
      · cases hl
    · cases hl
  · cases hl
end
end Go.Ge

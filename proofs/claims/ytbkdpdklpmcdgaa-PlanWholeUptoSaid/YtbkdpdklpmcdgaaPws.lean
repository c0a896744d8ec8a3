/-
  Plain: what a plan is like: each literal once, none that asks ahead of what binds its variables, and as soon as it can.
-/
import Derived.Test.YtbkdpdklpmcdgaaPol
set_option linter.unusedVariables false
set_option linter.unusedSimpArgs false
namespace Go.Proofs.Ytbkdpdklpmcdgaa
open Go.Maps Go.ChangeMaps Go.WideMaps Go.RowKit

theorem putT_mem {xs : List ByteArray} {t : Tm} {x : ByteArray} : x ∈ putT xs t ↔ x ∈ xs ∨ (t.v.size ≠ 0 ∧ x = t.v) := by
  unfold putT
  split
  · rename_i h; simp [h]
  · rename_i h; rw [addS_mem]; simp [h]
theorem putTs_mem : ∀ (l : List Tm) (xs : List ByteArray) (x : ByteArray), x ∈ l.foldl putT xs ↔ x ∈ xs ∨ ∃ t ∈ l, t.v.size ≠ 0 ∧ x = t.v
  | [], xs, x => by simp
  | t :: r, xs, x => by
    rw [List.foldl_cons, putTs_mem r, putT_mem]
    simp only [List.mem_cons, exists_eq_or_imp, or_assoc]
theorem vars_of {f : Fl} {x : ByteArray} : x ∈ litN [] f ↔ ∃ t ∈ f.args, t.v.size ≠ 0 ∧ x = t.v := by
  unfold litN; rw [putTs_mem]; simp
theorem known_all {V : List ByteArray} {f : Fl} : knownN V f.args = f.args.length ↔ ∀ v ∈ litN [] f, hasS V v = true := by
  unfold knownN
  rw [List.countP_eq_length]
  constructor
  · intro h v hv
    obtain ⟨t, ht, h0, rfl⟩ := vars_of.1 hv
    have := h t ht
    unfold knownS at this
    rw [decide_eq_false h0] at this
    simpa using this
  · intro h t ht
    unfold knownS
    by_cases h0 : t.v.size = 0
    · simp [h0]
    · rw [h t.v (vars_of.2 ⟨t, ht, h0, rfl⟩)]; simp
theorem known_not {V : List ByteArray} {f : Fl} (h : knownN V f.args ≠ f.args.length) : ∃ v ∈ litN [] f, hasS V v = false := by
  refine Classical.byContradiction fun hn => h (known_all.2 fun v hv => ?_)
  cases hh : hasS V v with
  | true => rfl
  | false => exact absurd ⟨v, hv, hh⟩ hn
/-- how the literal that a plan takes next stands to those ahead of it -/
structure AtW (body : List Fl) (l : List Int) (n : Nat) : Prop where
  lt : n < body.length
  new : ¬ (n : Int) ∈ l
  ask : body[n].kind ≠ 1 → ∀ v ∈ litN [] body[n], hasS (varsN (bindN body l)) v = true
  bnd : body[n].kind = 1 → l ≠ [] → ∀ j (hj : j < body.length), ¬ (j : Int) ∈ l → body[j].kind ≠ 1 → ∃ v ∈ litN [] body[j], hasS (varsN (bindN body l)) v = false
theorem next_atw {body : List Fl} {l : List Int} {k : Nat} (h : nextS body (varsN (bindN body l)) l = some k) : AtW body l k := by
  unfold nextS at h
  split at h
  · rename_i k' hf
    cases h
    have h1 := List.find?_some hf
    unfold fullB at h1
    by_cases hk : k < body.length
    · rw [List.getElem?_eq_getElem hk] at h1
      simp only [Bool.and_eq_true, Bool.not_eq_true', decide_eq_false_iff_not, bne_iff_ne, beq_iff_eq] at h1
      exact ⟨hk, h1.1, fun _ => known_all.1 h1.2.2, fun e => absurd e h1.2.1⟩
    · rw [List.getElem?_eq_none (by omega)] at h1
      cases h1
  · rename_i hf
    obtain ⟨h1, h2, h3⟩ := bestS_new h
    refine ⟨h2, h1, fun e => absurd h3 e, fun _ _ j hj hn hk => ?_⟩
    rw [List.find?_eq_none] at hf
    have := hf j (List.mem_range.2 hj)
    refine known_not fun e => this ?_
    unfold fullB
    rw [List.getElem?_eq_getElem hj]
    simp [hn, hk, e]
theorem go_path {body : List Fl} (hk : kindsB body = true) : ∀ (n : Nat) (l L : List Int), GoodL body l → goS body n l = some L → GoodL body L ∧ body.length ≤ L.length ∧ L.take l.length = l ∧ l.length ≤ L.length ∧
    ∀ i, l.length ≤ i → i < L.length → ∃ k : Nat, L[i]? = some (k : Int) ∧ nextS body (varsN (bindN body (L.take i))) (L.take i) = some k
  | 0, l, L, hg, h => by
    rw [goS] at h
    split at h
    · rename_i hl
      cases h
      exact ⟨hg, hl, List.take_of_length_le (Nat.le_refl _), Nat.le_refl _, fun i h1 h2 => by omega⟩
    · cases h
  | n + 1, l, L, hg, h => by
    rw [goS] at h
    split at h
    · rename_i hl
      cases h
      exact ⟨hg, hl, List.take_of_length_le (Nat.le_refl _), Nat.le_refl _, fun i h1 h2 => by omega⟩
    · cases hn : nextS body (varsN (bindN body l)) l with
      | none => rw [hn] at h; cases h
      | some k =>
        rw [hn] at h
        have hn' := hn
        rw [← nextC_eq hk] at hn'
        obtain ⟨h1, h2⟩ := nextC_new hn'
        obtain ⟨g1, g2, g3, g4, g5⟩ := go_path hk n _ L (good_more hg h1 h2) h
        rw [List.length_append, List.length_singleton] at g3 g4 g5
        have e : L.take l.length = l := by
          have := congrArg (List.take l.length) g3
          rw [List.take_take, Nat.min_eq_left (Nat.le_succ _), List.take_left' rfl] at this
          exact this
        refine ⟨g1, g2, e, by omega, fun i hi hi2 => ?_⟩
        by_cases e2 : i = l.length
        · subst e2
          refine ⟨k, ?_, by rw [e]; exact hn⟩
          have : (L.take (l.length + 1))[l.length]? = some (k : Int) := by rw [g3]; simp
          rw [List.getElem?_take_of_succ] at this
          exact this
        · exact g5 i (by omega) hi2
/-- a plan -/
structure WholeW (body : List Fl) (L : List Int) : Prop where
  len : L.length = body.length
  at_ : ∀ i (hi : i < L.length), ∃ n : Nat, L[i] = (n : Int) ∧ AtW body (L.take i) n
theorem good_le {body : List Fl} {l : List Int} (h : GoodL body l) : l.length ≤ body.length := by
  have h2 : l ⊆ (List.range body.length).map fun n : Nat => (n : Int) := fun x hx => by
    obtain ⟨n, hn, rfl, _⟩ := h.2 _ hx
    exact List.mem_map.2 ⟨n, List.mem_range.2 hn, rfl⟩
  have := h.1.length_le_of_subset h2
  simpa using this
theorem goes_whole {body : List Fl} {l L : List Int} (hg : GoodL body l) (h1 : ∀ i (hi : i < l.length), i = 0 ∧ ∃ n : Nat, l[i] = (n : Int) ∧ ∃ h : n < body.length, body[n].kind = 1) (h : goesS body l = some L) : WholeW body L := by
  unfold goesS at h
  split at h
  · rename_i hk
    obtain ⟨g1, g2, g3, g4, g5⟩ := go_path hk _ l L hg h
    have := good_le g1
    refine ⟨by omega, fun i hi => ?_⟩
    by_cases hl : i < l.length
    · obtain ⟨rfl, n, e, hn, hk1⟩ := h1 i hl
      refine ⟨n, ?_, hn, by simp, fun e2 => absurd hk1 e2, fun _ e2 => absurd (by simp) e2⟩
      rw [← e]
      have : (L.take l.length)[0]? = l[0]? := by rw [g3]
      rw [List.getElem?_take_of_lt hl, List.getElem?_eq_getElem hi, List.getElem?_eq_getElem hl] at this
      exact Option.some.inj this
    · obtain ⟨k, e1, e2⟩ := g5 i (by omega) hi
      rw [List.getElem?_eq_getElem hi] at e1
      exact ⟨k, Option.some.inj e1, next_atw e2⟩
  · cases h
theorem order_whole {body : List Fl} {L : List Int} (h : goesS body [] = some L) : WholeW body L := goes_whole (good_nil _) (fun i hi => absurd hi (by simp)) h
theorem from_whole {body : List Fl} {k : Int} {L : List Int} (h : fromS body k = some L) : WholeW body L := by
  unfold fromS at h
  split at h
  · rename_i h0
    obtain ⟨n, rfl⟩ := Int.eq_ofNat_of_zero_le h0
    rw [Int.toNat_natCast] at h
    split at h
    · rename_i f hf
      obtain ⟨hn, rfl⟩ := List.getElem?_eq_some_iff.1 hf
      split at h
      · rename_i hk
        refine goes_whole (good_one hn hk) (fun i hi => ?_) h
        have h0 : i = 0 := by simpa using hi
        subst h0
        exact ⟨rfl, n, rfl, hn, hk⟩
      · cases h
    · cases h
  · cases h
end Go.Proofs.Ytbkdpdklpmcdgaa

/-
  Plain: what plan.onwards comes to, and that it is the reference's plan.
-/
import Derived.Test.YtbkdpdklpmcdgaaPnm
set_option linter.unusedVariables false
set_option linter.unusedSimpArgs false
namespace Go.Proofs.Ytbkdpdklpmcdgaa
open Go.Maps Go.ChangeMaps Go.WideMaps Go.RowKit

def askB (k : Int) : Bool := k == 2 || (k == 3 || k == 4)
/-- as fullB, by the kinds that ask -/
def fullC (body : List Fl) (V : List ByteArray) (l : List Int) (k : Nat) : Bool := match body[k]? with
  | some f => !decide ((k : Int) ∈ l) && (askB f.kind && (knownN V f.args == f.args.length))
  | none => false
def nextC (body : List Fl) (V : List ByteArray) (l : List Int) : Option Nat := match (List.range body.length).find? (fullC body V l) with
  | some k => some k
  | none => bestS body V l body.length
def goC (body : List Fl) : Nat → List Int → Option (List Int)
  | 0, l => if body.length ≤ l.length then some l else none
  | n + 1, l => if body.length ≤ l.length then some l else match nextC body (varsN (bindN body l)) l with
    | none => none
    | some k => goC body n (l ++ [(k : Int)])
theorem bind_snoc {body : List Fl} {L : List Int} {k : Nat} (hk : k < body.length) : varsN (bindN body (L ++ [(k : Int)])) = if body[k].kind = 1 then litN (varsN (bindN body L)) body[k] else varsN (bindN body L) := by
  unfold bindN
  rw [List.foldl_append]
  show varsN (bindS body (L.foldl (bindS body) []) (k : Int)) = _
  rw [bound_step, if_pos (by omega), Int.toNat_natCast, List.getElem?_eq_getElem hk]
  simp only
  split
  · exact (litN_adds _ _).symm
  · rfl
/-- the numbers of a plan: each once, each of a literal that there is and of a kind that there is -/
def GoodL (body : List Fl) (l : List Int) : Prop := l.Nodup ∧ ∀ k ∈ l, ∃ (n : Nat) (h : n < body.length), k = (n : Int) ∧ 1 ≤ body[n].kind ∧ body[n].kind ≤ 4
theorem ask_kind {k : Int} (h1 : 1 ≤ k) (h4 : k ≤ 4) : askB k = (k != 1) := by
  rcases (show k = 1 ∨ k = 2 ∨ k = 3 ∨ k = 4 by omega) with rfl | rfl | rfl | rfl <;> rfl
theorem ask_in {k : Int} (h : askB k = true) : 1 ≤ k ∧ k ≤ 4 := by
  unfold askB at h
  simp at h
  omega
theorem kinds_at {body : List Fl} (h : kindsB body = true) {k : Nat} (hk : k < body.length) : 1 ≤ body[k].kind ∧ body[k].kind ≤ 4 := by
  unfold kindsB at h
  rw [List.all_eq_true] at h
  simpa using h _ (List.getElem_mem hk)
theorem fullC_eq {body : List Fl} (h : kindsB body = true) (V : List ByteArray) (l : List Int) (k : Nat) : fullC body V l k = fullB body V l k := by
  unfold fullC fullB
  by_cases hk : k < body.length
  · rw [List.getElem?_eq_getElem hk]
    have := kinds_at h hk
    simp only
    rw [ask_kind this.1 this.2]
  · rw [List.getElem?_eq_none (by omega)]
theorem nextC_eq {body : List Fl} (h : kindsB body = true) (V : List ByteArray) (l : List Int) : nextC body V l = nextS body V l := by
  unfold nextC nextS
  rw [show fullC body V l = fullB body V l from funext (fullC_eq h V l)]
  cases (List.range body.length).find? (fullB body V l) <;> rfl
theorem goC_yes {body : List Fl} (h : kindsB body = true) : ∀ (n : Nat) (l : List Int), goC body n l = goS body n l
  | 0, l => rfl
  | n + 1, l => by
    rw [goC, goS, nextC_eq h]
    split
    · rfl
    · cases nextS body (varsN (bindN body l)) l with
      | none => rfl
      | some k => exact goC_yes h n _
theorem bestS_new {body : List Fl} {V : List ByteArray} {l : List Int} : ∀ {k m : Nat}, bestS body V l k = some m → ¬ (m : Int) ∈ l ∧ ∃ h : m < body.length, body[m].kind = 1
  | 0, m, h => by simp [bestS] at h
  | k + 1, m, h => by
    by_cases hk : k < body.length
    · by_cases hs : (k : Int) ∈ l ∨ body[k].kind ≠ 1
      · rw [bestS_skip hk hs] at h
        exact bestS_new h
      · have h1 : ¬ (k : Int) ∈ l := fun e => hs (.inl e)
        have h2 : body[k].kind = 1 := Decidable.byContradiction fun e => hs (.inr e)
        cases hb : bestS body V l k with
        | none =>
          rw [bestS_first hk h1 h2 hb] at h
          cases h
          exact ⟨h1, hk, h2⟩
        | some m' =>
          have hm := (bestS_lt body V l k m' hb).2
          rw [bestS_more hk h1 h2 hm hb] at h
          split at h
          · cases h; exact ⟨h1, hk, h2⟩
          · cases h; exact bestS_new hb
    · rw [bestS, List.getElem?_eq_none (by omega)] at h
      exact bestS_new h
theorem nextC_new {body : List Fl} {V : List ByteArray} {l : List Int} {k : Nat} (h : nextC body V l = some k) : ¬ (k : Int) ∈ l ∧ ∃ h : k < body.length, 1 ≤ body[k].kind ∧ body[k].kind ≤ 4 := by
  unfold nextC at h
  split at h
  · rename_i k' hf
    cases h
    have h1 := List.find?_some hf
    unfold fullC at h1
    by_cases hk : k < body.length
    · rw [List.getElem?_eq_getElem hk] at h1
      simp only [Bool.and_eq_true, Bool.not_eq_true', decide_eq_false_iff_not] at h1
      exact ⟨h1.1, hk, ask_in h1.2.1⟩
    · rw [List.getElem?_eq_none (by omega)] at h1
      cases h1
  · obtain ⟨h1, h2, h3⟩ := bestS_new h
    exact ⟨h1, h2, by omega, by omega⟩
theorem good_more {body : List Fl} {l : List Int} {k : Nat} (h : GoodL body l) (hn : ¬ (k : Int) ∈ l) (hk : ∃ h : k < body.length, 1 ≤ body[k].kind ∧ body[k].kind ≤ 4) : GoodL body (l ++ [(k : Int)]) := by
  refine ⟨List.nodup_append.2 ⟨h.1, by simp, fun a ha b hb => ?_⟩, fun x hx => ?_⟩
  · rw [List.mem_singleton.1 hb]
    exact fun e => hn (e ▸ ha)
  · rcases List.mem_append.1 hx with hx | hx
    · exact h.2 x hx
    · obtain ⟨h1, h2⟩ := hk
      exact ⟨k, h1, List.mem_singleton.1 hx, h2⟩
/-- where a kind is none of the four, no plan is whole -/
theorem good_short {body : List Fl} {l : List Int} (h : GoodL body l) {b : Nat} (hb : b < body.length) (hk : ¬ (1 ≤ body[b].kind ∧ body[b].kind ≤ 4)) : l.length < body.length := by
  have h1 : ((b : Int) :: l).Nodup := List.nodup_cons.2 ⟨fun e => by
    obtain ⟨n, hn, e, h2⟩ := h.2 _ e
    have : b = n := by omega
    subst this
    exact hk h2, h.1⟩
  have h2 : ((b : Int) :: l) ⊆ (List.range body.length).map fun n : Nat => (n : Int) := fun x hx => by
    rcases List.mem_cons.1 hx with rfl | hx
    · exact List.mem_map.2 ⟨b, List.mem_range.2 hb, rfl⟩
    · obtain ⟨n, hn, rfl, _⟩ := h.2 _ hx
      exact List.mem_map.2 ⟨n, List.mem_range.2 hn, rfl⟩
  have := h1.length_le_of_subset h2
  simp at this
  omega
theorem goC_no {body : List Fl} {b : Nat} (hb : b < body.length) (hk : ¬ (1 ≤ body[b].kind ∧ body[b].kind ≤ 4)) : ∀ (n : Nat) (l : List Int), GoodL body l → goC body n l = none
  | 0, l, h => by
    have := good_short h hb hk
    rw [goC, if_neg (by omega)]
  | n + 1, l, h => by
    have := good_short h hb hk
    rw [goC, if_neg (by omega)]
    split
    · rfl
    · rename_i k hn
      obtain ⟨h1, h2⟩ := nextC_new hn
      exact goC_no hb hk n _ (good_more h h1 h2)
/-- the code's plan is the reference's -/
theorem goC_eq {body : List Fl} {l : List Int} (h : GoodL body l) : goC body (body.length - l.length) l = goesS body l := by
  unfold goesS
  cases hk : kindsB body with
  | true => rw [if_pos rfl]; exact goC_yes hk _ _
  | false =>
    unfold kindsB at hk
    rw [List.all_eq_false] at hk
    obtain ⟨f, hf, hn⟩ := hk
    obtain ⟨b, hb, rfl⟩ := List.mem_iff_getElem.1 hf
    rw [if_neg (by decide)]
    exact goC_no hb (fun e => hn (by rw [decide_eq_true e.1, decide_eq_true e.2]; rfl)) _ _ h
theorem good_nil (body : List Fl) : GoodL body [] := ⟨List.nodup_nil, fun k hk => by cases hk⟩
theorem good_one {body : List Fl} {n : Nat} (h : n < body.length) (hk : body[n].kind = 1) : GoodL body [(n : Int)] := ⟨by simp, fun k hk' => ⟨n, h, List.mem_singleton.1 hk', by omega, by omega⟩⟩
end Go.Proofs.Ytbkdpdklpmcdgaa

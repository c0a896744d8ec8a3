/-
  Plain: which literal a plan takes next, and the plan that goes on from some literals.
-/
import Derived.Test.YtbkdpdklpmcdgaaPbr
import Derived.Test.YtbkdpdklpmcdgaaPkn
set_option linter.unusedVariables false
set_option linter.unusedSimpArgs false
namespace Go.Proofs.Ytbkdpdklpmcdgaa
open Go.RowKit

/-- an asking literal that is not named yet, all of whose variables are bound -/
def fullB (body : List Fl) (V : List ByteArray) (l : List Int) (k : Nat) : Bool := match body[k]? with
  | some f => !decide ((k : Int) ∈ l) && (f.kind != 1 && (knownN V f.args == f.args.length))
  | none => false
def knD (body : List Fl) (V : List ByteArray) (m : Nat) : Nat := match body[m]? with
  | some g => knownN V g.args
  | none => 0
/-- of the first k literals the first binding one with most bound terms -/
def bestS (body : List Fl) (V : List ByteArray) (l : List Int) : Nat → Option Nat
  | 0 => none
  | k + 1 => match body[k]? with
    | some f => if decide ((k : Int) ∈ l) || f.kind != 1 then bestS body V l k else match bestS body V l k with
      | none => some k
      | some m => if knD body V m < knownN V f.args then some k else some m
    | none => bestS body V l k
def nextS (body : List Fl) (V : List ByteArray) (l : List Int) : Option Nat := match (List.range body.length).find? (fullB body V l) with
  | some k => some k
  | none => bestS body V l body.length
def optI : Option Nat → Int
  | none => -1
  | some k => k
theorem bestS_lt (body : List Fl) (V : List ByteArray) (l : List Int) : ∀ (k m : Nat), bestS body V l k = some m → m < k ∧ m < body.length
  | 0, m, h => by simp [bestS] at h
  | k + 1, m, h => by
    unfold bestS at h
    have ih := bestS_lt body V l k
    split at h
    · rename_i f hf
      have hk : k < body.length := (List.getElem?_eq_some_iff.1 hf).1
      split at h
      · have := ih m h; omega
      · split at h
        · cases h; omega
        · rename_i m' hm'
          have := ih m' hm'
          split at h <;> cases h <;> omega
    · have := ih m h; omega
theorem find_at {body : List Fl} {V : List ByteArray} {l : List Int} {k : Nat} (hk : k < body.length) (h : fullB body V l k = true) (hn : ∀ i, i < k → fullB body V l i = false) : nextS body V l = some k := by
  have : (List.range body.length).find? (fullB body V l) = some k := by
    rw [List.find?_range_eq_some]
    exact ⟨h, List.mem_range.2 hk, fun i hi => by rw [hn i hi]; rfl⟩
  unfold nextS
  rw [this]
theorem find_no {body : List Fl} {V : List ByteArray} {l : List Int} (hn : ∀ i, i < body.length → fullB body V l i = false) : nextS body V l = bestS body V l body.length := by
  have : (List.range body.length).find? (fullB body V l) = none := by
    rw [List.find?_eq_none]
    intro i hi
    rw [hn i (List.mem_range.1 hi)]; simp
  unfold nextS
  rw [this]
theorem bestS_skip {body : List Fl} {V : List ByteArray} {l : List Int} {k : Nat} (hk : k < body.length) (h : (k : Int) ∈ l ∨ body[k].kind ≠ 1) : bestS body V l (k + 1) = bestS body V l k := by
  rw [bestS, List.getElem?_eq_getElem hk]
  simp only
  rw [if_pos]
  rcases h with h | h <;> simp [h]
theorem bestS_first {body : List Fl} {V : List ByteArray} {l : List Int} {k : Nat} (hk : k < body.length) (h1 : ¬ (k : Int) ∈ l) (h2 : body[k].kind = 1) (hb : bestS body V l k = none) : bestS body V l (k + 1) = some k := by
  rw [bestS, List.getElem?_eq_getElem hk]
  simp only
  rw [if_neg (by simp [h1, h2]), hb]
theorem bestS_more {body : List Fl} {V : List ByteArray} {l : List Int} {k m : Nat} (hk : k < body.length) (h1 : ¬ (k : Int) ∈ l) (h2 : body[k].kind = 1) (hm : m < body.length) (hb : bestS body V l k = some m) :
    bestS body V l (k + 1) = if knownN V body[m].args < knownN V body[k].args then some k else some m := by
  rw [bestS, List.getElem?_eq_getElem hk]
  simp only
  rw [if_neg (by simp [h1, h2]), hb]
  simp only [knD, List.getElem?_eq_getElem hm]
/-- the plan that goes on from some literals -/
def goS (body : List Fl) : Nat → List Int → Option (List Int)
  | 0, l => if body.length ≤ l.length then some l else none
  | n + 1, l => if body.length ≤ l.length then some l else match nextS body (varsN (bindN body l)) l with
    | none => none
    | some k => goS body n (l ++ [(k : Int)])
def kindsB (body : List Fl) : Bool := body.all fun f => decide (1 ≤ f.kind) && decide (f.kind ≤ 4)
def goesS (body : List Fl) (l : List Int) : Option (List Int) := if kindsB body then goS body (body.length - l.length) l else none
end Go.Proofs.Ytbkdpdklpmcdgaa

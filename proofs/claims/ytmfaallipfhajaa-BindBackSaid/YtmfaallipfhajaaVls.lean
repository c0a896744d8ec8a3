/-
  Lists of values in memory, tuples: their order.
-/
import Derived.Test.YtmfaallipfhajaaCmp
namespace Go.Proofs.Ytmfaallipfhajaa
open Go.RowKit

abbrev Vl := ByteArray × Int
def cmpVs : List Vl → List Vl → Int
  | a :: x, b :: y => lexI (cmpW a.1 a.2 b.1 b.2) (cmpVs x y)
  | _, _ => 0
/-- A slice of values in memory, below block B. -/
def Vals (w : World) (B : Nat) (p : Option Addr) (vs : List Vl) : Prop :=
  vs = [] ∨ ∃ b off, p = some ⟨b, off, none⟩ ∧ b < B ∧ ∀ i (h : i < vs.length), w.cell? ⟨b, off + i * 2, none⟩ = some (.string vs[i].1) ∧ w.cell? ⟨b, off + i * 2 + 1, none⟩ = some (.int .i64 vs[i].2)

theorem Vals.below {w w' : World} {B : Nat} {p : Option Addr} {vs : List Vl} (h : Vals w B p vs) {B' : Nat} (hb : Below B' w w') (hB : B ≤ B') : Vals w' B p vs := by
  rcases h with h | ⟨b, off, rfl, hl, hc⟩
  · exact .inl h
  · refine .inr ⟨b, off, rfl, hl, fun i hi => ?_⟩
    have hl' : b < B' := Nat.lt_of_lt_of_le hl hB
    rw [hb.cell (p := ⟨b, off + i * 2, none⟩) hl', hb.cell (p := ⟨b, off + i * 2 + 1, none⟩) hl']
    exact hc i hi

theorem cmpVs_drop (l1 l2 : List Vl) (k : Nat) (h1 : k < l1.length) (h2 : k < l2.length) :
    cmpVs (l1.drop k) (l2.drop k) = lexI (cmpW l1[k].1 l1[k].2 l2[k].1 l2[k].2) (cmpVs (l1.drop (k + 1)) (l2.drop (k + 1))) := by
  rw [List.drop_eq_getElem_cons h1, List.drop_eq_getElem_cons h2]; rfl
theorem cmpVs_end (l1 l2 : List Vl) (k : Nat) (h1 : k = l1.length) : cmpVs (l1.drop k) (l2.drop k) = 0 := by
  subst h1; rw [List.drop_length]; rfl

structure Tp where
  pred : ByteArray
  ptr : Option Addr
  cap : Nat
  args : List Vl
def Tp.agg (t : Tp) : Value := .agg #[.string t.pred, .slice t.ptr t.args.length t.cap]
def cmpT (a b : Tp) : Int := lexI (cmpS a.pred b.pred) (lexI (cmpI a.args.length b.args.length) (if a.args.length = b.args.length then cmpVs a.args b.args else 0))
structure Tp.In (t : Tp) (w : World) : Prop where
  vals : Vals w w.heap.size t.ptr t.args
  len : t.args.length ≤ maxLen

theorem vals_grow {w w' : World} {p : Option Addr} {vs : List Vl} (h : Vals w w.heap.size p vs) (hb : Below w.heap.size w w') : Vals w' w'.heap.size p vs := by
  rcases h with h | ⟨b, off, rfl, hl, hc⟩
  · exact .inl h
  · refine .inr ⟨b, off, rfl, Nat.lt_of_lt_of_le hl hb.size, fun i hi => ?_⟩
    rw [hb.cell (p := ⟨b, off + i * 2, none⟩) hl, hb.cell (p := ⟨b, off + i * 2 + 1, none⟩) hl]
    exact hc i hi
theorem Tp.In.grow {t : Tp} {w w' : World} (h : t.In w) (hb : Below w.heap.size w w') : t.In w' := ⟨vals_grow h.vals hb, h.len⟩

def SzOk (l : List Vl) : Prop := ∀ i (h : i < l.length), l[i].1.size ≤ maxLen
end Go.Proofs.Ytmfaallipfhajaa

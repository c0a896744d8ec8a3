/-
  What plan.onwards keeps: six blocks of its own.
-/
import Derived.Test.YtbkdpdklpmcdgaaPcl
set_option linter.unusedVariables false
set_option linter.unusedSimpArgs false
namespace Go.Proofs.Ytbkdpdklpmcdgaa
open Go.Maps Go.ChangeMaps Go.WideMaps Go.RowKit

/-- which of n literals are named -/
def namedA (l : List Int) (n : Nat) : Array Value := ((List.range n).map fun k : Nat => Value.bool (decide ((k : Int) ∈ l))).toArray
theorem namedA_get {l : List Int} {n k : Nat} (h : k < n) : (namedA l n)[k]? = some (.bool (decide ((k : Int) ∈ l))) := by
  simp [namedA, h]
theorem namedA_set {l : List Int} {n k : Nat} : (namedA l n).setIfInBounds k (.bool true) = namedA (l ++ [(k : Int)]) n := by
  apply Array.ext_getElem?
  intro i
  by_cases hi : i < n
  · rw [namedA_get hi]
    by_cases e : i = k
    · subst e
      rw [Array.getElem?_setIfInBounds_self_of_lt (by simp [namedA]; exact hi)]
      simp
    · rw [Array.getElem?_setIfInBounds_ne (Ne.symm e), namedA_get hi]
      congr 2
      have : ¬ (i : Int) = (k : Int) := by omega
      simp [this]
  · rw [Array.getElem?_eq_none (by simp [namedA]; omega), Array.getElem?_eq_none (by simp [namedA]; omega)]
structure OW (w : World) (s : Nat) (rq : Option Addr) (rc : Nat) (body : List Fl) (L Nm : List Int) (M : List ByteArray) (v : Value) (X : World) : Prop where
  b : Below s w X
  xb : Bk0 X s 25 #[.slice rq body.length rc]
  xp : Bk0 X (s + 1) 29 #[v]
  row : X.ownsRow (s + 6) 3 1 v L.length (flatE encI L)
  xn : Bk0 X (s + 2) 4 (namedA Nm body.length)
  xm : MapS X (s + 3) unit M
  xq : Bk0 X (s + 4) 42 #[.slice (some ⟨s + 2, 0, none⟩) body.length body.length]
  xk : Bk0 X (s + 5) 54 #[.map (some (s + 3))]
  msz : ∀ x ∈ M, x.size ≤ maxLen
  hi : s + 6 ≤ X.heap.size
section
variable {w : World} {s : Nat} {rq : Option Addr} {rc : Nat} {body : List Fl} {L Nm : List Int} {M : List ByteArray} {v : Value} {X X' : World}
theorem OW.on (h : OW w s rq rc body L Nm M v X) (hb : Below X.heap.size X X') : OW w s rq rc body L Nm M v X' := by
  have := h.hi
  exact ⟨h.b.trans (hb.mono (by omega)), h.xb.on hb, h.xp.on hb, own_below h.row hb, h.xn.on hb, h.xm.on hb, h.xq.on hb, h.xk.on hb, h.msz, Nat.le_trans h.hi hb.size⟩
/-- one more behind the plan -/
theorem OW.push {g cap : Nat} {k : Int} {X2 : World} (h : OW w s rq rc body L Nm M v X) (hg : X.grownBy X2 v.ownBlock) (ho : X2.ownsRow (s + 6) 3 1 (.slice (some ⟨g, 0, none⟩) (L.length + 1) cap) (L.length + 1) (flatE encI L ++ [.int .i64 k])) :
    OW w s rq rc body (L ++ [k]) Nm M (.slice (some ⟨g, 0, none⟩) (L.length + 1) cap) (X2.setCell ⟨s + 1, 0, none⟩ (.slice (some ⟨g, 0, none⟩) (L.length + 1) cap)) := by
  have h6 := h.hi
  have hb : Below (s + 6) X X2 := (Below.refl (s + 6) X).grown hg h6 (fun t ht => (h.row.lt t ht).1)
  have hk : ∀ b, b ≠ s + 1 → (X2.setCell ⟨s + 1, 0, none⟩ (.slice (some ⟨g, 0, none⟩) (L.length + 1) cap)).heap[b]? = X2.heap[b]? := fun b hb => Below.heap_setCell X2 ⟨s + 1, 0, none⟩ _ b hb
  have hs : Below s X2 (X2.setCell ⟨s + 1, 0, none⟩ (.slice (some ⟨g, 0, none⟩) (L.length + 1) cap)) := setB (Nat.le_succ s) 0 _
  refine ⟨(h.b.trans (hb.mono (by omega))).trans hs, (hk s (by omega)).trans (h.xb.below hb (by omega)), (h.xp.below hb (by omega)).set 0 _, ?_, (hk _ (by omega)).trans (h.xn.below hb (by omega)), (h.xm.below hb (by omega)).kept (hk _ (by omega)), (hk _ (by omega)).trans (h.xq.below hb (by omega)), (hk _ (by omega)).trans (h.xk.below hb (by omega)), h.msz, Nat.le_trans h.hi (Nat.le_trans hb.size hs.size)⟩
  rw [List.length_append, flatE_snoc]
  exact ownsRow_setCell_below ho (a := ⟨s + 1, 0, none⟩) (by show s + 1 < s + 6; omega) _
theorem OW.at (h : OW w s rq rc body L Nm M v X) {X2 : World} (hg : X.grownBy X2 v.ownBlock) : Bk0 X2 (s + 1) 29 #[v] := by
  have h6 := h.hi
  exact h.xp.below ((Below.refl (s + 6) X).grown hg h6 (fun t ht => (h.row.lt t ht).1)) (by omega)
/-- one more is named -/
theorem OW.mark {k : Nat} (h : OW w s rq rc body L Nm M v X) : OW w s rq rc body L (Nm ++ [(k : Int)]) M v (X.setCell ⟨s + 2, k, none⟩ (.bool true)) := by
  have h6 := h.hi
  have hk : ∀ b, b ≠ s + 2 → (X.setCell ⟨s + 2, k, none⟩ (.bool true)).heap[b]? = X.heap[b]? := fun b hb => Below.heap_setCell X ⟨s + 2, k, none⟩ _ b hb
  have hs : Below s X (X.setCell ⟨s + 2, k, none⟩ (.bool true)) := setB (by omega) k _
  refine ⟨h.b.trans hs, (hk s (by omega)).trans h.xb, (hk _ (by omega)).trans h.xp, ownsRow_setCell_below h.row (a := ⟨s + 2, k, none⟩) (by show s + 2 < s + 6; omega) _, ?_, h.xm.kept (hk _ (by omega)), (hk _ (by omega)).trans h.xq, (hk _ (by omega)).trans h.xk, h.msz, Nat.le_trans h.hi hs.size⟩
  rw [← namedA_set]
  exact h.xn.set k _
/-- one more is bound -/
theorem OW.put {x : ByteArray} (h : OW w s rq rc body L Nm M v X) (hg : X.grownBy X' (some (s + 3))) (hm : MapS X' (s + 3) unit (addS M x)) (hx : x.size ≤ maxLen) : OW w s rq rc body L Nm (addS M x) v X' := by
  have h6 := h.hi
  have hk : ∀ b, b < X.heap.size → b ≠ s + 3 → X'.heap[b]? = X.heap[b]? := fun b hb hn => hg.block b hb (fun e => hn (Option.some.inj e))
  exact ⟨h.b.grown hg (by omega) (fun t ht => by cases ht; omega), (hk s (by omega) (by omega)).trans h.xb, (hk _ (by omega) (by omega)).trans h.xp, h.row.kept hg (.inr fun e => by have := (h.row.lt _ e).1; omega), (hk _ (by omega) (by omega)).trans h.xn, hm, (hk _ (by omega) (by omega)).trans h.xq, (hk _ (by omega) (by omega)).trans h.xk, addS_size h.msz hx, Nat.le_trans h.hi hg.size⟩
end
end Go.Proofs.Ytbkdpdklpmcdgaa

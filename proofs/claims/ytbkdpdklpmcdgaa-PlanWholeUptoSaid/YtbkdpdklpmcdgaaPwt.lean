/-
  What PlanWhole's walk keeps: the rule's box, the plan, which literals are seen, the names that are bound.
-/
import Derived.Test.YtbkdpdklpmcdgaaPws
import Derived.StillTailTactics
import Derived.Deep.RegionHeld3
import Derived.Deep.DeepCutAuto
set_option linter.unusedVariables false
set_option linter.unusedSimpArgs false
namespace Go.Proofs.Ytbkdpdklpmcdgaa
open Go.Maps Go.ChangeMaps Go.WideMaps Go.RowKit

structure SW (w : World) (r : Rl) (s : Nat) (q : Option Addr) (L Nm : List Int) (X : World) : Prop where
  lx : LX w r X
  rl : Rd encI 1 X s q L
  xn : Bk0 X s 4 (namedA Nm r.body.length)
  hs : w.heap.size < s
section
variable {w : World} {r : Rl} {s : Nat} {q : Option Addr} {L Nm : List Int} {X X' : World}
theorem SW.on (h : SW w r s q L Nm X) (hb : Below X.heap.size X X') : SW w r s q L Nm X' :=
  ⟨h.lx.on hb, h.rl.below hb (Nat.le_of_lt h.xn.lt'), h.xn.on hb, h.hs⟩
theorem SW.mark {k : Nat} (h : SW w r s q L Nm X) : SW w r s q L (Nm ++ [(k : Int)]) (X.setCell ⟨s, k, none⟩ (.bool true)) := by
  have hh := h.hs
  have hb : Below s X (X.setCell ⟨s, k, none⟩ (.bool true)) := setB (Nat.le_refl s) k _
  refine ⟨⟨h.lx.b.trans (hb.mono (Nat.le_of_lt hh)), (hb.block _ hh).trans h.lx.x⟩, h.rl.below hb (Nat.le_refl _), ?_, hh⟩
  rw [← namedA_set]
  exact h.xn.set k _
end
/-- and the names that are bound -/
structure SH (w : World) (r : Rl) (s : Nat) (q : Option Addr) (L Nm : List Int) (qh : Option Addr) (V : List ByteArray) (X : World) : Prop where
  sw : SW w r s q L Nm X
  rd : Rd encS 1 X X.heap.size qh V
theorem SH.on {w : World} {r : Rl} {s : Nat} {q : Option Addr} {L Nm : List Int} {qh : Option Addr} {V : List ByteArray} {X X' : World} (h : SH w r s q L Nm qh V X) (hb : Below X.heap.size X X') : SH w r s q L Nm qh V X' := ⟨h.sw.on hb, h.rd.grow hb⟩
theorem rd_take {w : World} {B : Nat} {p : Option Addr} {l : List Int} (h : Rd encI 1 w B p l) (t : Nat) : Rd encI 1 w B p (l.take t) := by
  rcases h with h | ⟨b, off, rfl, hb, hc⟩
  · subst h; exact .inl (by simp)
  · refine .inr ⟨b, off, rfl, hb, fun i hi r u hu => ?_⟩
    have hi2 : i < l.length := by rw [List.length_take] at hi; omega
    exact hc i hi2 r u (by rw [List.getElem_take] at hu; exact hu)
/-- is one of the first names not bound -/
def freeB (V v : List ByteArray) (m : Nat) : Bool := (v.take m).any fun x => !hasS V x
theorem freeB_step {V v : List ByteArray} {m : Nat} (h : m < v.length) : freeB V v (m + 1) = (freeB V v m || !hasS V v[m]) := by
  unfold freeB
  rw [List.take_succ_eq_append_getElem h, List.any_append]
  simp
theorem freeB_all {V v : List ByteArray} (h : ∃ x ∈ v, hasS V x = false) : freeB V v v.length = true := by
  obtain ⟨x, hx, h2⟩ := h
  unfold freeB
  rw [List.take_length, List.any_eq_true]
  exact ⟨x, hx, by rw [h2]; rfl⟩
end Go.Proofs.Ytbkdpdklpmcdgaa

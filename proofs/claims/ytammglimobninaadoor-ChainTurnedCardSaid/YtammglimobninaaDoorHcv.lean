/-
  The bytes of a text.
-/
import Derived.Test.YtammglimobninaaDoorHby
import Derived.Test.YtammglimobninaaDoorHrn
import Derived.Laws.IdiomStrings
set_option linter.unusedVariables false
set_option linter.unusedSimpArgs false
namespace Go.Proofs.YtammglimobninaaDoor
open Go.RowKit Nm

theorem wpList_conv8 {w : World} {ops : Array Oper} {rest : List Oper} {o : Oper} {a : Act} {Q : Exit → Act → World → Prop} (hgd : o.guard = none) (x : Operand)
    (ho : o.op = .convert 9 25 x) (s : ByteArray) (hx : a.eval x = .string s)
    (h : ∀ q c w', Rd0 w' q s.data.toList → Below w.heap.size w w' → wpList Tryd.prog ops Q rest (a.put o.dst (.slice q s.size c)) w') : wpList Tryd.prog ops Q (o :: rest) a w := by
  have hr := run_bytes_of_string (P := Tryd.prog) w 9 25 5 s Tryd.underlying9 Tryd.underlying25 Tryd.underlying5
  refine wpList_plain hgd fun K hK => ?_
  unfold Oper.wp execOp
  simp only [ho, hx, Sem.run_bind, Sem.run_pure, Result.andThen_ok, hr]
  have hB := heap_alloc_new w.drew (.cells (bytesRow s (grownCap w s.size 0 5)) 5 ((bytesRow s (grownCap w s.size 0 5)).size, (bytesRow s (grownCap w s.size 0 5)).size + 1))
  have hBl := ((Below.refl w.heap.size w).drew.alloc (Nat.le_refl _) (.cells (bytesRow s (grownCap w s.size 0 5)) 5 ((bytesRow s (grownCap w s.size 0 5)).size, (bytesRow s (grownCap w s.size 0 5)).size + 1)))
  generalize w.drew.alloc (.cells (bytesRow s (grownCap w s.size 0 5)) 5 ((bytesRow s (grownCap w s.size 0 5)).size, (bytesRow s (grownCap w s.size 0 5)).size + 1)) = W2 at *
  have hlt : w.heap.size < W2.heap.size := by
    have := (Array.getElem?_eq_some_iff.1 hB).1
    simpa using this
  have hRd : Rd0 W2 (some ⟨w.heap.size, 0, none⟩) s.data.toList := .inr ⟨w.heap.size, 0, rfl, hlt, fun i v hv => by
    have hi : i < s.data.toList.length := by have := (List.getElem?_eq_some_iff.1 hv).1; rwa [cells8_len] at this
    have hB2 : W2.heap[w.heap.size]? = some (.cells (bytesRow s (grownCap w s.size 0 5)) 5 ((bytesRow s (grownCap w s.size 0 5)).size, (bytesRow s (grownCap w s.size 0 5)).size + 1)) := by simpa using hB
    rw [Nat.zero_add]
    simp only [World.cell?, hB2]
    have e : (bytesRow s (grownCap w s.size 0 5))[i]? = some v := by
      rw [← hv]
      unfold bytesRow
      rw [Array.getElem?_append_left (by simpa using hi)]
      simp [cells8]
    simpa using e⟩
  exact hK _ _ (h _ _ W2 hRd hBl)
end Go.Proofs.YtammglimobninaaDoor

/-
  Opening a list of entries.
-/
import Derived.Test.YtammglimobninaaDoorOpc
import Derived.Test.YtammglimobninaaDoorHhw
set_option linter.unusedVariables false
set_option linter.unusedSimpArgs false
set_option maxRecDepth 100000
namespace Go.Proofs.YtammglimobninaaDoor
open Go.ChangeShapes Go.WideShapes Go.ChangeAt Go.WideMaps Go.WideElems Go.RowKit Go.Joins Go.Deep
instance : Inhabited En := ⟨enZ⟩
section
variable {H : Type} {enc : TypeId × Value → H} {W : World}
theorem open_entries {base : Nat} {v : Value} {d : DataW H} {p : List MemPlace} (hv : Value.okWide Tryd.prog W .any base 34 v) (h : DataW.Trod enc Tryd.prog W 0 (fun _ => true) true 34 v d p) :
    ∃ (q : Option Addr) (l : List En) (c : Nat), v = .slice q l.length c ∧ Ens W q l ∧ (∀ e ∈ l, e.Nb) ∧ l.length ≤ c := by
  obtain ⟨fuel, hf⟩ := h
  rw [cells_slice Tryd.underlying34 hv] at hf
  obtain ⟨q, l, c, h1, h2, h3, h4⟩ := open_rd EE (G := fun e : En => e.Ok ∧ e.Nb) Tryd.underlying34 cellsEn (fun h hl => one_entry h hl) hf
  exact ⟨q, l, c, h1, ens_of_rd h2 fun e he => (h3 e he).1, fun e he => (h3 e he).2, h4⟩
end
end Go.Proofs.YtammglimobninaaDoor

/-
  Contract: bytes.Equal.
-/
import Derived.Test.YtammglimobninaaDoorHlk
import Derived.Laws.BytesString
import Derived.Laws.IdiomStrings
set_option linter.unusedVariables false
set_option linter.unusedSimpArgs false
namespace Go.Proofs.YtammglimobninaaDoor
open Go.RowKit Nm

theorem run_back8 (w : World) (q : Option Addr) (m : List UInt8) (c : Nat) (hR : Rd0 w q m) : (convert 25 9 (.slice q m.length c)).run Tryd.prog w = .ok (.string ⟨m.toArray⟩) w := by
  by_cases h0 : m = []
  · subst h0
    rw [show ([] : List UInt8).length = 0 from rfl, run_convert_bytes_string w 25 9 5 _ 0 c Tryd.underlying25 Tryd.underlying5 Tryd.underlying9]
    cases q <;> simp [Conv.bytesToString, loadCells]
    all_goals rfl
  · rcases hR with h | ⟨b, off, rfl, hl, hc⟩
    · exact absurd h h0
    · exact run_convert_bytes_back (P := Tryd.prog) w 25 9 5 ⟨b, off, none⟩ c m Tryd.underlying25 Tryd.underlying5 Tryd.underlying9 (fun j hj => by
        rw [Addr.add_mid]; exact hc j _ (by simp [cells8, List.getElem?_eq_getElem hj]))

set_option maxRecDepth 100000 in
theorem equal_any (q p : Option Addr) (m l : List UInt8) (c d : Nat) (w : World) (hm : Rd0 w q m) (hl : Rd0 w p l) :
    Calls Tryd.prog 42 #[.slice q m.length c, .slice p l.length d] w fun e w' => e = .returned (.bool (m == l)) ∧ w = w' := by
  have h1 := run_back8 w q m c hm
  have h2 := run_back8 w p l d hl
  clear hm hl
  go_enter Tryd.func42, Tryd.ntmps42
  go_wp2_with fail
  go_ret
  exact ⟨rfl, rfl⟩
end Go.Proofs.YtammglimobninaaDoor

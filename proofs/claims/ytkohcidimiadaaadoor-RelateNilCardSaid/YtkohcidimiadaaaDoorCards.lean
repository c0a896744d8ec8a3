/-
  DERIVED. GIVEN WITH THE SEED: THE CARDS: each row of YtkohcidimiadaaaDoorRows.lean that lists a variable, with what it lists TIED to the program's text (the seventh form; the later family's looks); each row that meets fmt, with fmt's text TOLD by the authors' own Lean function (tested against real Go, not proved from fmt's source: count such statements apart). THE CARD IS WHAT COUNTS. Prove the row's statement (the work); the ties are given (YtkohcidimiadaaaDoorTie.lean); close each card by the builder's one call (the guide's Derived/Test/ToyasCard.lean, 'card_holds'). Laid BY PROGRAM, IN A SANDBOX (cutbox-door.mjs). By AI agents, Wed Nov 11 2026. No macro, syntax, notation, axiom, sorry.
-/
import Derived.Test.YtkohcidimiadaaaDoorRows
import GoSem.ClaimSeven
namespace Go.Proofs.YtkohcidimiadaaaDoor
namespace Rows

/-- THE TIED CARD OF 'mandatelaw12.RelateNil'. -/
def relateNilCard : Claim7 := { stood := { row := relateNilRow, standIns := [], harness := (true, "ed91012eca8004951d6bdb05160ce2dd0822095d4c1b81990e538a597ad252a4"), looks := false }, kinds := [], alts := [], laidByText := true, laidKinds := [.data], laidTests := true, laidLooks := .later }
def RelateNilCardSaid : Prop := Claim7.holds Tryd.pinned (.plain (OpenSpec.ofChange relateNilSpec)) relateNilCard

/-- THE SECOND FORM's CARD OF 'mandatelaw12.RelateNil'. -/
def relateNilUptoCard : Claim7 := { stood := { row := relateNilUptoRow, standIns := [], harness := (true, "ed91012eca8004951d6bdb05160ce2dd0822095d4c1b81990e538a597ad252a4"), looks := false }, kinds := [], alts := [], laidByText := true, laidKinds := [.data], laidTests := true, laidLooks := .later }
def RelateNilUptoCardSaid : Prop := Claim7.holds Tryd.pinned (.plain (OpenSpec.upto relateNilSpec)) relateNilUptoCard
end Rows
end Go.Proofs.YtkohcidimiadaaaDoor

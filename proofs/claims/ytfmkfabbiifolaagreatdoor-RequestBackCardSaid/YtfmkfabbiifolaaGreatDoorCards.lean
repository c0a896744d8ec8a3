/-
  DERIVED. GIVEN WITH THE SEED: THE CARDS: each row of YtfmkfabbiifolaaGreatDoorRows.lean that lists a variable, with what it lists TIED to the program's text (the seventh form; the later family's looks); each row that meets fmt, with fmt's text TOLD by the authors' own Lean function (tested against real Go, not proved from fmt's source: count such statements apart). THE CARD IS WHAT COUNTS. Prove the row's statement (the work); the ties are given (YtfmkfabbiifolaaGreatDoorTie.lean); close each card by the builder's one call (the guide's Derived/Test/ToyasCard.lean, 'card_holds'). Laid BY PROGRAM, IN A SANDBOX (cutbox-door.mjs). By AI agents, Wed Nov 11 2026. No macro, syntax, notation, axiom, sorry.
-/
import Derived.Test.YtfmkfabbiifolaaGreatDoorRows
import GoSem.ClaimSeven
namespace Go.Proofs.YtfmkfabbiifolaaGreatDoor
namespace Rows

/-- THE TIED CARD OF 'mandatelaw22.RequestParses'. -/
def requestParsesCard : Claim7 := { stood := { row := requestParsesRow, standIns := [], harness := (true, "77fc1767b31b1c87a45737f9fefb8f7252569cecde2236741721d96e083fb057"), looks := true }, kinds := [], alts := [], laidByText := true, laidKinds := [.data, .data, .data, .sentinel, .sentinel], laidTests := true, laidLooks := .later }
def RequestParsesCardSaid : Prop := Claim7.holds Tryz.pinned (.plain (OpenSpec.ofChange requestParsesSpec)) requestParsesCard

/-- THE TIED CARD OF 'mandatelaw22.RequestPrints'. -/
def requestPrintsCard : Claim7 := { stood := { row := requestPrintsRow, standIns := [], harness := (true, "77fc1767b31b1c87a45737f9fefb8f7252569cecde2236741721d96e083fb057"), looks := true }, kinds := [], alts := [], laidByText := true, laidKinds := [.data, .data, .data, .sentinel, .sentinel], laidTests := true, laidLooks := .later }
def RequestPrintsCardSaid : Prop := Claim7.holds Tryz.pinned (.plain (OpenSpec.ofChange requestPrintsSpec)) requestPrintsCard

/-- THE TIED CARD OF 'mandatelaw22.RequestBack'. -/
def requestBackCard : Claim7 := { stood := { row := requestBackRow, standIns := [], harness := (true, "77fc1767b31b1c87a45737f9fefb8f7252569cecde2236741721d96e083fb057"), looks := true }, kinds := [], alts := [], laidByText := true, laidKinds := [.data, .data, .data, .sentinel, .sentinel], laidTests := true, laidLooks := .later }
def RequestBackCardSaid : Prop := Claim7.holds Tryz.pinned (.plain (OpenSpec.ofChange requestBackSpec)) requestBackCard

/-- THE TIED CARD OF 'mandatelaw22.RequestBlanks'. -/
def requestBlanksCard : Claim7 := { stood := { row := requestBlanksRow, standIns := [], harness := (true, "77fc1767b31b1c87a45737f9fefb8f7252569cecde2236741721d96e083fb057"), looks := true }, kinds := [], alts := [], laidByText := true, laidKinds := [.data, .data, .data, .sentinel, .sentinel], laidTests := true, laidLooks := .later }
def RequestBlanksCardSaid : Prop := Claim7.holds Tryz.pinned (.plain (OpenSpec.ofChange requestBlanksSpec)) requestBlanksCard

/-- THE SECOND FORM's CARD OF 'mandatelaw22.RequestParses'. -/
def requestParsesUptoCard : Claim7 := { stood := { row := requestParsesUptoRow, standIns := [], harness := (true, "77fc1767b31b1c87a45737f9fefb8f7252569cecde2236741721d96e083fb057"), looks := true }, kinds := [], alts := [], laidByText := true, laidKinds := [.data, .data, .data, .sentinel, .sentinel], laidTests := true, laidLooks := .later }
def RequestParsesUptoCardSaid : Prop := Claim7.holds Tryz.pinned (.plain (OpenSpec.upto requestParsesSpec)) requestParsesUptoCard

/-- THE SECOND FORM's CARD OF 'mandatelaw22.RequestPrints'. -/
def requestPrintsUptoCard : Claim7 := { stood := { row := requestPrintsUptoRow, standIns := [], harness := (true, "77fc1767b31b1c87a45737f9fefb8f7252569cecde2236741721d96e083fb057"), looks := true }, kinds := [], alts := [], laidByText := true, laidKinds := [.data, .data, .data, .sentinel, .sentinel], laidTests := true, laidLooks := .later }
def RequestPrintsUptoCardSaid : Prop := Claim7.holds Tryz.pinned (.plain (OpenSpec.upto requestPrintsSpec)) requestPrintsUptoCard

/-- THE SECOND FORM's CARD OF 'mandatelaw22.RequestBack'. -/
def requestBackUptoCard : Claim7 := { stood := { row := requestBackUptoRow, standIns := [], harness := (true, "77fc1767b31b1c87a45737f9fefb8f7252569cecde2236741721d96e083fb057"), looks := true }, kinds := [], alts := [], laidByText := true, laidKinds := [.data, .data, .data, .sentinel, .sentinel], laidTests := true, laidLooks := .later }
def RequestBackUptoCardSaid : Prop := Claim7.holds Tryz.pinned (.plain (OpenSpec.upto requestBackSpec)) requestBackUptoCard

/-- THE SECOND FORM's CARD OF 'mandatelaw22.RequestBlanks'. -/
def requestBlanksUptoCard : Claim7 := { stood := { row := requestBlanksUptoRow, standIns := [], harness := (true, "77fc1767b31b1c87a45737f9fefb8f7252569cecde2236741721d96e083fb057"), looks := true }, kinds := [], alts := [], laidByText := true, laidKinds := [.data, .data, .data, .sentinel, .sentinel], laidTests := true, laidLooks := .later }
def RequestBlanksUptoCardSaid : Prop := Claim7.holds Tryz.pinned (.plain (OpenSpec.upto requestBlanksSpec)) requestBlanksUptoCard
end Rows
end Go.Proofs.YtfmkfabbiifolaaGreatDoor

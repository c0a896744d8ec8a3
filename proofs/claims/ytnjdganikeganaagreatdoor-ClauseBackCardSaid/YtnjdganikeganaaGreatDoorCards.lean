/-
  DERIVED. GIVEN WITH THE SEED: THE CARDS: each row of YtnjdganikeganaaGreatDoorRows.lean that lists a variable, with what it lists TIED to the program's text (the seventh form; the later family's looks); each row that meets fmt, with fmt's text TOLD by the authors' own Lean function (tested against real Go, not proved from fmt's source: count such statements apart). THE CARD IS WHAT COUNTS. Prove the row's statement (the work); the ties are given (YtnjdganikeganaaGreatDoorTie.lean); close each card by the builder's one call (the guide's Derived/Test/ToyasCard.lean, 'card_holds'). Laid BY PROGRAM, IN A SANDBOX (cutbox-door.mjs). By AI agents, Wed Nov 11 2026. No macro, syntax, notation, axiom, sorry.
-/
import Derived.Test.YtnjdganikeganaaGreatDoorRows
import GoSem.ClaimSeven
namespace Go.Proofs.YtnjdganikeganaaGreatDoor
namespace Rows

/-- THE TIED CARD OF 'mandatelaw06.ClauseParses'. -/
def clauseParsesCard : Claim7 := { stood := { row := clauseParsesRow, standIns := [], harness := (true, "dc3f1269a3b1f07ad5c951f670ff8b4d0eee8879bf0674ee79cecbb4c9701343"), looks := true }, kinds := [], alts := [], laidByText := true, laidKinds := [.data, .data, .data, .sentinel, .sentinel], laidTests := true, laidLooks := .later }
def ClauseParsesCardSaid : Prop := Claim7.holds Tryz.pinned (.plain (OpenSpec.ofChange clauseParsesSpec)) clauseParsesCard

/-- THE TIED CARD OF 'mandatelaw06.ClauseLits'. -/
def clauseLitsCard : Claim7 := { stood := { row := clauseLitsRow, standIns := [], harness := (true, "dc3f1269a3b1f07ad5c951f670ff8b4d0eee8879bf0674ee79cecbb4c9701343"), looks := true }, kinds := [], alts := [], laidByText := true, laidKinds := [.data, .data, .data, .sentinel, .sentinel], laidTests := true, laidLooks := .later }
def ClauseLitsCardSaid : Prop := Claim7.holds Tryz.pinned (.plain (OpenSpec.ofChange clauseLitsSpec)) clauseLitsCard

/-- THE TIED CARD OF 'mandatelaw06.ClausePrints'. -/
def clausePrintsCard : Claim7 := { stood := { row := clausePrintsRow, standIns := [], harness := (true, "dc3f1269a3b1f07ad5c951f670ff8b4d0eee8879bf0674ee79cecbb4c9701343"), looks := true }, kinds := [], alts := [], laidByText := true, laidKinds := [.data, .data, .data, .sentinel, .sentinel], laidTests := true, laidLooks := .later }
def ClausePrintsCardSaid : Prop := Claim7.holds Tryz.pinned (.plain (OpenSpec.ofChange clausePrintsSpec)) clausePrintsCard

/-- THE TIED CARD OF 'mandatelaw06.ClauseVars'. -/
def clauseVarsCard : Claim7 := { stood := { row := clauseVarsRow, standIns := [], harness := (true, "dc3f1269a3b1f07ad5c951f670ff8b4d0eee8879bf0674ee79cecbb4c9701343"), looks := true }, kinds := [], alts := [], laidByText := true, laidKinds := [.data, .data, .data, .sentinel, .sentinel], laidTests := true, laidLooks := .later }
def ClauseVarsCardSaid : Prop := Claim7.holds Tryz.pinned (.plain (OpenSpec.ofChange clauseVarsSpec)) clauseVarsCard

/-- THE TIED CARD OF 'mandatelaw06.ClauseBack'. -/
def clauseBackCard : Claim7 := { stood := { row := clauseBackRow, standIns := [], harness := (true, "dc3f1269a3b1f07ad5c951f670ff8b4d0eee8879bf0674ee79cecbb4c9701343"), looks := true }, kinds := [], alts := [], laidByText := true, laidKinds := [.data, .data, .data, .sentinel, .sentinel], laidTests := true, laidLooks := .later }
def ClauseBackCardSaid : Prop := Claim7.holds Tryz.pinned (.plain (OpenSpec.ofChange clauseBackSpec)) clauseBackCard

/-- THE TIED CARD OF 'mandatelaw06.ClauseAsked'. -/
def clauseAskedCard : Claim7 := { stood := { row := clauseAskedRow, standIns := [], harness := (true, "dc3f1269a3b1f07ad5c951f670ff8b4d0eee8879bf0674ee79cecbb4c9701343"), looks := true }, kinds := [], alts := [], laidByText := true, laidKinds := [.data, .data, .data, .sentinel, .sentinel], laidTests := true, laidLooks := .later }
def ClauseAskedCardSaid : Prop := Claim7.holds Tryz.pinned (.plain (OpenSpec.ofChange clauseAskedSpec)) clauseAskedCard

/-- THE TIED CARD OF 'mandatelaw06.ClauseBlanks'. -/
def clauseBlanksCard : Claim7 := { stood := { row := clauseBlanksRow, standIns := [], harness := (true, "dc3f1269a3b1f07ad5c951f670ff8b4d0eee8879bf0674ee79cecbb4c9701343"), looks := true }, kinds := [], alts := [], laidByText := true, laidKinds := [.data, .data, .data, .sentinel, .sentinel], laidTests := true, laidLooks := .later }
def ClauseBlanksCardSaid : Prop := Claim7.holds Tryz.pinned (.plain (OpenSpec.ofChange clauseBlanksSpec)) clauseBlanksCard

/-- THE TIED CARD OF 'mandatelaw06.ClauseFacts'. -/
def clauseFactsCard : Claim7 := { stood := { row := clauseFactsRow, standIns := [], harness := (true, "dc3f1269a3b1f07ad5c951f670ff8b4d0eee8879bf0674ee79cecbb4c9701343"), looks := true }, kinds := [], alts := [], laidByText := true, laidKinds := [.data, .data, .data, .sentinel, .sentinel], laidTests := true, laidLooks := .later }
def ClauseFactsCardSaid : Prop := Claim7.holds Tryz.pinned (.plain (OpenSpec.ofChange clauseFactsSpec)) clauseFactsCard

/-- THE SECOND FORM's CARD OF 'mandatelaw06.ClauseParses'. -/
def clauseParsesUptoCard : Claim7 := { stood := { row := clauseParsesUptoRow, standIns := [], harness := (true, "dc3f1269a3b1f07ad5c951f670ff8b4d0eee8879bf0674ee79cecbb4c9701343"), looks := true }, kinds := [], alts := [], laidByText := true, laidKinds := [.data, .data, .data, .sentinel, .sentinel], laidTests := true, laidLooks := .later }
def ClauseParsesUptoCardSaid : Prop := Claim7.holds Tryz.pinned (.plain (OpenSpec.upto clauseParsesSpec)) clauseParsesUptoCard

/-- THE SECOND FORM's CARD OF 'mandatelaw06.ClauseLits'. -/
def clauseLitsUptoCard : Claim7 := { stood := { row := clauseLitsUptoRow, standIns := [], harness := (true, "dc3f1269a3b1f07ad5c951f670ff8b4d0eee8879bf0674ee79cecbb4c9701343"), looks := true }, kinds := [], alts := [], laidByText := true, laidKinds := [.data, .data, .data, .sentinel, .sentinel], laidTests := true, laidLooks := .later }
def ClauseLitsUptoCardSaid : Prop := Claim7.holds Tryz.pinned (.plain (OpenSpec.upto clauseLitsSpec)) clauseLitsUptoCard

/-- THE SECOND FORM's CARD OF 'mandatelaw06.ClausePrints'. -/
def clausePrintsUptoCard : Claim7 := { stood := { row := clausePrintsUptoRow, standIns := [], harness := (true, "dc3f1269a3b1f07ad5c951f670ff8b4d0eee8879bf0674ee79cecbb4c9701343"), looks := true }, kinds := [], alts := [], laidByText := true, laidKinds := [.data, .data, .data, .sentinel, .sentinel], laidTests := true, laidLooks := .later }
def ClausePrintsUptoCardSaid : Prop := Claim7.holds Tryz.pinned (.plain (OpenSpec.upto clausePrintsSpec)) clausePrintsUptoCard

/-- THE SECOND FORM's CARD OF 'mandatelaw06.ClauseVars'. -/
def clauseVarsUptoCard : Claim7 := { stood := { row := clauseVarsUptoRow, standIns := [], harness := (true, "dc3f1269a3b1f07ad5c951f670ff8b4d0eee8879bf0674ee79cecbb4c9701343"), looks := true }, kinds := [], alts := [], laidByText := true, laidKinds := [.data, .data, .data, .sentinel, .sentinel], laidTests := true, laidLooks := .later }
def ClauseVarsUptoCardSaid : Prop := Claim7.holds Tryz.pinned (.plain (OpenSpec.upto clauseVarsSpec)) clauseVarsUptoCard

/-- THE SECOND FORM's CARD OF 'mandatelaw06.ClauseBack'. -/
def clauseBackUptoCard : Claim7 := { stood := { row := clauseBackUptoRow, standIns := [], harness := (true, "dc3f1269a3b1f07ad5c951f670ff8b4d0eee8879bf0674ee79cecbb4c9701343"), looks := true }, kinds := [], alts := [], laidByText := true, laidKinds := [.data, .data, .data, .sentinel, .sentinel], laidTests := true, laidLooks := .later }
def ClauseBackUptoCardSaid : Prop := Claim7.holds Tryz.pinned (.plain (OpenSpec.upto clauseBackSpec)) clauseBackUptoCard

/-- THE SECOND FORM's CARD OF 'mandatelaw06.ClauseAsked'. -/
def clauseAskedUptoCard : Claim7 := { stood := { row := clauseAskedUptoRow, standIns := [], harness := (true, "dc3f1269a3b1f07ad5c951f670ff8b4d0eee8879bf0674ee79cecbb4c9701343"), looks := true }, kinds := [], alts := [], laidByText := true, laidKinds := [.data, .data, .data, .sentinel, .sentinel], laidTests := true, laidLooks := .later }
def ClauseAskedUptoCardSaid : Prop := Claim7.holds Tryz.pinned (.plain (OpenSpec.upto clauseAskedSpec)) clauseAskedUptoCard

/-- THE SECOND FORM's CARD OF 'mandatelaw06.ClauseBlanks'. -/
def clauseBlanksUptoCard : Claim7 := { stood := { row := clauseBlanksUptoRow, standIns := [], harness := (true, "dc3f1269a3b1f07ad5c951f670ff8b4d0eee8879bf0674ee79cecbb4c9701343"), looks := true }, kinds := [], alts := [], laidByText := true, laidKinds := [.data, .data, .data, .sentinel, .sentinel], laidTests := true, laidLooks := .later }
def ClauseBlanksUptoCardSaid : Prop := Claim7.holds Tryz.pinned (.plain (OpenSpec.upto clauseBlanksSpec)) clauseBlanksUptoCard

/-- THE SECOND FORM's CARD OF 'mandatelaw06.ClauseFacts'. -/
def clauseFactsUptoCard : Claim7 := { stood := { row := clauseFactsUptoRow, standIns := [], harness := (true, "dc3f1269a3b1f07ad5c951f670ff8b4d0eee8879bf0674ee79cecbb4c9701343"), looks := true }, kinds := [], alts := [], laidByText := true, laidKinds := [.data, .data, .data, .sentinel, .sentinel], laidTests := true, laidLooks := .later }
def ClauseFactsUptoCardSaid : Prop := Claim7.holds Tryz.pinned (.plain (OpenSpec.upto clauseFactsSpec)) clauseFactsUptoCard
end Rows
end Go.Proofs.YtnjdganikeganaaGreatDoor

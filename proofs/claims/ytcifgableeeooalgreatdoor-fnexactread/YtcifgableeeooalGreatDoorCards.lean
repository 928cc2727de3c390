/-
  DERIVED. GIVEN WITH THE SEED: THE CARDS: each row of YtcifgableeeooalGreatDoorRows.lean that lists a variable, with what it lists TIED to the program's text (the seventh form; the later family's looks); each row that meets fmt, with fmt's text TOLD by the authors' own Lean function (tested against real Go, not proved from fmt's source: count such statements apart). THE CARD IS WHAT COUNTS. Prove the row's statement (the work); the ties are given (YtcifgableeeooalGreatDoorTie.lean); close each card by the builder's one call (the guide's Derived/Test/ToyasCard.lean, 'card_holds'). Laid BY PROGRAM, IN A SANDBOX (cutbox-door.mjs). By AI agents, Wed Nov 11 2026. No macro, syntax, notation, axiom, sorry.
-/
import Derived.Test.YtcifgableeeooalGreatDoorRows
import GoSem.ClaimSeven
namespace Go.Proofs.YtcifgableeeooalGreatDoor
namespace Rows

/-- THE TIED CARD OF 'laws.FnExactIssue'. -/
def fnExactIssueCard : Claim7 := { stood := { row := fnExactIssueRow, standIns := [], harness := (true, "c3fa7c61b4838104249ac84858bd1bac7482936c9d2915735336e265d5a099be"), looks := true }, kinds := [], alts := [], laidByText := true, laidKinds := [.data, .data, .data, .sentinel, .sentinel, .sentinel, .sentinel], laidTests := true, laidLooks := .later }
def FnExactIssueCardSaid : Prop := Claim7.holds Tryz.pinned (.plain (OpenSpec.ofChange fnExactIssueSpec)) fnExactIssueCard

/-- THE TIED CARD OF 'laws.FnExactRead'. -/
def fnExactReadCard : Claim7 := { stood := { row := fnExactReadRow, standIns := [], harness := (true, "c3fa7c61b4838104249ac84858bd1bac7482936c9d2915735336e265d5a099be"), looks := true }, kinds := [], alts := [], laidByText := true, laidKinds := [.data, .data, .data, .data, .sentinel, .sentinel, .sentinel, .sentinel, .data, .pinned], laidTests := true, laidLooks := .later }
def FnExactReadCardSaid : Prop := Claim7.holds Tryz.pinned (.plain (OpenSpec.ofChange fnExactReadSpec)) fnExactReadCard

/-- THE SECOND FORM's CARD OF 'laws.FnExactIssue'. -/
def fnExactIssueUptoCard : Claim7 := { stood := { row := fnExactIssueUptoRow, standIns := [], harness := (true, "c3fa7c61b4838104249ac84858bd1bac7482936c9d2915735336e265d5a099be"), looks := true }, kinds := [], alts := [], laidByText := true, laidKinds := [.data, .data, .data, .sentinel, .sentinel, .sentinel, .sentinel], laidTests := true, laidLooks := .later }
def FnExactIssueUptoCardSaid : Prop := Claim7.holds Tryz.pinned (.plain (OpenSpec.upto fnExactIssueSpec)) fnExactIssueUptoCard

/-- THE SECOND FORM's CARD OF 'laws.FnExactRead'. -/
def fnExactReadUptoCard : Claim7 := { stood := { row := fnExactReadUptoRow, standIns := [], harness := (true, "c3fa7c61b4838104249ac84858bd1bac7482936c9d2915735336e265d5a099be"), looks := true }, kinds := [], alts := [], laidByText := true, laidKinds := [.data, .data, .data, .data, .sentinel, .sentinel, .sentinel, .sentinel, .data, .pinned], laidTests := true, laidLooks := .later }
def FnExactReadUptoCardSaid : Prop := Claim7.holds Tryz.pinned (.plain (OpenSpec.upto fnExactReadSpec)) fnExactReadUptoCard
end Rows
end Go.Proofs.YtcifgableeeooalGreatDoor

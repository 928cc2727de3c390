/-
  DERIVED. GIVEN WITH THE SEED: THE CARDS: each row of YtcjgkmhpeedhiaaGreatDoorRows.lean that lists a variable, with what it lists TIED to the program's text (the seventh form; the later family's looks); each row that meets fmt, with fmt's text TOLD by the authors' own Lean function (tested against real Go, not proved from fmt's source: count such statements apart). THE CARD IS WHAT COUNTS. Prove the row's statement (the work); the ties are given (YtcjgkmhpeedhiaaGreatDoorTie.lean); close each card by the builder's one call (the guide's Derived/Test/ToyasCard.lean, 'card_holds'). Laid BY PROGRAM, IN A SANDBOX (cutbox-door.mjs). By AI agents, Wed Nov 11 2026. No macro, syntax, notation, axiom, sorry.
-/
import Derived.Test.YtcjgkmhpeedhiaaGreatDoorRows
import GoSem.ClaimSeven
namespace Go.Proofs.YtcjgkmhpeedhiaaGreatDoor
namespace Rows

/-- THE TIED CARD OF 'laws.FnIssued'. -/
def fnIssuedCard : Claim7 := { stood := { row := fnIssuedRow, standIns := [], harness := (true, "4fc1438a006ee4ed01ab625f4a72e843eaba399f2d80ae2576489f83e50b6422"), looks := true }, kinds := [], alts := [], laidByText := true, laidKinds := [.data, .data, .data, .data, .sentinel, .sentinel, .sentinel, .sentinel, .sentinel, .sentinel, .data, .pinned], laidTests := true, laidLooks := .later }
def FnIssuedCardSaid : Prop := Claim7.holds Tryz.pinned (.plain (OpenSpec.ofChange fnIssuedSpec)) fnIssuedCard

/-- THE SECOND FORM's CARD OF 'laws.FnIssued'. -/
def fnIssuedUptoCard : Claim7 := { stood := { row := fnIssuedUptoRow, standIns := [], harness := (true, "4fc1438a006ee4ed01ab625f4a72e843eaba399f2d80ae2576489f83e50b6422"), looks := true }, kinds := [], alts := [], laidByText := true, laidKinds := [.data, .data, .data, .data, .sentinel, .sentinel, .sentinel, .sentinel, .sentinel, .sentinel, .data, .pinned], laidTests := true, laidLooks := .later }
def FnIssuedUptoCardSaid : Prop := Claim7.holds Tryz.pinned (.plain (OpenSpec.upto fnIssuedSpec)) fnIssuedUptoCard
end Rows
end Go.Proofs.YtcjgkmhpeedhiaaGreatDoor

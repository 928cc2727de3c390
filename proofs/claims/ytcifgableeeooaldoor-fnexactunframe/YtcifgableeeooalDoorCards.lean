/-
  DERIVED. GIVEN WITH THE SEED: THE CARDS: each row of YtcifgableeeooalDoorRows.lean that lists a variable, with what it lists TIED to the program's text (the seventh form; the later family's looks); each row that meets fmt, with fmt's text TOLD by the authors' own Lean function (tested against real Go, not proved from fmt's source: count such statements apart). THE CARD IS WHAT COUNTS. Prove the row's statement (the work); the ties are given (YtcifgableeeooalDoorTie.lean); close each card by the builder's one call (the guide's Derived/Test/ToyasCard.lean, 'card_holds'). Laid BY PROGRAM, IN A SANDBOX (cutbox-door.mjs). By AI agents, Wed Nov 11 2026. No macro, syntax, notation, axiom, sorry.
-/
import Derived.Test.YtcifgableeeooalDoorRows
import GoSem.ClaimSeven
namespace Go.Proofs.YtcifgableeeooalDoor
namespace Rows

/-- THE TIED CARD OF 'laws.FnExactUnframe'. -/
def fnExactUnframeCard : Claim7 := { stood := { row := fnExactUnframeRow, standIns := [], harness := (true, "7cbc68f7a52792185449ddf497c171d17636b6d4d3fd164a664e32987752cbce"), looks := true }, kinds := [], alts := [], laidByText := true, laidKinds := [.data], laidTests := true, laidLooks := .later }
def FnExactUnframeCardSaid : Prop := Claim7.holds Tryd.pinned (.plain (OpenSpec.ofChange fnExactUnframeSpec)) fnExactUnframeCard

/-- THE SECOND FORM's CARD OF 'laws.FnExactUnframe'. -/
def fnExactUnframeUptoCard : Claim7 := { stood := { row := fnExactUnframeUptoRow, standIns := [], harness := (true, "7cbc68f7a52792185449ddf497c171d17636b6d4d3fd164a664e32987752cbce"), looks := true }, kinds := [], alts := [], laidByText := true, laidKinds := [.data], laidTests := true, laidLooks := .later }
def FnExactUnframeUptoCardSaid : Prop := Claim7.holds Tryd.pinned (.plain (OpenSpec.upto fnExactUnframeSpec)) fnExactUnframeUptoCard
end Rows
end Go.Proofs.YtcifgableeeooalDoor

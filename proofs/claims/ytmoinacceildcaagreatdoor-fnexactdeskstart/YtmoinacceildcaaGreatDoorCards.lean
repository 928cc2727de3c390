/-
  DERIVED. GIVEN WITH THE SEED: THE CARDS: each row of YtmoinacceildcaaGreatDoorRows.lean that lists a variable, with what it lists TIED to the program's text (the seventh form; the later family's looks); each row that meets fmt, with fmt's text TOLD by the authors' own Lean function (tested against real Go, not proved from fmt's source: count such statements apart). THE CARD IS WHAT COUNTS. Prove the row's statement (the work); the ties are given (YtmoinacceildcaaGreatDoorTie.lean); close each card by the builder's one call (the guide's Derived/Test/ToyasCard.lean, 'card_holds'). Laid BY PROGRAM, IN A SANDBOX (cutbox-door.mjs). By AI agents, Wed Nov 11 2026. No macro, syntax, notation, axiom, sorry.
-/
import Derived.Test.YtmoinacceildcaaGreatDoorRows
import GoSem.ClaimSeven
namespace Go.Proofs.YtmoinacceildcaaGreatDoor
namespace Rows

/-- THE TIED CARD OF 'laws.FnExactDeskStart'. -/
def fnExactDeskStartCard : Claim7 := { stood := { row := fnExactDeskStartRow, standIns := [], harness := (true, "5e2e543ace0363c67e834f5b4ac05f6c6efdeded78fd24d44e4e01480715b263"), looks := false }, kinds := [], alts := [], laidByText := true, laidKinds := [.sentinel, .sentinel], laidTests := true, laidLooks := .later }
def FnExactDeskStartCardSaid : Prop := Claim7.holds Tryz.pinned (.plain (OpenSpec.ofChange fnExactDeskStartSpec)) fnExactDeskStartCard

/-- THE SECOND FORM's CARD OF 'laws.FnExactDeskStart'. -/
def fnExactDeskStartUptoCard : Claim7 := { stood := { row := fnExactDeskStartUptoRow, standIns := [], harness := (true, "5e2e543ace0363c67e834f5b4ac05f6c6efdeded78fd24d44e4e01480715b263"), looks := false }, kinds := [], alts := [], laidByText := true, laidKinds := [.sentinel, .sentinel], laidTests := true, laidLooks := .later }
def FnExactDeskStartUptoCardSaid : Prop := Claim7.holds Tryz.pinned (.plain (OpenSpec.upto fnExactDeskStartSpec)) fnExactDeskStartUptoCard
end Rows
end Go.Proofs.YtmoinacceildcaaGreatDoor

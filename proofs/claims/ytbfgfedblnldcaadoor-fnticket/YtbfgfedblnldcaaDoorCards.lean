/-
  DERIVED. GIVEN WITH THE SEED: THE CARDS: each row of YtbfgfedblnldcaaDoorRows.lean that lists a variable, with what it lists TIED to the program's text (the seventh form; the later family's looks); each row that meets fmt, with fmt's text TOLD by the authors' own Lean function (tested against real Go, not proved from fmt's source: count such statements apart). THE CARD IS WHAT COUNTS. Prove the row's statement (the work); the ties are given (YtbfgfedblnldcaaDoorTie.lean); close each card by the builder's one call (the guide's Derived/Test/ToyasCard.lean, 'card_holds'). Laid BY PROGRAM, IN A SANDBOX (cutbox-door.mjs). By AI agents, Wed Nov 11 2026. No macro, syntax, notation, axiom, sorry.
-/
import Derived.Test.YtbfgfedblnldcaaDoorRows
import GoSem.ClaimSeven
namespace Go.Proofs.YtbfgfedblnldcaaDoor
namespace Rows

/-- THE TIED CARD OF 'laws.FnTicket'. -/
def fnTicketCard : Claim7 := { stood := { row := fnTicketRow, standIns := [], harness := (true, "59405d17816ed9b7586fd12cca59e10448d7542a3dd2f7dc44215361abd5511d"), looks := false }, kinds := [], alts := [], laidByText := true, laidKinds := [.data, .data, .data, .data, .pinned], laidTests := true, laidLooks := .later }
def FnTicketCardSaid : Prop := Claim7.holds Tryd.pinned (.plain (OpenSpec.ofChange fnTicketSpec)) fnTicketCard

/-- THE SECOND FORM's CARD OF 'laws.FnTicket'. -/
def fnTicketUptoCard : Claim7 := { stood := { row := fnTicketUptoRow, standIns := [], harness := (true, "59405d17816ed9b7586fd12cca59e10448d7542a3dd2f7dc44215361abd5511d"), looks := false }, kinds := [], alts := [], laidByText := true, laidKinds := [.data, .data, .data, .data, .pinned], laidTests := true, laidLooks := .later }
def FnTicketUptoCardSaid : Prop := Claim7.holds Tryd.pinned (.plain (OpenSpec.upto fnTicketSpec)) fnTicketUptoCard
end Rows
end Go.Proofs.YtbfgfedblnldcaaDoor

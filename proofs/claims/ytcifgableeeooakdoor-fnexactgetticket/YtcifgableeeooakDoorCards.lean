/-
  DERIVED. GIVEN WITH THE SEED: THE CARDS: each row of YtcifgableeeooakDoorRows.lean that lists a variable, with what it lists TIED to the program's text (the seventh form; the later family's looks); each row that meets fmt, with fmt's text TOLD by the authors' own Lean function (tested against real Go, not proved from fmt's source: count such statements apart). THE CARD IS WHAT COUNTS. Prove the row's statement (the work); the ties are given (YtcifgableeeooakDoorTie.lean); close each card by the builder's one call (the guide's Derived/Test/ToyasCard.lean, 'card_holds'). Laid BY PROGRAM, IN A SANDBOX (cutbox-door.mjs). By AI agents, Wed Nov 11 2026. No macro, syntax, notation, axiom, sorry.
-/
import Derived.Test.YtcifgableeeooakDoorRows
import GoSem.ClaimSeven
namespace Go.Proofs.YtcifgableeeooakDoor
namespace Rows

/-- THE TIED CARD OF 'laws.FnExactUnpack'. -/
def fnExactUnpackCard : Claim7 := { stood := { row := fnExactUnpackRow, standIns := [], harness := (true, "7373f6bd7c218ae4295b2d595a5072177fbba6501724b7e2c0f073ed7c9043f9"), looks := true }, kinds := [], alts := [], laidByText := true, laidKinds := [.data], laidTests := true, laidLooks := .later }
def FnExactUnpackCardSaid : Prop := Claim7.holds Tryd.pinned (.plain (OpenSpec.ofChange fnExactUnpackSpec)) fnExactUnpackCard

/-- THE TIED CARD OF 'laws.FnExactPutTicket'. -/
def fnExactPutTicketCard : Claim7 := { stood := { row := fnExactPutTicketRow, standIns := [], harness := (true, "7373f6bd7c218ae4295b2d595a5072177fbba6501724b7e2c0f073ed7c9043f9"), looks := true }, kinds := [], alts := [], laidByText := true, laidKinds := [.data, .data, .data], laidTests := true, laidLooks := .later }
def FnExactPutTicketCardSaid : Prop := Claim7.holds Tryd.pinned (.plain (OpenSpec.ofChange fnExactPutTicketSpec)) fnExactPutTicketCard

/-- THE TIED CARD OF 'laws.FnExactGetTicket'. -/
def fnExactGetTicketCard : Claim7 := { stood := { row := fnExactGetTicketRow, standIns := [], harness := (true, "7373f6bd7c218ae4295b2d595a5072177fbba6501724b7e2c0f073ed7c9043f9"), looks := true }, kinds := [], alts := [], laidByText := true, laidKinds := [.data, .data, .data, .data, .pinned], laidTests := true, laidLooks := .later }
def FnExactGetTicketCardSaid : Prop := Claim7.holds Tryd.pinned (.plain (OpenSpec.ofChange fnExactGetTicketSpec)) fnExactGetTicketCard

/-- THE SECOND FORM's CARD OF 'laws.FnExactUnpack'. -/
def fnExactUnpackUptoCard : Claim7 := { stood := { row := fnExactUnpackUptoRow, standIns := [], harness := (true, "7373f6bd7c218ae4295b2d595a5072177fbba6501724b7e2c0f073ed7c9043f9"), looks := true }, kinds := [], alts := [], laidByText := true, laidKinds := [.data], laidTests := true, laidLooks := .later }
def FnExactUnpackUptoCardSaid : Prop := Claim7.holds Tryd.pinned (.plain (OpenSpec.upto fnExactUnpackSpec)) fnExactUnpackUptoCard

/-- THE SECOND FORM's CARD OF 'laws.FnExactPutTicket'. -/
def fnExactPutTicketUptoCard : Claim7 := { stood := { row := fnExactPutTicketUptoRow, standIns := [], harness := (true, "7373f6bd7c218ae4295b2d595a5072177fbba6501724b7e2c0f073ed7c9043f9"), looks := true }, kinds := [], alts := [], laidByText := true, laidKinds := [.data, .data, .data], laidTests := true, laidLooks := .later }
def FnExactPutTicketUptoCardSaid : Prop := Claim7.holds Tryd.pinned (.plain (OpenSpec.upto fnExactPutTicketSpec)) fnExactPutTicketUptoCard

/-- THE SECOND FORM's CARD OF 'laws.FnExactGetTicket'. -/
def fnExactGetTicketUptoCard : Claim7 := { stood := { row := fnExactGetTicketUptoRow, standIns := [], harness := (true, "7373f6bd7c218ae4295b2d595a5072177fbba6501724b7e2c0f073ed7c9043f9"), looks := true }, kinds := [], alts := [], laidByText := true, laidKinds := [.data, .data, .data, .data, .pinned], laidTests := true, laidLooks := .later }
def FnExactGetTicketUptoCardSaid : Prop := Claim7.holds Tryd.pinned (.plain (OpenSpec.upto fnExactGetTicketSpec)) fnExactGetTicketUptoCard
end Rows
end Go.Proofs.YtcifgableeeooakDoor

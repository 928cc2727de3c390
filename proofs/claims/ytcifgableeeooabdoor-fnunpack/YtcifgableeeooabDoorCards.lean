/-
  DERIVED. GIVEN WITH THE SEED: THE CARDS: each row of YtcifgableeeooabDoorRows.lean that lists a variable, with what it lists TIED to the program's text (the seventh form; the later family's looks); each row that meets fmt, with fmt's text TOLD by the authors' own Lean function (tested against real Go, not proved from fmt's source: count such statements apart). THE CARD IS WHAT COUNTS. Prove the row's statement (the work); the ties are given (YtcifgableeeooabDoorTie.lean); close each card by the builder's one call (the guide's Derived/Test/ToyasCard.lean, 'card_holds'). Laid BY PROGRAM, IN A SANDBOX (cutbox-door.mjs). By AI agents, Wed Nov 11 2026. No macro, syntax, notation, axiom, sorry.
-/
import Derived.Test.YtcifgableeeooabDoorRows
import GoSem.ClaimSeven
namespace Go.Proofs.YtcifgableeeooabDoor
namespace Rows

/-- THE TIED CARD OF 'laws.FnVerify'. -/
def fnVerifyCard : Claim7 := { stood := { row := fnVerifyRow, standIns := [], harness := (true, "2a1d4b1a3208e8fc3ec888a53c137f88d74af349858a777b57e41a60cc361a51"), looks := true }, kinds := [], alts := [], laidByText := true, laidKinds := [.sentinel, .sentinel, .sentinel, .sentinel], laidTests := true, laidLooks := .later }
def FnVerifyCardSaid : Prop := Claim7.holds Tryd.pinned (.plain (OpenSpec.ofChange fnVerifySpec)) fnVerifyCard

/-- THE TIED CARD OF 'laws.FnPacked'. -/
def fnPackedCard : Claim7 := { stood := { row := fnPackedRow, standIns := [], harness := (true, "2a1d4b1a3208e8fc3ec888a53c137f88d74af349858a777b57e41a60cc361a51"), looks := true }, kinds := [], alts := [], laidByText := true, laidKinds := [.data], laidTests := true, laidLooks := .later }
def FnPackedCardSaid : Prop := Claim7.holds Tryd.pinned (.plain (OpenSpec.ofChange fnPackedSpec)) fnPackedCard

/-- THE TIED CARD OF 'laws.FnUnpack'. -/
def fnUnpackCard : Claim7 := { stood := { row := fnUnpackRow, standIns := [], harness := (true, "2a1d4b1a3208e8fc3ec888a53c137f88d74af349858a777b57e41a60cc361a51"), looks := true }, kinds := [], alts := [], laidByText := true, laidKinds := [.data], laidTests := true, laidLooks := .later }
def FnUnpackCardSaid : Prop := Claim7.holds Tryd.pinned (.plain (OpenSpec.ofChange fnUnpackSpec)) fnUnpackCard

/-- THE TIED CARD OF 'laws.FnRanges'. -/
def fnRangesCard : Claim7 := { stood := { row := fnRangesRow, standIns := [], harness := (true, "2a1d4b1a3208e8fc3ec888a53c137f88d74af349858a777b57e41a60cc361a51"), looks := true }, kinds := [], alts := [], laidByText := true, laidKinds := [.data], laidTests := true, laidLooks := .later }
def FnRangesCardSaid : Prop := Claim7.holds Tryd.pinned (.plain (OpenSpec.ofChange fnRangesSpec)) fnRangesCard

/-- THE TIED CARD OF 'laws.FnTicket'. -/
def fnTicketCard : Claim7 := { stood := { row := fnTicketRow, standIns := [], harness := (true, "2a1d4b1a3208e8fc3ec888a53c137f88d74af349858a777b57e41a60cc361a51"), looks := true }, kinds := [], alts := [], laidByText := true, laidKinds := [.data, .data, .data, .data, .pinned], laidTests := true, laidLooks := .later }
def FnTicketCardSaid : Prop := Claim7.holds Tryd.pinned (.plain (OpenSpec.ofChange fnTicketSpec)) fnTicketCard

/-- THE SECOND FORM's CARD OF 'laws.FnVerify'. -/
def fnVerifyUptoCard : Claim7 := { stood := { row := fnVerifyUptoRow, standIns := [], harness := (true, "2a1d4b1a3208e8fc3ec888a53c137f88d74af349858a777b57e41a60cc361a51"), looks := true }, kinds := [], alts := [], laidByText := true, laidKinds := [.sentinel, .sentinel, .sentinel, .sentinel], laidTests := true, laidLooks := .later }
def FnVerifyUptoCardSaid : Prop := Claim7.holds Tryd.pinned (.plain (OpenSpec.upto fnVerifySpec)) fnVerifyUptoCard

/-- THE SECOND FORM's CARD OF 'laws.FnPacked'. -/
def fnPackedUptoCard : Claim7 := { stood := { row := fnPackedUptoRow, standIns := [], harness := (true, "2a1d4b1a3208e8fc3ec888a53c137f88d74af349858a777b57e41a60cc361a51"), looks := true }, kinds := [], alts := [], laidByText := true, laidKinds := [.data], laidTests := true, laidLooks := .later }
def FnPackedUptoCardSaid : Prop := Claim7.holds Tryd.pinned (.plain (OpenSpec.upto fnPackedSpec)) fnPackedUptoCard

/-- THE SECOND FORM's CARD OF 'laws.FnUnpack'. -/
def fnUnpackUptoCard : Claim7 := { stood := { row := fnUnpackUptoRow, standIns := [], harness := (true, "2a1d4b1a3208e8fc3ec888a53c137f88d74af349858a777b57e41a60cc361a51"), looks := true }, kinds := [], alts := [], laidByText := true, laidKinds := [.data], laidTests := true, laidLooks := .later }
def FnUnpackUptoCardSaid : Prop := Claim7.holds Tryd.pinned (.plain (OpenSpec.upto fnUnpackSpec)) fnUnpackUptoCard

/-- THE SECOND FORM's CARD OF 'laws.FnRanges'. -/
def fnRangesUptoCard : Claim7 := { stood := { row := fnRangesUptoRow, standIns := [], harness := (true, "2a1d4b1a3208e8fc3ec888a53c137f88d74af349858a777b57e41a60cc361a51"), looks := true }, kinds := [], alts := [], laidByText := true, laidKinds := [.data], laidTests := true, laidLooks := .later }
def FnRangesUptoCardSaid : Prop := Claim7.holds Tryd.pinned (.plain (OpenSpec.upto fnRangesSpec)) fnRangesUptoCard

/-- THE SECOND FORM's CARD OF 'laws.FnTicket'. -/
def fnTicketUptoCard : Claim7 := { stood := { row := fnTicketUptoRow, standIns := [], harness := (true, "2a1d4b1a3208e8fc3ec888a53c137f88d74af349858a777b57e41a60cc361a51"), looks := true }, kinds := [], alts := [], laidByText := true, laidKinds := [.data, .data, .data, .data, .pinned], laidTests := true, laidLooks := .later }
def FnTicketUptoCardSaid : Prop := Claim7.holds Tryd.pinned (.plain (OpenSpec.upto fnTicketSpec)) fnTicketUptoCard
end Rows
end Go.Proofs.YtcifgableeeooabDoor

/-
  DERIVED. GIVEN WITH THE SEED: THE CARDS: each row of YtaocindfopipnabDoorRows.lean that lists a variable, with what it lists TIED to the program's text (the seventh form; the later family's looks); each row that meets fmt, with fmt's text TOLD by the authors' own Lean function (tested against real Go, not proved from fmt's source: count such statements apart). THE CARD IS WHAT COUNTS. Prove the row's statement (the work); the ties are given (YtaocindfopipnabDoorTie.lean); close each card by the builder's one call (the guide's Derived/Test/ToyasCard.lean, 'card_holds'). Laid BY PROGRAM, IN A SANDBOX (cutbox-door.mjs). By AI agents, Wed Nov 11 2026. No macro, syntax, notation, axiom, sorry.
-/
import Derived.Test.YtaocindfopipnabDoorRows
import GoSem.ClaimSeven
namespace Go.Proofs.YtaocindfopipnabDoor
namespace Rows

/-- THE TIED CARD OF 'laws.FnVerify'. -/
def fnVerifyCard : Claim7 := { stood := { row := fnVerifyRow, standIns := [], harness := (true, "ee1df3c56c5f1b57a1de6e01c297c4fd64f857900e05e1583b2d6008a1637e79"), looks := true }, kinds := [], alts := [], laidByText := true, laidKinds := [.sentinel, .sentinel, .sentinel, .sentinel], laidTests := true, laidLooks := .later }
def FnVerifyCardSaid : Prop := Claim7.holds Tryd.pinned (.plain (OpenSpec.ofChange fnVerifySpec)) fnVerifyCard

/-- THE TIED CARD OF 'laws.FnPacked'. -/
def fnPackedCard : Claim7 := { stood := { row := fnPackedRow, standIns := [], harness := (true, "ee1df3c56c5f1b57a1de6e01c297c4fd64f857900e05e1583b2d6008a1637e79"), looks := true }, kinds := [], alts := [], laidByText := true, laidKinds := [.data], laidTests := true, laidLooks := .later }
def FnPackedCardSaid : Prop := Claim7.holds Tryd.pinned (.plain (OpenSpec.ofChange fnPackedSpec)) fnPackedCard

/-- THE TIED CARD OF 'laws.FnUnpack'. -/
def fnUnpackCard : Claim7 := { stood := { row := fnUnpackRow, standIns := [], harness := (true, "ee1df3c56c5f1b57a1de6e01c297c4fd64f857900e05e1583b2d6008a1637e79"), looks := true }, kinds := [], alts := [], laidByText := true, laidKinds := [.data], laidTests := true, laidLooks := .later }
def FnUnpackCardSaid : Prop := Claim7.holds Tryd.pinned (.plain (OpenSpec.ofChange fnUnpackSpec)) fnUnpackCard

/-- THE TIED CARD OF 'laws.FnRanges'. -/
def fnRangesCard : Claim7 := { stood := { row := fnRangesRow, standIns := [], harness := (true, "ee1df3c56c5f1b57a1de6e01c297c4fd64f857900e05e1583b2d6008a1637e79"), looks := true }, kinds := [], alts := [], laidByText := true, laidKinds := [.data], laidTests := true, laidLooks := .later }
def FnRangesCardSaid : Prop := Claim7.holds Tryd.pinned (.plain (OpenSpec.ofChange fnRangesSpec)) fnRangesCard

/-- THE SECOND FORM's CARD OF 'laws.FnVerify'. -/
def fnVerifyUptoCard : Claim7 := { stood := { row := fnVerifyUptoRow, standIns := [], harness := (true, "ee1df3c56c5f1b57a1de6e01c297c4fd64f857900e05e1583b2d6008a1637e79"), looks := true }, kinds := [], alts := [], laidByText := true, laidKinds := [.sentinel, .sentinel, .sentinel, .sentinel], laidTests := true, laidLooks := .later }
def FnVerifyUptoCardSaid : Prop := Claim7.holds Tryd.pinned (.plain (OpenSpec.upto fnVerifySpec)) fnVerifyUptoCard

/-- THE SECOND FORM's CARD OF 'laws.FnPacked'. -/
def fnPackedUptoCard : Claim7 := { stood := { row := fnPackedUptoRow, standIns := [], harness := (true, "ee1df3c56c5f1b57a1de6e01c297c4fd64f857900e05e1583b2d6008a1637e79"), looks := true }, kinds := [], alts := [], laidByText := true, laidKinds := [.data], laidTests := true, laidLooks := .later }
def FnPackedUptoCardSaid : Prop := Claim7.holds Tryd.pinned (.plain (OpenSpec.upto fnPackedSpec)) fnPackedUptoCard

/-- THE SECOND FORM's CARD OF 'laws.FnUnpack'. -/
def fnUnpackUptoCard : Claim7 := { stood := { row := fnUnpackUptoRow, standIns := [], harness := (true, "ee1df3c56c5f1b57a1de6e01c297c4fd64f857900e05e1583b2d6008a1637e79"), looks := true }, kinds := [], alts := [], laidByText := true, laidKinds := [.data], laidTests := true, laidLooks := .later }
def FnUnpackUptoCardSaid : Prop := Claim7.holds Tryd.pinned (.plain (OpenSpec.upto fnUnpackSpec)) fnUnpackUptoCard

/-- THE SECOND FORM's CARD OF 'laws.FnRanges'. -/
def fnRangesUptoCard : Claim7 := { stood := { row := fnRangesUptoRow, standIns := [], harness := (true, "ee1df3c56c5f1b57a1de6e01c297c4fd64f857900e05e1583b2d6008a1637e79"), looks := true }, kinds := [], alts := [], laidByText := true, laidKinds := [.data], laidTests := true, laidLooks := .later }
def FnRangesUptoCardSaid : Prop := Claim7.holds Tryd.pinned (.plain (OpenSpec.upto fnRangesSpec)) fnRangesUptoCard
end Rows
end Go.Proofs.YtaocindfopipnabDoor

/-
  DERIVED. GIVEN WITH THE SEED: THE CARDS: each row of YtllmmelnkkmfoaaDoorRows.lean that lists a variable, with what it lists TIED to the program's text (the seventh form; the later family's looks); each row that meets fmt, with fmt's text TOLD by the authors' own Lean function (tested against real Go, not proved from fmt's source: count such statements apart). THE CARD IS WHAT COUNTS. Prove the row's statement (the work); the ties are given (YtllmmelnkkmfoaaDoorTie.lean); close each card by the builder's one call (the guide's Derived/Test/ToyasCard.lean, 'card_holds'). Laid BY PROGRAM, IN A SANDBOX (cutbox-door.mjs). By AI agents, Wed Nov 11 2026. No macro, syntax, notation, axiom, sorry.
-/
import Derived.Test.YtllmmelnkkmfoaaDoorRows
import GoSem.ClaimSeven
namespace Go.Proofs.YtllmmelnkkmfoaaDoor
namespace Rows

/-- THE TIED CARD OF 'laws.FnNumbers'. -/
def fnNumbersCard : Claim7 := { stood := { row := fnNumbersRow, standIns := [], harness := (true, "2bfb7609cb8ab84eb24868fb9dd748f5aaba0aa6613ae5bff5e0c97f338cf6e8"), looks := true }, kinds := [], alts := [], laidByText := true, laidKinds := [.data, .data, .data], laidTests := true, laidLooks := .later }
def FnNumbersCardSaid : Prop := Claim7.holds Tryd.pinned (.plain (OpenSpec.ofChange fnNumbersSpec)) fnNumbersCard

/-- THE TIED CARD OF 'laws.FnSigned'. -/
def fnSignedCard : Claim7 := { stood := { row := fnSignedRow, standIns := [], harness := (true, "2bfb7609cb8ab84eb24868fb9dd748f5aaba0aa6613ae5bff5e0c97f338cf6e8"), looks := true }, kinds := [], alts := [], laidByText := true, laidKinds := [.sentinel, .sentinel, .sentinel, .sentinel, .sentinel, .sentinel], laidTests := true, laidLooks := .later }
def FnSignedCardSaid : Prop := Claim7.holds Tryd.pinned (.plain (OpenSpec.ofChange fnSignedSpec)) fnSignedCard

/-- THE SECOND FORM's CARD OF 'laws.FnNumbers'. -/
def fnNumbersUptoCard : Claim7 := { stood := { row := fnNumbersUptoRow, standIns := [], harness := (true, "2bfb7609cb8ab84eb24868fb9dd748f5aaba0aa6613ae5bff5e0c97f338cf6e8"), looks := true }, kinds := [], alts := [], laidByText := true, laidKinds := [.data, .data, .data], laidTests := true, laidLooks := .later }
def FnNumbersUptoCardSaid : Prop := Claim7.holds Tryd.pinned (.plain (OpenSpec.upto fnNumbersSpec)) fnNumbersUptoCard

/-- THE SECOND FORM's CARD OF 'laws.FnSigned'. -/
def fnSignedUptoCard : Claim7 := { stood := { row := fnSignedUptoRow, standIns := [], harness := (true, "2bfb7609cb8ab84eb24868fb9dd748f5aaba0aa6613ae5bff5e0c97f338cf6e8"), looks := true }, kinds := [], alts := [], laidByText := true, laidKinds := [.sentinel, .sentinel, .sentinel, .sentinel, .sentinel, .sentinel], laidTests := true, laidLooks := .later }
def FnSignedUptoCardSaid : Prop := Claim7.holds Tryd.pinned (.plain (OpenSpec.upto fnSignedSpec)) fnSignedUptoCard
end Rows
end Go.Proofs.YtllmmelnkkmfoaaDoor

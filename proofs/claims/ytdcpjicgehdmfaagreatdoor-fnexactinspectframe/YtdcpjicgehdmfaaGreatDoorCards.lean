/-
  DERIVED. GIVEN WITH THE SEED: THE CARDS: each row of YtdcpjicgehdmfaaGreatDoorRows.lean that lists a variable, with what it lists TIED to the program's text (the seventh form; the later family's looks); each row that meets fmt, with fmt's text TOLD by the authors' own Lean function (tested against real Go, not proved from fmt's source: count such statements apart). THE CARD IS WHAT COUNTS. Prove the row's statement (the work); the ties are given (YtdcpjicgehdmfaaGreatDoorTie.lean); close each card by the builder's one call (the guide's Derived/Test/ToyasCard.lean, 'card_holds'). Laid BY PROGRAM, IN A SANDBOX (cutbox-door.mjs). By AI agents, Wed Nov 11 2026. No macro, syntax, notation, axiom, sorry.
-/
import Derived.Test.YtdcpjicgehdmfaaGreatDoorRows
import GoSem.ClaimSeven
namespace Go.Proofs.YtdcpjicgehdmfaaGreatDoor
namespace Rows

/-- THE TIED CARD OF 'laws.FnExactInspectFrame'. -/
def fnExactInspectFrameCard : Claim7 := { stood := { row := fnExactInspectFrameRow, standIns := [], harness := (true, "72283c2f5d341a146696bf4614716d503f6801d978c2861691aad28b994e7d87"), looks := true }, kinds := [], alts := [], laidByText := true, laidKinds := [.data, .data, .data, .data, .sentinel, .sentinel, .sentinel, .sentinel, .data, .pinned], laidTests := true, laidLooks := .later }
def FnExactInspectFrameCardSaid : Prop := Claim7.holds Tryz.pinned (.plain (OpenSpec.ofChange fnExactInspectFrameSpec)) fnExactInspectFrameCard

/-- THE SECOND FORM's CARD OF 'laws.FnExactInspectFrame'. -/
def fnExactInspectFrameUptoCard : Claim7 := { stood := { row := fnExactInspectFrameUptoRow, standIns := [], harness := (true, "72283c2f5d341a146696bf4614716d503f6801d978c2861691aad28b994e7d87"), looks := true }, kinds := [], alts := [], laidByText := true, laidKinds := [.data, .data, .data, .data, .sentinel, .sentinel, .sentinel, .sentinel, .data, .pinned], laidTests := true, laidLooks := .later }
def FnExactInspectFrameUptoCardSaid : Prop := Claim7.holds Tryz.pinned (.plain (OpenSpec.upto fnExactInspectFrameSpec)) fnExactInspectFrameUptoCard
end Rows
end Go.Proofs.YtdcpjicgehdmfaaGreatDoor

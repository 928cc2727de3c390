/-
  DERIVED. GIVEN WITH THE SEED: THE CARDS: each row of YtllmmelnkkmfoajDoorRows.lean that lists a variable, with what it lists TIED to the program's text (the seventh form; the later family's looks); each row that meets fmt, with fmt's text TOLD by the authors' own Lean function (tested against real Go, not proved from fmt's source: count such statements apart). THE CARD IS WHAT COUNTS. Prove the row's statement (the work); the ties are given (YtllmmelnkkmfoajDoorTie.lean); close each card by the builder's one call (the guide's Derived/Test/ToyasCard.lean, 'card_holds'). Laid BY PROGRAM, IN A SANDBOX (cutbox-door.mjs). By AI agents, Wed Nov 11 2026. No macro, syntax, notation, axiom, sorry.
-/
import Derived.Test.YtllmmelnkkmfoajDoorRows
import GoSem.ClaimSeven
namespace Go.Proofs.YtllmmelnkkmfoajDoor
namespace Rows

/-- THE TIED CARD OF 'laws.FnExactFixedCode'. -/
def fnExactFixedCodeCard : Claim7 := { stood := { row := fnExactFixedCodeRow, standIns := [], harness := (true, "d9f568af7d1e497cf65d78d22f7e1824f31852558542cee6180fcbd6d5fc76b0"), looks := false }, kinds := [], alts := [], laidByText := true, laidKinds := [.data], laidTests := true, laidLooks := .later }
def FnExactFixedCodeCardSaid : Prop := Claim7.holds Tryd.pinned (.plain (OpenSpec.ofChange fnExactFixedCodeSpec)) fnExactFixedCodeCard

/-- THE TIED CARD OF 'laws.FnExactPack'. -/
def fnExactPackCard : Claim7 := { stood := { row := fnExactPackRow, standIns := [], harness := (true, "d9f568af7d1e497cf65d78d22f7e1824f31852558542cee6180fcbd6d5fc76b0"), looks := false }, kinds := [], alts := [], laidByText := true, laidKinds := [.data], laidTests := true, laidLooks := .later }
def FnExactPackCardSaid : Prop := Claim7.holds Tryd.pinned (.plain (OpenSpec.ofChange fnExactPackSpec)) fnExactPackCard

/-- THE SECOND FORM's CARD OF 'laws.FnExactFixedCode'. -/
def fnExactFixedCodeUptoCard : Claim7 := { stood := { row := fnExactFixedCodeUptoRow, standIns := [], harness := (true, "d9f568af7d1e497cf65d78d22f7e1824f31852558542cee6180fcbd6d5fc76b0"), looks := false }, kinds := [], alts := [], laidByText := true, laidKinds := [.data], laidTests := true, laidLooks := .later }
def FnExactFixedCodeUptoCardSaid : Prop := Claim7.holds Tryd.pinned (.plain (OpenSpec.upto fnExactFixedCodeSpec)) fnExactFixedCodeUptoCard

/-- THE SECOND FORM's CARD OF 'laws.FnExactPack'. -/
def fnExactPackUptoCard : Claim7 := { stood := { row := fnExactPackUptoRow, standIns := [], harness := (true, "d9f568af7d1e497cf65d78d22f7e1824f31852558542cee6180fcbd6d5fc76b0"), looks := false }, kinds := [], alts := [], laidByText := true, laidKinds := [.data], laidTests := true, laidLooks := .later }
def FnExactPackUptoCardSaid : Prop := Claim7.holds Tryd.pinned (.plain (OpenSpec.upto fnExactPackSpec)) fnExactPackUptoCard
end Rows
end Go.Proofs.YtllmmelnkkmfoajDoor

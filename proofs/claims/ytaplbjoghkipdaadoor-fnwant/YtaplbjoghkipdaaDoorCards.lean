/-
  DERIVED. GIVEN WITH THE SEED: THE CARDS: each row of YtaplbjoghkipdaaDoorRows.lean that lists a variable, with what it lists TIED to the program's text (the seventh form; the later family's looks); each row that meets fmt, with fmt's text TOLD by the authors' own Lean function (tested against real Go, not proved from fmt's source: count such statements apart). THE CARD IS WHAT COUNTS. Prove the row's statement (the work); the ties are given (YtaplbjoghkipdaaDoorTie.lean); close each card by the builder's one call (the guide's Derived/Test/ToyasCard.lean, 'card_holds'). Laid BY PROGRAM, IN A SANDBOX (cutbox-door.mjs). By AI agents, Wed Nov 11 2026. No macro, syntax, notation, axiom, sorry.
-/
import Derived.Test.YtaplbjoghkipdaaDoorRows
import GoSem.ClaimSeven
namespace Go.Proofs.YtaplbjoghkipdaaDoor
namespace Rows

/-- THE TIED CARD OF 'laws.FnWant'. -/
def fnWantCard : Claim7 := { stood := { row := fnWantRow, standIns := [], harness := (true, "8bb7497976c103c519ad424186042abe5c524977bdb8d2bc3e29b14ad511dab0"), looks := false }, kinds := [], alts := [], laidByText := true, laidKinds := [.data, .data, .data], laidTests := true, laidLooks := .later }
def FnWantCardSaid : Prop := Claim7.holds Tryd.pinned (.plain (OpenSpec.ofChange fnWantSpec)) fnWantCard

/-- THE SECOND FORM's CARD OF 'laws.FnWant'. -/
def fnWantUptoCard : Claim7 := { stood := { row := fnWantUptoRow, standIns := [], harness := (true, "8bb7497976c103c519ad424186042abe5c524977bdb8d2bc3e29b14ad511dab0"), looks := false }, kinds := [], alts := [], laidByText := true, laidKinds := [.data, .data, .data], laidTests := true, laidLooks := .later }
def FnWantUptoCardSaid : Prop := Claim7.holds Tryd.pinned (.plain (OpenSpec.upto fnWantSpec)) fnWantUptoCard
end Rows
end Go.Proofs.YtaplbjoghkipdaaDoor

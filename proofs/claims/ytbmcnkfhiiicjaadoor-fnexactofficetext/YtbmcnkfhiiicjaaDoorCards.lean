/-
  DERIVED. GIVEN WITH THE SEED: THE CARDS: each row of YtbmcnkfhiiicjaaDoorRows.lean that lists a variable, with what it lists TIED to the program's text (the seventh form; the later family's looks); each row that meets fmt, with fmt's text TOLD by the authors' own Lean function (tested against real Go, not proved from fmt's source: count such statements apart). THE CARD IS WHAT COUNTS. Prove the row's statement (the work); the ties are given (YtbmcnkfhiiicjaaDoorTie.lean); close each card by the builder's one call (the guide's Derived/Test/ToyasCard.lean, 'card_holds'). Laid BY PROGRAM, IN A SANDBOX (cutbox-door.mjs). By AI agents, Wed Nov 11 2026. No macro, syntax, notation, axiom, sorry.
-/
import Derived.Test.YtbmcnkfhiiicjaaDoorRows
import GoSem.ClaimSeven
namespace Go.Proofs.YtbmcnkfhiiicjaaDoor
namespace Rows

/-- THE TIED CARD OF 'laws.FnExactOfficeText'. -/
def fnExactOfficeTextCard : Claim7 := { stood := { row := fnExactOfficeTextRow, standIns := [], harness := (true, "8dd103ad485c640782a8734e372632cbe018c843930cf57a8abfdb93c5adbbad"), looks := false }, kinds := [], alts := [], laidByText := true, laidKinds := [.data, .data, .data], laidTests := true, laidLooks := .later }
def FnExactOfficeTextCardSaid : Prop := Claim7.holds Tryd.pinned (.plain (OpenSpec.ofChange fnExactOfficeTextSpec)) fnExactOfficeTextCard

/-- THE SECOND FORM's CARD OF 'laws.FnExactOfficeText'. -/
def fnExactOfficeTextUptoCard : Claim7 := { stood := { row := fnExactOfficeTextUptoRow, standIns := [], harness := (true, "8dd103ad485c640782a8734e372632cbe018c843930cf57a8abfdb93c5adbbad"), looks := false }, kinds := [], alts := [], laidByText := true, laidKinds := [.data, .data, .data], laidTests := true, laidLooks := .later }
def FnExactOfficeTextUptoCardSaid : Prop := Claim7.holds Tryd.pinned (.plain (OpenSpec.upto fnExactOfficeTextSpec)) fnExactOfficeTextUptoCard
end Rows
end Go.Proofs.YtbmcnkfhiiicjaaDoor

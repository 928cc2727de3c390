/-
  DERIVED. GIVEN WITH THE SEED: THE CARDS: each row of YtdfejmaekdgcdasDoorRows.lean that lists a variable, with what it lists TIED to the program's text (the seventh form; the later family's looks); each row that meets fmt, with fmt's text TOLD by the authors' own Lean function (tested against real Go, not proved from fmt's source: count such statements apart). THE CARD IS WHAT COUNTS. Prove the row's statement (the work); the ties are given (YtdfejmaekdgcdasDoorTie.lean); close each card by the builder's one call (the guide's Derived/Test/ToyasCard.lean, 'card_holds'). Laid BY PROGRAM, IN A SANDBOX (cutbox-door.mjs). By AI agents, Wed Nov 11 2026. No macro, syntax, notation, axiom, sorry.
-/
import Derived.Test.YtdfejmaekdgcdasDoorRows
import GoSem.ClaimSeven
namespace Go.Proofs.YtdfejmaekdgcdasDoor
namespace Rows

/-- THE TIED CARD OF 'laws.FnExactWantLine'. -/
def fnExactWantLineCard : Claim7 := { stood := { row := fnExactWantLineRow, standIns := [], harness := (true, "caa22364e0901f9abda1d2bfb692210410eda811594949b321f93579ef1a715f"), looks := false }, kinds := [], alts := [], laidByText := true, laidKinds := [.data, .data, .data], laidTests := true, laidLooks := .later }
def FnExactWantLineCardSaid : Prop := Claim7.holds Tryd.pinned (.plain (OpenSpec.ofChange fnExactWantLineSpec)) fnExactWantLineCard

/-- THE TIED CARD OF 'laws.FnExactReadWant'. -/
def fnExactReadWantCard : Claim7 := { stood := { row := fnExactReadWantRow, standIns := [], harness := (true, "caa22364e0901f9abda1d2bfb692210410eda811594949b321f93579ef1a715f"), looks := false }, kinds := [], alts := [], laidByText := true, laidKinds := [.data, .data, .data], laidTests := true, laidLooks := .later }
def FnExactReadWantCardSaid : Prop := Claim7.holds Tryd.pinned (.plain (OpenSpec.ofChange fnExactReadWantSpec)) fnExactReadWantCard

/-- THE SECOND FORM's CARD OF 'laws.FnExactWantLine'. -/
def fnExactWantLineUptoCard : Claim7 := { stood := { row := fnExactWantLineUptoRow, standIns := [], harness := (true, "caa22364e0901f9abda1d2bfb692210410eda811594949b321f93579ef1a715f"), looks := false }, kinds := [], alts := [], laidByText := true, laidKinds := [.data, .data, .data], laidTests := true, laidLooks := .later }
def FnExactWantLineUptoCardSaid : Prop := Claim7.holds Tryd.pinned (.plain (OpenSpec.upto fnExactWantLineSpec)) fnExactWantLineUptoCard

/-- THE SECOND FORM's CARD OF 'laws.FnExactReadWant'. -/
def fnExactReadWantUptoCard : Claim7 := { stood := { row := fnExactReadWantUptoRow, standIns := [], harness := (true, "caa22364e0901f9abda1d2bfb692210410eda811594949b321f93579ef1a715f"), looks := false }, kinds := [], alts := [], laidByText := true, laidKinds := [.data, .data, .data], laidTests := true, laidLooks := .later }
def FnExactReadWantUptoCardSaid : Prop := Claim7.holds Tryd.pinned (.plain (OpenSpec.upto fnExactReadWantSpec)) fnExactReadWantUptoCard
end Rows
end Go.Proofs.YtdfejmaekdgcdasDoor

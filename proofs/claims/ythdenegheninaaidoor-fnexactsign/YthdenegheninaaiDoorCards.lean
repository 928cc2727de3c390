/-
  DERIVED. GIVEN WITH THE SEED: THE CARDS: each row of YthdenegheninaaiDoorRows.lean that lists a variable, with what it lists TIED to the program's text (the seventh form; the later family's looks); each row that meets fmt, with fmt's text TOLD by the authors' own Lean function (tested against real Go, not proved from fmt's source: count such statements apart). THE CARD IS WHAT COUNTS. Prove the row's statement (the work); the ties are given (YthdenegheninaaiDoorTie.lean); close each card by the builder's one call (the guide's Derived/Test/ToyasCard.lean, 'card_holds'). Laid BY PROGRAM, IN A SANDBOX (cutbox-door.mjs). By AI agents, Wed Nov 11 2026. No macro, syntax, notation, axiom, sorry.
-/
import Derived.Test.YthdenegheninaaiDoorRows
import GoSem.ClaimSeven
namespace Go.Proofs.YthdenegheninaaiDoor
namespace Rows

/-- THE TIED CARD OF 'laws.FnExactOpenKey'. -/
def fnExactOpenKeyCard : Claim7 := { stood := { row := fnExactOpenKeyRow, standIns := [], harness := (true, "9722f87580ad52bab2a8c4b2ad19b106f5aa07944a93a631ae6f06837324e22f"), looks := true }, kinds := [], alts := [], laidByText := true, laidKinds := [.sentinel, .sentinel], laidTests := true, laidLooks := .later }
def FnExactOpenKeyCardSaid : Prop := Claim7.holds Tryd.pinned (.plain (OpenSpec.ofChange fnExactOpenKeySpec)) fnExactOpenKeyCard

/-- THE TIED CARD OF 'laws.FnExactSignOnce'. -/
def fnExactSignOnceCard : Claim7 := { stood := { row := fnExactSignOnceRow, standIns := [], harness := (true, "9722f87580ad52bab2a8c4b2ad19b106f5aa07944a93a631ae6f06837324e22f"), looks := true }, kinds := [], alts := [], laidByText := true, laidKinds := [.sentinel, .sentinel, .sentinel, .sentinel], laidTests := true, laidLooks := .later }
def FnExactSignOnceCardSaid : Prop := Claim7.holds Tryd.pinned (.plain (OpenSpec.ofChange fnExactSignOnceSpec)) fnExactSignOnceCard

/-- THE TIED CARD OF 'laws.FnExactSign'. -/
def fnExactSignCard : Claim7 := { stood := { row := fnExactSignRow, standIns := [], harness := (true, "9722f87580ad52bab2a8c4b2ad19b106f5aa07944a93a631ae6f06837324e22f"), looks := true }, kinds := [], alts := [], laidByText := true, laidKinds := [.sentinel, .sentinel, .sentinel, .sentinel], laidTests := true, laidLooks := .later }
def FnExactSignCardSaid : Prop := Claim7.holds Tryd.pinned (.plain (OpenSpec.ofChange fnExactSignSpec)) fnExactSignCard

/-- THE TIED CARD OF 'laws.FnExactVerify'. -/
def fnExactVerifyCard : Claim7 := { stood := { row := fnExactVerifyRow, standIns := [], harness := (true, "9722f87580ad52bab2a8c4b2ad19b106f5aa07944a93a631ae6f06837324e22f"), looks := true }, kinds := [], alts := [], laidByText := true, laidKinds := [.sentinel, .sentinel, .sentinel, .sentinel], laidTests := true, laidLooks := .later }
def FnExactVerifyCardSaid : Prop := Claim7.holds Tryd.pinned (.plain (OpenSpec.ofChange fnExactVerifySpec)) fnExactVerifyCard

/-- THE SECOND FORM's CARD OF 'laws.FnExactOpenKey'. -/
def fnExactOpenKeyUptoCard : Claim7 := { stood := { row := fnExactOpenKeyUptoRow, standIns := [], harness := (true, "9722f87580ad52bab2a8c4b2ad19b106f5aa07944a93a631ae6f06837324e22f"), looks := true }, kinds := [], alts := [], laidByText := true, laidKinds := [.sentinel, .sentinel], laidTests := true, laidLooks := .later }
def FnExactOpenKeyUptoCardSaid : Prop := Claim7.holds Tryd.pinned (.plain (OpenSpec.upto fnExactOpenKeySpec)) fnExactOpenKeyUptoCard

/-- THE SECOND FORM's CARD OF 'laws.FnExactSignOnce'. -/
def fnExactSignOnceUptoCard : Claim7 := { stood := { row := fnExactSignOnceUptoRow, standIns := [], harness := (true, "9722f87580ad52bab2a8c4b2ad19b106f5aa07944a93a631ae6f06837324e22f"), looks := true }, kinds := [], alts := [], laidByText := true, laidKinds := [.sentinel, .sentinel, .sentinel, .sentinel], laidTests := true, laidLooks := .later }
def FnExactSignOnceUptoCardSaid : Prop := Claim7.holds Tryd.pinned (.plain (OpenSpec.upto fnExactSignOnceSpec)) fnExactSignOnceUptoCard

/-- THE SECOND FORM's CARD OF 'laws.FnExactSign'. -/
def fnExactSignUptoCard : Claim7 := { stood := { row := fnExactSignUptoRow, standIns := [], harness := (true, "9722f87580ad52bab2a8c4b2ad19b106f5aa07944a93a631ae6f06837324e22f"), looks := true }, kinds := [], alts := [], laidByText := true, laidKinds := [.sentinel, .sentinel, .sentinel, .sentinel], laidTests := true, laidLooks := .later }
def FnExactSignUptoCardSaid : Prop := Claim7.holds Tryd.pinned (.plain (OpenSpec.upto fnExactSignSpec)) fnExactSignUptoCard

/-- THE SECOND FORM's CARD OF 'laws.FnExactVerify'. -/
def fnExactVerifyUptoCard : Claim7 := { stood := { row := fnExactVerifyUptoRow, standIns := [], harness := (true, "9722f87580ad52bab2a8c4b2ad19b106f5aa07944a93a631ae6f06837324e22f"), looks := true }, kinds := [], alts := [], laidByText := true, laidKinds := [.sentinel, .sentinel, .sentinel, .sentinel], laidTests := true, laidLooks := .later }
def FnExactVerifyUptoCardSaid : Prop := Claim7.holds Tryd.pinned (.plain (OpenSpec.upto fnExactVerifySpec)) fnExactVerifyUptoCard
end Rows
end Go.Proofs.YthdenegheninaaiDoor

/-
  NARROWER THAN 'FOR EVERY INPUT', by the rows' own cells (each row's printed sentence says how): FnExactOpenKey: ifaces, laid · FnExactSignOnce: ifaces, laid · FnExactSign: ifaces, laid · FnExactVerify: ifaces, laid.
  DERIVED. THE GIVEN ROWS OF THIS SEAT. 4 by the template 'for every input the law returns true; each argument reads behind the call as it read before'; 0 by the template 'total and deterministic' (their statements: YthdenegheninaaiDoorTotals.lean).
  GIVEN WITH THE SEED: the statements are not yours to turn. If you find one false, say at which input.
  Laid BY PROGRAM, IN A SANDBOX (cutbox-rows.mjs): the forced cells as the released guide's own fill.sh prints them over the translation 3ebc8760d76adc99… (all of the seat's roots in one cut). By AI agents, Wed Nov 11 2026. No macro, syntax, notation, axiom, sorry.
-/
import Derived.Test.YthdenegheninaaiDoorChecked
import GoSem.Claim
import GoSem.ClaimJoined
import GoSem.ClaimMapViews
import Derived.JoinedTies
import Derived.KernelRfl
namespace Go.Proofs.YthdenegheninaaiDoor
/- THE CELL 'sum', in the pinned program and in every row, IS THE sha256 OF THE DUMP (.gsa) THAT YthdenegheninaaiDoorProg.lean LOADS. Nothing in Lean hashes anything: it is a label: what it is worth is what the hold of that sum in a sandbox is worth. -/
noncomputable def Tryd.pinned : Pinned := { name := "ythdenegheninaaidoor", sum := "3ebc8760d76adc992514da7e64de037ec0b2789e308e06a9012c609978a3beff", checked := Tryd.checked }
namespace Rows
def none {H : Type} : Left H := { results := [], args := [] }

/- WHAT THE LISTED PACKAGE-LEVEL VARIABLES READ AS WHEN THE CALL BEGINS. Each datum BY PROGRAM (the guide's laid-datum.mjs) off the statement by which the dump's own 'gosem.cut.vars' lays the variable. In a bare row this is a premise. The card (YthdenegheninaaiDoorCards.lean) ties it to the program's text. -/
def laid_loop_example_g00211_impl_errParams {H : Type} : DataW H := .iface "*errors.errorString" (.ptr (.agg [.lit (.string [116, 104, 101, 32, 112, 97, 114, 97, 109, 101, 116, 101, 114, 115, 32, 97, 114, 101, 32, 110, 111, 116, 32, 114, 105, 103, 104, 116])]))
def laid_loop_example_g00211_impl_errSecret {H : Type} : DataW H := .iface "*errors.errorString" (.ptr (.agg [.lit (.string [116, 104, 101, 32, 115, 101, 99, 114, 101, 116, 32, 105, 115, 32, 111, 117, 116, 32, 111, 102, 32, 105, 116, 115, 32, 98, 111, 117, 110, 100, 115])]))
def laid_loop_example_g00211_impl_errText {H : Type} : DataW H := .iface "*errors.errorString" (.ptr (.agg [.lit (.string [116, 104, 101, 32, 116, 101, 120, 116, 32, 105, 115, 32, 116, 111, 111, 32, 108, 111, 110, 103])]))
def laid_loop_example_g00211_impl_errDraw {H : Type} : DataW H := .iface "*errors.errorString" (.ptr (.agg [.lit (.string [116, 104, 101, 32, 100, 114, 97, 119, 32, 119, 105, 108, 108, 32, 110, 111, 116, 32, 100, 111])]))
def laid_loop_example_g00211_impl_errOpen {H : Type} : DataW H := .iface "*errors.errorString" (.ptr (.agg [.lit (.string [116, 104, 101, 32, 111, 112, 101, 110, 32, 107, 101, 121, 32, 105, 115, 32, 110, 111, 110, 101, 32, 111, 102, 32, 116, 104, 101, 115, 101, 32, 112, 97, 114, 97, 109, 101, 116, 101, 114, 115])]))
def laid_loop_example_g00211_impl_errMark {H : Type} : DataW H := .iface "*errors.errorString" (.ptr (.agg [.lit (.string [116, 104, 101, 32, 109, 97, 114, 107, 32, 105, 115, 32, 111, 117, 116, 32, 111, 102, 32, 105, 116, 115, 32, 98, 111, 117, 110, 100, 115])]))

/-- 'laws.FnExactOpenKey': WHATEVER THE INPUT: true; the input reads as it did. -/
def fnExactOpenKeySpec : ChangeSpec := { name := "fnExactOpenKey", vars := ["loop.example/g00211/impl.errParams", "loop.example/g00211/impl.errSecret"], fn := fun _ => fun
  | [d1, d2, g1, g2] => { results := [.lit (.bool true)], args := [d1, d2], vars := [g1, g2] }
  | _ => none }
def fnExactOpenKeyRow : OpenClaim := { program := "ythdenegheninaaidoor", sum := "3ebc8760d76adc992514da7e64de037ec0b2789e308e06a9012c609978a3beff", func := "loop.example/g00211/laws.FnExactOpenKey", spec := "fnExactOpenKey", named := ["loop.example/g00211/impl.errParams", "loop.example/g00211/impl.errSecret"], ifaces := true, apart := false, laid := [("loop.example/g00211/impl.errParams", laid_loop_example_g00211_impl_errParams), ("loop.example/g00211/impl.errSecret", laid_loop_example_g00211_impl_errSecret)] }
def FnExactOpenKeySaid : Prop := fnExactOpenKeyRow.holds Tryd.pinned (OpenSpec.ofChange fnExactOpenKeySpec)

/-- ITS FALSE NEIGHBOUR: 'it returns false'. Refute it at one input. -/
def fnExactOpenKeyWrong : ChangeSpec := { name := "fnExactOpenKey", vars := ["loop.example/g00211/impl.errParams", "loop.example/g00211/impl.errSecret"], fn := fun _ => fun
  | [d1, d2, g1, g2] => { results := [.lit (.bool false)], args := [d1, d2], vars := [g1, g2] }
  | _ => none }
def FnExactOpenKeyWrongFalsely : Prop := fnExactOpenKeyRow.holds Tryd.pinned (OpenSpec.ofChange fnExactOpenKeyWrong)

/-- 'laws.FnExactSignOnce': WHATEVER THE INPUT: true; the input reads as it did. -/
def fnExactSignOnceSpec : ChangeSpec := { name := "fnExactSignOnce", vars := ["loop.example/g00211/impl.errText", "loop.example/g00211/impl.errParams", "loop.example/g00211/impl.errSecret", "loop.example/g00211/impl.errDraw"], fn := fun _ => fun
  | [d1, d2, d3, d4, g1, g2, g3, g4] => { results := [.lit (.bool true)], args := [d1, d2, d3, d4], vars := [g1, g2, g3, g4] }
  | _ => none }
def fnExactSignOnceRow : OpenClaim := { program := "ythdenegheninaaidoor", sum := "3ebc8760d76adc992514da7e64de037ec0b2789e308e06a9012c609978a3beff", func := "loop.example/g00211/laws.FnExactSignOnce", spec := "fnExactSignOnce", named := ["loop.example/g00211/impl.errText", "loop.example/g00211/impl.errParams", "loop.example/g00211/impl.errSecret", "loop.example/g00211/impl.errDraw"], ifaces := true, apart := false, laid := [("loop.example/g00211/impl.errParams", laid_loop_example_g00211_impl_errParams), ("loop.example/g00211/impl.errSecret", laid_loop_example_g00211_impl_errSecret), ("loop.example/g00211/impl.errText", laid_loop_example_g00211_impl_errText), ("loop.example/g00211/impl.errDraw", laid_loop_example_g00211_impl_errDraw)] }
def FnExactSignOnceSaid : Prop := fnExactSignOnceRow.holds Tryd.pinned (OpenSpec.ofChange fnExactSignOnceSpec)

/-- ITS FALSE NEIGHBOUR: 'it returns false'. Refute it at one input. -/
def fnExactSignOnceWrong : ChangeSpec := { name := "fnExactSignOnce", vars := ["loop.example/g00211/impl.errText", "loop.example/g00211/impl.errParams", "loop.example/g00211/impl.errSecret", "loop.example/g00211/impl.errDraw"], fn := fun _ => fun
  | [d1, d2, d3, d4, g1, g2, g3, g4] => { results := [.lit (.bool false)], args := [d1, d2, d3, d4], vars := [g1, g2, g3, g4] }
  | _ => none }
def FnExactSignOnceWrongFalsely : Prop := fnExactSignOnceRow.holds Tryd.pinned (OpenSpec.ofChange fnExactSignOnceWrong)

/-- 'laws.FnExactSign': WHATEVER THE INPUT: true; the input reads as it did. -/
def fnExactSignSpec : ChangeSpec := { name := "fnExactSign", vars := ["loop.example/g00211/impl.errDraw", "loop.example/g00211/impl.errText", "loop.example/g00211/impl.errParams", "loop.example/g00211/impl.errSecret"], fn := fun _ => fun
  | [d1, d2, d3, d4, g1, g2, g3, g4] => { results := [.lit (.bool true)], args := [d1, d2, d3, d4], vars := [g1, g2, g3, g4] }
  | _ => none }
def fnExactSignRow : OpenClaim := { program := "ythdenegheninaaidoor", sum := "3ebc8760d76adc992514da7e64de037ec0b2789e308e06a9012c609978a3beff", func := "loop.example/g00211/laws.FnExactSign", spec := "fnExactSign", inPlace := ["internal/reflectlite.TypeOf"], unfollowed := true, recurses := true, named := ["loop.example/g00211/impl.errDraw", "loop.example/g00211/impl.errText", "loop.example/g00211/impl.errParams", "loop.example/g00211/impl.errSecret"], ifaces := true, apart := false, laid := [("loop.example/g00211/impl.errParams", laid_loop_example_g00211_impl_errParams), ("loop.example/g00211/impl.errSecret", laid_loop_example_g00211_impl_errSecret), ("loop.example/g00211/impl.errText", laid_loop_example_g00211_impl_errText), ("loop.example/g00211/impl.errDraw", laid_loop_example_g00211_impl_errDraw)] }
def FnExactSignSaid : Prop := fnExactSignRow.holds Tryd.pinned (OpenSpec.ofChange fnExactSignSpec)

/-- ITS FALSE NEIGHBOUR: 'it returns false'. Refute it at one input. -/
def fnExactSignWrong : ChangeSpec := { name := "fnExactSign", vars := ["loop.example/g00211/impl.errDraw", "loop.example/g00211/impl.errText", "loop.example/g00211/impl.errParams", "loop.example/g00211/impl.errSecret"], fn := fun _ => fun
  | [d1, d2, d3, d4, g1, g2, g3, g4] => { results := [.lit (.bool false)], args := [d1, d2, d3, d4], vars := [g1, g2, g3, g4] }
  | _ => none }
def FnExactSignWrongFalsely : Prop := fnExactSignRow.holds Tryd.pinned (OpenSpec.ofChange fnExactSignWrong)

/-- 'laws.FnExactVerify': WHATEVER THE INPUT: true; the input reads as it did. -/
def fnExactVerifySpec : ChangeSpec := { name := "fnExactVerify", vars := ["loop.example/g00211/impl.errParams", "loop.example/g00211/impl.errOpen", "loop.example/g00211/impl.errMark", "loop.example/g00211/impl.errText"], fn := fun _ => fun
  | [d1, d2, d3, d4, g1, g2, g3, g4] => { results := [.lit (.bool true)], args := [d1, d2, d3, d4], vars := [g1, g2, g3, g4] }
  | _ => none }
def fnExactVerifyRow : OpenClaim := { program := "ythdenegheninaaidoor", sum := "3ebc8760d76adc992514da7e64de037ec0b2789e308e06a9012c609978a3beff", func := "loop.example/g00211/laws.FnExactVerify", spec := "fnExactVerify", unfollowed := true, recurses := true, named := ["loop.example/g00211/impl.errParams", "loop.example/g00211/impl.errOpen", "loop.example/g00211/impl.errMark", "loop.example/g00211/impl.errText"], ifaces := true, apart := false, laid := [("loop.example/g00211/impl.errParams", laid_loop_example_g00211_impl_errParams), ("loop.example/g00211/impl.errOpen", laid_loop_example_g00211_impl_errOpen), ("loop.example/g00211/impl.errMark", laid_loop_example_g00211_impl_errMark), ("loop.example/g00211/impl.errText", laid_loop_example_g00211_impl_errText)] }
def FnExactVerifySaid : Prop := fnExactVerifyRow.holds Tryd.pinned (OpenSpec.ofChange fnExactVerifySpec)

/-- ITS FALSE NEIGHBOUR: 'it returns false'. Refute it at one input. -/
def fnExactVerifyWrong : ChangeSpec := { name := "fnExactVerify", vars := ["loop.example/g00211/impl.errParams", "loop.example/g00211/impl.errOpen", "loop.example/g00211/impl.errMark", "loop.example/g00211/impl.errText"], fn := fun _ => fun
  | [d1, d2, d3, d4, g1, g2, g3, g4] => { results := [.lit (.bool false)], args := [d1, d2, d3, d4], vars := [g1, g2, g3, g4] }
  | _ => none }
def FnExactVerifyWrongFalsely : Prop := fnExactVerifyRow.holds Tryd.pinned (OpenSpec.ofChange fnExactVerifyWrong)

/- THE SECOND FORM. 'bulk': how many values and letters a reading holds, each counted each time it is reached (what is shared counts as often as it is met; a slice's spare places count too). A statement '..UptoSaid' is the law's where the arguments, and the package variables that the reading takes, are together of bulk at most 1048576: NARROWER than '..Said'. Prove '..Said' where nothing that the law and all that it calls make is longer than what came in: it says more and counts as full. Else prove '..UptoSaid'. A law counts once. -/
mutual
def uptoBulk {H : Type} : DataW H → Nat
  | .lit (.string bytes) => bytes.length + 1
  | .lit _ => 1
  | .nil => 1
  | .ptr d => uptoBulk d + 1
  | .slice elems spare => uptoBulkAll elems + uptoBulkAll spare + 1
  | .agg parts => uptoBulkAll parts + 1
  | .iface _ d => uptoBulk d + 1
  | .map entries => uptoBulkEntries entries + 1
  | .held _ => 1
def uptoBulkAll {H : Type} : List (DataW H) → Nat
  | [] => 0
  | d :: r => uptoBulk d + uptoBulkAll r
def uptoBulkEntries {H : Type} : List (Lit × DataW H) → Nat
  | [] => 0
  | x :: r => uptoBulkEntry x + uptoBulkEntries r
def uptoBulkEntry {H : Type} : Lit × DataW H → Nat
  | (.string bytes, d) => bytes.length + uptoBulk d + 1
  | (_, d) => uptoBulk d + 1
 end
def uptoSmall : (H : Type) → List (DataW H) → Bool := fun _ ds => decide (uptoBulkAll ds ≤ 1048576)
def OpenSpec.upto (s : _root_.Go.ChangeSpec) : _root_.Go.OpenSpec := { _root_.Go.OpenSpec.ofChange s with cond := some uptoSmall }

/-- 'laws.FnExactOpenKey', WHERE WHAT IT READS IS OF BULK AT MOST 1048576: true; the input reads as it did. -/
def fnExactOpenKeyUptoRow : OpenClaim := { program := "ythdenegheninaaidoor", sum := "3ebc8760d76adc992514da7e64de037ec0b2789e308e06a9012c609978a3beff", func := "loop.example/g00211/laws.FnExactOpenKey", spec := "fnExactOpenKey", named := ["loop.example/g00211/impl.errParams", "loop.example/g00211/impl.errSecret"], ifaces := true, apart := false, laid := [("loop.example/g00211/impl.errParams", laid_loop_example_g00211_impl_errParams), ("loop.example/g00211/impl.errSecret", laid_loop_example_g00211_impl_errSecret)], narrowed := true }
def FnExactOpenKeyUptoSaid : Prop := fnExactOpenKeyUptoRow.holds Tryd.pinned (OpenSpec.upto fnExactOpenKeySpec)

/-- 'laws.FnExactSignOnce', WHERE WHAT IT READS IS OF BULK AT MOST 1048576: true; the input reads as it did. -/
def fnExactSignOnceUptoRow : OpenClaim := { program := "ythdenegheninaaidoor", sum := "3ebc8760d76adc992514da7e64de037ec0b2789e308e06a9012c609978a3beff", func := "loop.example/g00211/laws.FnExactSignOnce", spec := "fnExactSignOnce", named := ["loop.example/g00211/impl.errText", "loop.example/g00211/impl.errParams", "loop.example/g00211/impl.errSecret", "loop.example/g00211/impl.errDraw"], ifaces := true, apart := false, laid := [("loop.example/g00211/impl.errParams", laid_loop_example_g00211_impl_errParams), ("loop.example/g00211/impl.errSecret", laid_loop_example_g00211_impl_errSecret), ("loop.example/g00211/impl.errText", laid_loop_example_g00211_impl_errText), ("loop.example/g00211/impl.errDraw", laid_loop_example_g00211_impl_errDraw)], narrowed := true }
def FnExactSignOnceUptoSaid : Prop := fnExactSignOnceUptoRow.holds Tryd.pinned (OpenSpec.upto fnExactSignOnceSpec)

/-- 'laws.FnExactSign', WHERE WHAT IT READS IS OF BULK AT MOST 1048576: true; the input reads as it did. -/
def fnExactSignUptoRow : OpenClaim := { program := "ythdenegheninaaidoor", sum := "3ebc8760d76adc992514da7e64de037ec0b2789e308e06a9012c609978a3beff", func := "loop.example/g00211/laws.FnExactSign", spec := "fnExactSign", inPlace := ["internal/reflectlite.TypeOf"], unfollowed := true, recurses := true, named := ["loop.example/g00211/impl.errDraw", "loop.example/g00211/impl.errText", "loop.example/g00211/impl.errParams", "loop.example/g00211/impl.errSecret"], ifaces := true, apart := false, laid := [("loop.example/g00211/impl.errParams", laid_loop_example_g00211_impl_errParams), ("loop.example/g00211/impl.errSecret", laid_loop_example_g00211_impl_errSecret), ("loop.example/g00211/impl.errText", laid_loop_example_g00211_impl_errText), ("loop.example/g00211/impl.errDraw", laid_loop_example_g00211_impl_errDraw)], narrowed := true }
def FnExactSignUptoSaid : Prop := fnExactSignUptoRow.holds Tryd.pinned (OpenSpec.upto fnExactSignSpec)

/-- 'laws.FnExactVerify', WHERE WHAT IT READS IS OF BULK AT MOST 1048576: true; the input reads as it did. -/
def fnExactVerifyUptoRow : OpenClaim := { program := "ythdenegheninaaidoor", sum := "3ebc8760d76adc992514da7e64de037ec0b2789e308e06a9012c609978a3beff", func := "loop.example/g00211/laws.FnExactVerify", spec := "fnExactVerify", unfollowed := true, recurses := true, named := ["loop.example/g00211/impl.errParams", "loop.example/g00211/impl.errOpen", "loop.example/g00211/impl.errMark", "loop.example/g00211/impl.errText"], ifaces := true, apart := false, laid := [("loop.example/g00211/impl.errParams", laid_loop_example_g00211_impl_errParams), ("loop.example/g00211/impl.errOpen", laid_loop_example_g00211_impl_errOpen), ("loop.example/g00211/impl.errMark", laid_loop_example_g00211_impl_errMark), ("loop.example/g00211/impl.errText", laid_loop_example_g00211_impl_errText)], narrowed := true }
def FnExactVerifyUptoSaid : Prop := fnExactVerifyUptoRow.holds Tryd.pinned (OpenSpec.upto fnExactVerifySpec)

end Rows
end Go.Proofs.YthdenegheninaaiDoor

/-
  NARROWER THAN 'FOR EVERY INPUT', by the rows' own cells (each row's printed sentence says how): FnVerify: ifaces, laid · FnPacked: laid · FnUnpack: laid · FnRanges: laid.
  DERIVED. THE GIVEN ROWS OF THIS SEAT. 4 by the template 'for every input the law returns true; each argument reads behind the call as it read before'; 0 by the template 'total and deterministic' (their statements: YtaocindfopipnabDoorTotals.lean).
  GIVEN WITH THE SEED: the statements are not yours to turn. If you find one false, say at which input.
  Laid BY PROGRAM, IN A SANDBOX (cutbox-rows.mjs): the forced cells as the released guide's own fill.sh prints them over the translation d029888b4b34d964… (all of the seat's roots in one cut). By AI agents, Wed Nov 11 2026. No macro, syntax, notation, axiom, sorry.
-/
import Derived.Test.YtaocindfopipnabDoorChecked
import GoSem.Claim
import GoSem.ClaimJoined
import GoSem.ClaimMapViews
import Derived.JoinedTies
import Derived.KernelRfl
namespace Go.Proofs.YtaocindfopipnabDoor
/- THE CELL 'sum', in the pinned program and in every row, IS THE sha256 OF THE DUMP (.gsa) THAT YtaocindfopipnabDoorProg.lean LOADS. Nothing in Lean hashes anything: it is a label: what it is worth is what the hold of that sum in a sandbox is worth. -/
noncomputable def Tryd.pinned : Pinned := { name := "ytaocindfopipnabdoor", sum := "d029888b4b34d96465b506130e525ff5b32a3f79ca2ffbefe991a3512ff8ffa3", checked := Tryd.checked }
namespace Rows
def none {H : Type} : Left H := { results := [], args := [] }

/- WHAT THE LISTED PACKAGE-LEVEL VARIABLES READ AS WHEN THE CALL BEGINS. Each datum BY PROGRAM (the guide's laid-datum.mjs) off the statement by which the dump's own 'gosem.cut.vars' lays the variable. In a bare row this is a premise. The card (YtaocindfopipnabDoorCards.lean) ties it to the program's text. -/
def laid_loop_example_g00211_impl_errParams {H : Type} : DataW H := .iface "*errors.errorString" (.ptr (.agg [.lit (.string [116, 104, 101, 32, 112, 97, 114, 97, 109, 101, 116, 101, 114, 115, 32, 97, 114, 101, 32, 110, 111, 116, 32, 114, 105, 103, 104, 116])]))
def laid_loop_example_g00211_impl_errOpen {H : Type} : DataW H := .iface "*errors.errorString" (.ptr (.agg [.lit (.string [116, 104, 101, 32, 111, 112, 101, 110, 32, 107, 101, 121, 32, 105, 115, 32, 110, 111, 110, 101, 32, 111, 102, 32, 116, 104, 101, 115, 101, 32, 112, 97, 114, 97, 109, 101, 116, 101, 114, 115])]))
def laid_loop_example_g00211_impl_errMark {H : Type} : DataW H := .iface "*errors.errorString" (.ptr (.agg [.lit (.string [116, 104, 101, 32, 109, 97, 114, 107, 32, 105, 115, 32, 111, 117, 116, 32, 111, 102, 32, 105, 116, 115, 32, 98, 111, 117, 110, 100, 115])]))
def laid_loop_example_g00211_impl_errText {H : Type} : DataW H := .iface "*errors.errorString" (.ptr (.agg [.lit (.string [116, 104, 101, 32, 116, 101, 120, 116, 32, 105, 115, 32, 116, 111, 111, 32, 108, 111, 110, 103])]))
def laid_loop_example_g00211_impl_fixedRuns {H : Type} : DataW H := .agg [.agg [.lit (.int .i64 256), .lit (.int .i64 279), .lit (.int .i64 7), .lit (.int .i64 0)], .agg [.lit (.int .i64 0), .lit (.int .i64 143), .lit (.int .i64 8), .lit (.int .i64 48)], .agg [.lit (.int .i64 280), .lit (.int .i64 287), .lit (.int .i64 8), .lit (.int .i64 192)], .agg [.lit (.int .i64 144), .lit (.int .i64 255), .lit (.int .i64 9), .lit (.int .i64 400)]]

/-- 'laws.FnVerify': WHATEVER THE INPUT: true; the input reads as it did. -/
def fnVerifySpec : ChangeSpec := { name := "fnVerify", vars := ["loop.example/g00211/impl.errParams", "loop.example/g00211/impl.errOpen", "loop.example/g00211/impl.errMark", "loop.example/g00211/impl.errText"], fn := fun _ => fun
  | [d, g1, g2, g3, g4] => { results := [.lit (.bool true)], args := [d], vars := [g1, g2, g3, g4] }
  | _ => none }
def fnVerifyRow : OpenClaim := { program := "ytaocindfopipnabdoor", sum := "d029888b4b34d96465b506130e525ff5b32a3f79ca2ffbefe991a3512ff8ffa3", func := "loop.example/g00211/laws.FnVerify", spec := "fnVerify", unfollowed := true, recurses := true, named := ["loop.example/g00211/impl.errParams", "loop.example/g00211/impl.errOpen", "loop.example/g00211/impl.errMark", "loop.example/g00211/impl.errText"], ifaces := true, plainKeys := false, apart := false, laid := [("loop.example/g00211/impl.errParams", laid_loop_example_g00211_impl_errParams), ("loop.example/g00211/impl.errOpen", laid_loop_example_g00211_impl_errOpen), ("loop.example/g00211/impl.errMark", laid_loop_example_g00211_impl_errMark), ("loop.example/g00211/impl.errText", laid_loop_example_g00211_impl_errText)] }
def FnVerifySaid : Prop := fnVerifyRow.holds Tryd.pinned (OpenSpec.ofChange fnVerifySpec)

/-- ITS FALSE NEIGHBOUR: 'it returns false'. Refute it at one input. -/
def fnVerifyWrong : ChangeSpec := { name := "fnVerify", vars := ["loop.example/g00211/impl.errParams", "loop.example/g00211/impl.errOpen", "loop.example/g00211/impl.errMark", "loop.example/g00211/impl.errText"], fn := fun _ => fun
  | [d, g1, g2, g3, g4] => { results := [.lit (.bool false)], args := [d], vars := [g1, g2, g3, g4] }
  | _ => none }
def FnVerifyWrongFalsely : Prop := fnVerifyRow.holds Tryd.pinned (OpenSpec.ofChange fnVerifyWrong)

/-- 'laws.FnPacked': WHATEVER THE INPUT: true; the input reads as it did. -/
def fnPackedSpec : ChangeSpec := { name := "fnPacked", vars := ["loop.example/g00211/impl.fixedRuns"], fn := fun _ => fun
  | [d, g1] => { results := [.lit (.bool true)], args := [d], vars := [g1] }
  | _ => none }
def fnPackedRow : OpenClaim := { program := "ytaocindfopipnabdoor", sum := "d029888b4b34d96465b506130e525ff5b32a3f79ca2ffbefe991a3512ff8ffa3", func := "loop.example/g00211/laws.FnPacked", spec := "fnPacked", unfollowed := true, recurses := true, named := ["loop.example/g00211/impl.fixedRuns"], plainKeys := false, apart := false, laid := [("loop.example/g00211/impl.fixedRuns", laid_loop_example_g00211_impl_fixedRuns)] }
def FnPackedSaid : Prop := fnPackedRow.holds Tryd.pinned (OpenSpec.ofChange fnPackedSpec)

/-- ITS FALSE NEIGHBOUR: 'it returns false'. Refute it at one input. -/
def fnPackedWrong : ChangeSpec := { name := "fnPacked", vars := ["loop.example/g00211/impl.fixedRuns"], fn := fun _ => fun
  | [d, g1] => { results := [.lit (.bool false)], args := [d], vars := [g1] }
  | _ => none }
def FnPackedWrongFalsely : Prop := fnPackedRow.holds Tryd.pinned (OpenSpec.ofChange fnPackedWrong)

/-- 'laws.FnUnpack': WHATEVER THE INPUT: true; the input reads as it did. -/
def fnUnpackSpec : ChangeSpec := { name := "fnUnpack", vars := ["loop.example/g00211/impl.fixedRuns"], fn := fun _ => fun
  | [d, g1] => { results := [.lit (.bool true)], args := [d], vars := [g1] }
  | _ => none }
def fnUnpackRow : OpenClaim := { program := "ytaocindfopipnabdoor", sum := "d029888b4b34d96465b506130e525ff5b32a3f79ca2ffbefe991a3512ff8ffa3", func := "loop.example/g00211/laws.FnUnpack", spec := "fnUnpack", unfollowed := true, recurses := true, named := ["loop.example/g00211/impl.fixedRuns"], plainKeys := false, apart := false, laid := [("loop.example/g00211/impl.fixedRuns", laid_loop_example_g00211_impl_fixedRuns)] }
def FnUnpackSaid : Prop := fnUnpackRow.holds Tryd.pinned (OpenSpec.ofChange fnUnpackSpec)

/-- ITS FALSE NEIGHBOUR: 'it returns false'. Refute it at one input. -/
def fnUnpackWrong : ChangeSpec := { name := "fnUnpack", vars := ["loop.example/g00211/impl.fixedRuns"], fn := fun _ => fun
  | [d, g1] => { results := [.lit (.bool false)], args := [d], vars := [g1] }
  | _ => none }
def FnUnpackWrongFalsely : Prop := fnUnpackRow.holds Tryd.pinned (OpenSpec.ofChange fnUnpackWrong)

/-- 'laws.FnRanges': WHATEVER THE INPUT: true; the input reads as it did. -/
def fnRangesSpec : ChangeSpec := { name := "fnRanges", vars := ["loop.example/g00211/impl.fixedRuns"], fn := fun _ => fun
  | [d, g1] => { results := [.lit (.bool true)], args := [d], vars := [g1] }
  | _ => none }
def fnRangesRow : OpenClaim := { program := "ytaocindfopipnabdoor", sum := "d029888b4b34d96465b506130e525ff5b32a3f79ca2ffbefe991a3512ff8ffa3", func := "loop.example/g00211/laws.FnRanges", spec := "fnRanges", named := ["loop.example/g00211/impl.fixedRuns"], plainKeys := false, apart := false, laid := [("loop.example/g00211/impl.fixedRuns", laid_loop_example_g00211_impl_fixedRuns)] }
def FnRangesSaid : Prop := fnRangesRow.holds Tryd.pinned (OpenSpec.ofChange fnRangesSpec)

/-- ITS FALSE NEIGHBOUR: 'it returns false'. Refute it at one input. -/
def fnRangesWrong : ChangeSpec := { name := "fnRanges", vars := ["loop.example/g00211/impl.fixedRuns"], fn := fun _ => fun
  | [d, g1] => { results := [.lit (.bool false)], args := [d], vars := [g1] }
  | _ => none }
def FnRangesWrongFalsely : Prop := fnRangesRow.holds Tryd.pinned (OpenSpec.ofChange fnRangesWrong)

/- THE SECOND FORM. 'bulk': how many values and letters a reading holds, each counted each time it is reached (what is shared counts as often as it is met; a slice's spare places count too). A statement '..UptoSaid' is the law's where the arguments, and the package variables that the reading takes, are together of bulk at most 1048576: NARROWER than '..Said'. Prove '..Said' where nothing that the law and all that it calls make is longer than what came in: it says more and counts as full. Else prove '..UptoSaid'. A law counts once. -/
mutual
def uptoBulk {H : Type} : DataW H → Nat
  | .lit (.string bytes) => bytes.length + 1
  | .lit _ => 1
  | .nil => 1
  | .ptr d => uptoBulk d + 1
  | .slice elems spare => uptoBulkAll elems + uptoBulkAll spare + 1
  | .agg parts => uptoBulkAll parts + 1
  | .iface _ d => uptoBulk d + 1
  | .map entries => uptoBulkEntries entries + 1
  | .held _ => 1
def uptoBulkAll {H : Type} : List (DataW H) → Nat
  | [] => 0
  | d :: r => uptoBulk d + uptoBulkAll r
def uptoBulkEntries {H : Type} : List (Lit × DataW H) → Nat
  | [] => 0
  | x :: r => uptoBulkEntry x + uptoBulkEntries r
def uptoBulkEntry {H : Type} : Lit × DataW H → Nat
  | (.string bytes, d) => bytes.length + uptoBulk d + 1
  | (_, d) => uptoBulk d + 1
 end
def uptoSmall : (H : Type) → List (DataW H) → Bool := fun _ ds => decide (uptoBulkAll ds ≤ 1048576)
def OpenSpec.upto (s : _root_.Go.ChangeSpec) : _root_.Go.OpenSpec := { _root_.Go.OpenSpec.ofChange s with cond := some uptoSmall }

/-- 'laws.FnVerify', WHERE WHAT IT READS IS OF BULK AT MOST 1048576: true; the input reads as it did. -/
def fnVerifyUptoRow : OpenClaim := { program := "ytaocindfopipnabdoor", sum := "d029888b4b34d96465b506130e525ff5b32a3f79ca2ffbefe991a3512ff8ffa3", func := "loop.example/g00211/laws.FnVerify", spec := "fnVerify", unfollowed := true, recurses := true, named := ["loop.example/g00211/impl.errParams", "loop.example/g00211/impl.errOpen", "loop.example/g00211/impl.errMark", "loop.example/g00211/impl.errText"], ifaces := true, plainKeys := false, apart := false, laid := [("loop.example/g00211/impl.errParams", laid_loop_example_g00211_impl_errParams), ("loop.example/g00211/impl.errOpen", laid_loop_example_g00211_impl_errOpen), ("loop.example/g00211/impl.errMark", laid_loop_example_g00211_impl_errMark), ("loop.example/g00211/impl.errText", laid_loop_example_g00211_impl_errText)], narrowed := true }
def FnVerifyUptoSaid : Prop := fnVerifyUptoRow.holds Tryd.pinned (OpenSpec.upto fnVerifySpec)

/-- 'laws.FnPacked', WHERE WHAT IT READS IS OF BULK AT MOST 1048576: true; the input reads as it did. -/
def fnPackedUptoRow : OpenClaim := { program := "ytaocindfopipnabdoor", sum := "d029888b4b34d96465b506130e525ff5b32a3f79ca2ffbefe991a3512ff8ffa3", func := "loop.example/g00211/laws.FnPacked", spec := "fnPacked", unfollowed := true, recurses := true, named := ["loop.example/g00211/impl.fixedRuns"], plainKeys := false, apart := false, laid := [("loop.example/g00211/impl.fixedRuns", laid_loop_example_g00211_impl_fixedRuns)], narrowed := true }
def FnPackedUptoSaid : Prop := fnPackedUptoRow.holds Tryd.pinned (OpenSpec.upto fnPackedSpec)

/-- 'laws.FnUnpack', WHERE WHAT IT READS IS OF BULK AT MOST 1048576: true; the input reads as it did. -/
def fnUnpackUptoRow : OpenClaim := { program := "ytaocindfopipnabdoor", sum := "d029888b4b34d96465b506130e525ff5b32a3f79ca2ffbefe991a3512ff8ffa3", func := "loop.example/g00211/laws.FnUnpack", spec := "fnUnpack", unfollowed := true, recurses := true, named := ["loop.example/g00211/impl.fixedRuns"], plainKeys := false, apart := false, laid := [("loop.example/g00211/impl.fixedRuns", laid_loop_example_g00211_impl_fixedRuns)], narrowed := true }
def FnUnpackUptoSaid : Prop := fnUnpackUptoRow.holds Tryd.pinned (OpenSpec.upto fnUnpackSpec)

/-- 'laws.FnRanges', WHERE WHAT IT READS IS OF BULK AT MOST 1048576: true; the input reads as it did. -/
def fnRangesUptoRow : OpenClaim := { program := "ytaocindfopipnabdoor", sum := "d029888b4b34d96465b506130e525ff5b32a3f79ca2ffbefe991a3512ff8ffa3", func := "loop.example/g00211/laws.FnRanges", spec := "fnRanges", named := ["loop.example/g00211/impl.fixedRuns"], plainKeys := false, apart := false, laid := [("loop.example/g00211/impl.fixedRuns", laid_loop_example_g00211_impl_fixedRuns)], narrowed := true }
def FnRangesUptoSaid : Prop := fnRangesUptoRow.holds Tryd.pinned (OpenSpec.upto fnRangesSpec)

end Rows
end Go.Proofs.YtaocindfopipnabDoor

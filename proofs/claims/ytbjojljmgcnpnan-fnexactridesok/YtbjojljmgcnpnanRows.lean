/-
  No cell of these rows narrows 'for every input' (looked for: loops, veiled, ifaces, maps, wideKeys, modest, calm, conditions, laid).
  DERIVED. THE GIVEN ROWS OF THIS SEAT. 6 by the template 'for every input the law returns true; each argument reads behind the call as it read before'; 0 by the template 'total and deterministic' (their statements: YtbjojljmgcnpnanTotals.lean).
  GIVEN WITH THE SEED: the statements are not yours to turn. If you find one false, say at which input.
  Laid BY PROGRAM, IN A SANDBOX (cutbox-rows.mjs): the forced cells as the released guide's own fill.sh prints them over the translation d159ad0edf03ce4e… (all of the seat's roots in one cut). By AI agents, Wed Nov 11 2026. No macro, syntax, notation, axiom, sorry.
-/
import Derived.Test.YtbjojljmgcnpnanChecked
import GoSem.Claim
import GoSem.ClaimJoined
import GoSem.ClaimMapViews
import Derived.JoinedTies
import Derived.KernelRfl
namespace Go.Proofs.Ytbjojljmgcnpnan
/- THE CELL 'sum', in the pinned program and in every row, IS THE sha256 OF THE DUMP (.gsa) THAT YtbjojljmgcnpnanProg.lean LOADS. Nothing in Lean hashes anything: it is a label: what it is worth is what the hold of that sum in a sandbox is worth. -/
noncomputable def Try.pinned : Pinned := { name := "ytbjojljmgcnpnan", sum := "d159ad0edf03ce4eb05bf05edc324871c5f3b9e9b032a66c69c1833c35be3563", checked := Try.checked }
namespace Rows
def none {H : Type} : Left H := { results := [], args := [] }

/-- 'laws.FnExactRuns': WHATEVER THE INPUT: true; the input reads as it did. -/
def fnExactRunsSpec : ChangeSpec := { name := "fnExactRuns", fn := fun _ => fun
  | [d1, d2] => { results := [.lit (.bool true)], args := [d1, d2] }
  | _ => none }
def fnExactRunsRow : OpenClaim := { program := "ytbjojljmgcnpnan", sum := "d159ad0edf03ce4eb05bf05edc324871c5f3b9e9b032a66c69c1833c35be3563", func := "loop.example/g00211/laws.FnExactRuns", spec := "fnExactRuns", unfollowed := true, recurses := true, apart := false }
def FnExactRunsSaid : Prop := fnExactRunsRow.holds Try.pinned (OpenSpec.ofChange fnExactRunsSpec)

/-- ITS FALSE NEIGHBOUR: 'it returns false'. Refute it at one input. -/
def fnExactRunsWrong : ChangeSpec := { name := "fnExactRuns", fn := fun _ => fun
  | [d1, d2] => { results := [.lit (.bool false)], args := [d1, d2] }
  | _ => none }
def FnExactRunsWrongFalsely : Prop := fnExactRunsRow.holds Try.pinned (OpenSpec.ofChange fnExactRunsWrong)

/-- 'laws.FnExactCut': WHATEVER THE INPUT: true; the input reads as it did. -/
def fnExactCutSpec : ChangeSpec := { name := "fnExactCut", fn := fun _ => fun
  | [d1, d2, d3] => { results := [.lit (.bool true)], args := [d1, d2, d3] }
  | _ => none }
def fnExactCutRow : OpenClaim := { program := "ytbjojljmgcnpnan", sum := "d159ad0edf03ce4eb05bf05edc324871c5f3b9e9b032a66c69c1833c35be3563", func := "loop.example/g00211/laws.FnExactCut", spec := "fnExactCut", unfollowed := true, recurses := true, apart := false }
def FnExactCutSaid : Prop := fnExactCutRow.holds Try.pinned (OpenSpec.ofChange fnExactCutSpec)

/-- ITS FALSE NEIGHBOUR: 'it returns false'. Refute it at one input. -/
def fnExactCutWrong : ChangeSpec := { name := "fnExactCut", fn := fun _ => fun
  | [d1, d2, d3] => { results := [.lit (.bool false)], args := [d1, d2, d3] }
  | _ => none }
def FnExactCutWrongFalsely : Prop := fnExactCutRow.holds Try.pinned (OpenSpec.ofChange fnExactCutWrong)

/-- 'laws.FnExactTakes': WHATEVER THE INPUT: true; the input reads as it did. -/
def fnExactTakesSpec : ChangeSpec := { name := "fnExactTakes", fn := fun _ => fun
  | [d1, d2, d3] => { results := [.lit (.bool true)], args := [d1, d2, d3] }
  | _ => none }
def fnExactTakesRow : OpenClaim := { program := "ytbjojljmgcnpnan", sum := "d159ad0edf03ce4eb05bf05edc324871c5f3b9e9b032a66c69c1833c35be3563", func := "loop.example/g00211/laws.FnExactTakes", spec := "fnExactTakes", unfollowed := true, recurses := true, apart := false }
def FnExactTakesSaid : Prop := fnExactTakesRow.holds Try.pinned (OpenSpec.ofChange fnExactTakesSpec)

/-- ITS FALSE NEIGHBOUR: 'it returns false'. Refute it at one input. -/
def fnExactTakesWrong : ChangeSpec := { name := "fnExactTakes", fn := fun _ => fun
  | [d1, d2, d3] => { results := [.lit (.bool false)], args := [d1, d2, d3] }
  | _ => none }
def FnExactTakesWrongFalsely : Prop := fnExactTakesRow.holds Try.pinned (OpenSpec.ofChange fnExactTakesWrong)

/-- 'laws.FnExactLinesOk': WHATEVER THE INPUT: true; the input reads as it did. -/
def fnExactLinesOkSpec : ChangeSpec := { name := "fnExactLinesOk", fn := fun _ => fun
  | [d] => { results := [.lit (.bool true)], args := [d] }
  | _ => none }
def fnExactLinesOkRow : OpenClaim := { program := "ytbjojljmgcnpnan", sum := "d159ad0edf03ce4eb05bf05edc324871c5f3b9e9b032a66c69c1833c35be3563", func := "loop.example/g00211/laws.FnExactLinesOk", spec := "fnExactLinesOk", unfollowed := true, recurses := true, apart := false }
def FnExactLinesOkSaid : Prop := fnExactLinesOkRow.holds Try.pinned (OpenSpec.ofChange fnExactLinesOkSpec)

/-- ITS FALSE NEIGHBOUR: 'it returns false'. Refute it at one input. -/
def fnExactLinesOkWrong : ChangeSpec := { name := "fnExactLinesOk", fn := fun _ => fun
  | [d] => { results := [.lit (.bool false)], args := [d] }
  | _ => none }
def FnExactLinesOkWrongFalsely : Prop := fnExactLinesOkRow.holds Try.pinned (OpenSpec.ofChange fnExactLinesOkWrong)

/-- 'laws.FnExactFindTrain': WHATEVER THE INPUT: true; the input reads as it did. -/
def fnExactFindTrainSpec : ChangeSpec := { name := "fnExactFindTrain", fn := fun _ => fun
  | [d1, d2] => { results := [.lit (.bool true)], args := [d1, d2] }
  | _ => none }
def fnExactFindTrainRow : OpenClaim := { program := "ytbjojljmgcnpnan", sum := "d159ad0edf03ce4eb05bf05edc324871c5f3b9e9b032a66c69c1833c35be3563", func := "loop.example/g00211/laws.FnExactFindTrain", spec := "fnExactFindTrain", apart := false }
def FnExactFindTrainSaid : Prop := fnExactFindTrainRow.holds Try.pinned (OpenSpec.ofChange fnExactFindTrainSpec)

/-- ITS FALSE NEIGHBOUR: 'it returns false'. Refute it at one input. -/
def fnExactFindTrainWrong : ChangeSpec := { name := "fnExactFindTrain", fn := fun _ => fun
  | [d1, d2] => { results := [.lit (.bool false)], args := [d1, d2] }
  | _ => none }
def FnExactFindTrainWrongFalsely : Prop := fnExactFindTrainRow.holds Try.pinned (OpenSpec.ofChange fnExactFindTrainWrong)

/-- 'laws.FnExactRidesOk': WHATEVER THE INPUT: true; the input reads as it did. -/
def fnExactRidesOkSpec : ChangeSpec := { name := "fnExactRidesOk", fn := fun _ => fun
  | [d1, d2] => { results := [.lit (.bool true)], args := [d1, d2] }
  | _ => none }
def fnExactRidesOkRow : OpenClaim := { program := "ytbjojljmgcnpnan", sum := "d159ad0edf03ce4eb05bf05edc324871c5f3b9e9b032a66c69c1833c35be3563", func := "loop.example/g00211/laws.FnExactRidesOk", spec := "fnExactRidesOk", unfollowed := true, recurses := true, apart := false }
def FnExactRidesOkSaid : Prop := fnExactRidesOkRow.holds Try.pinned (OpenSpec.ofChange fnExactRidesOkSpec)

/-- ITS FALSE NEIGHBOUR: 'it returns false'. Refute it at one input. -/
def fnExactRidesOkWrong : ChangeSpec := { name := "fnExactRidesOk", fn := fun _ => fun
  | [d1, d2] => { results := [.lit (.bool false)], args := [d1, d2] }
  | _ => none }
def FnExactRidesOkWrongFalsely : Prop := fnExactRidesOkRow.holds Try.pinned (OpenSpec.ofChange fnExactRidesOkWrong)

/- THE SECOND FORM. 'bulk': how many values and letters a reading holds, each counted each time it is reached (what is shared counts as often as it is met; a slice's spare places count too). A statement '..UptoSaid' is the law's where the arguments, and the package variables that the reading takes, are together of bulk at most 1048576: NARROWER than '..Said'. Prove '..Said' where nothing that the law and all that it calls make is longer than what came in: it says more and counts as full. Else prove '..UptoSaid'. A law counts once. -/
mutual
def uptoBulk {H : Type} : DataW H → Nat
  | .lit (.string bytes) => bytes.length + 1
  | .lit _ => 1
  | .nil => 1
  | .ptr d => uptoBulk d + 1
  | .slice elems spare => uptoBulkAll elems + uptoBulkAll spare + 1
  | .agg parts => uptoBulkAll parts + 1
  | .iface _ d => uptoBulk d + 1
  | .map entries => uptoBulkEntries entries + 1
  | .held _ => 1
def uptoBulkAll {H : Type} : List (DataW H) → Nat
  | [] => 0
  | d :: r => uptoBulk d + uptoBulkAll r
def uptoBulkEntries {H : Type} : List (Lit × DataW H) → Nat
  | [] => 0
  | x :: r => uptoBulkEntry x + uptoBulkEntries r
def uptoBulkEntry {H : Type} : Lit × DataW H → Nat
  | (.string bytes, d) => bytes.length + uptoBulk d + 1
  | (_, d) => uptoBulk d + 1
 end
def uptoSmall : (H : Type) → List (DataW H) → Bool := fun _ ds => decide (uptoBulkAll ds ≤ 1048576)
def OpenSpec.upto (s : _root_.Go.ChangeSpec) : _root_.Go.OpenSpec := { _root_.Go.OpenSpec.ofChange s with cond := some uptoSmall }

/-- 'laws.FnExactRuns', WHERE WHAT IT READS IS OF BULK AT MOST 1048576: true; the input reads as it did. -/
def fnExactRunsUptoRow : OpenClaim := { program := "ytbjojljmgcnpnan", sum := "d159ad0edf03ce4eb05bf05edc324871c5f3b9e9b032a66c69c1833c35be3563", func := "loop.example/g00211/laws.FnExactRuns", spec := "fnExactRuns", unfollowed := true, recurses := true, apart := false, narrowed := true }
def FnExactRunsUptoSaid : Prop := fnExactRunsUptoRow.holds Try.pinned (OpenSpec.upto fnExactRunsSpec)

/-- 'laws.FnExactCut', WHERE WHAT IT READS IS OF BULK AT MOST 1048576: true; the input reads as it did. -/
def fnExactCutUptoRow : OpenClaim := { program := "ytbjojljmgcnpnan", sum := "d159ad0edf03ce4eb05bf05edc324871c5f3b9e9b032a66c69c1833c35be3563", func := "loop.example/g00211/laws.FnExactCut", spec := "fnExactCut", unfollowed := true, recurses := true, apart := false, narrowed := true }
def FnExactCutUptoSaid : Prop := fnExactCutUptoRow.holds Try.pinned (OpenSpec.upto fnExactCutSpec)

/-- 'laws.FnExactTakes', WHERE WHAT IT READS IS OF BULK AT MOST 1048576: true; the input reads as it did. -/
def fnExactTakesUptoRow : OpenClaim := { program := "ytbjojljmgcnpnan", sum := "d159ad0edf03ce4eb05bf05edc324871c5f3b9e9b032a66c69c1833c35be3563", func := "loop.example/g00211/laws.FnExactTakes", spec := "fnExactTakes", unfollowed := true, recurses := true, apart := false, narrowed := true }
def FnExactTakesUptoSaid : Prop := fnExactTakesUptoRow.holds Try.pinned (OpenSpec.upto fnExactTakesSpec)

/-- 'laws.FnExactLinesOk', WHERE WHAT IT READS IS OF BULK AT MOST 1048576: true; the input reads as it did. -/
def fnExactLinesOkUptoRow : OpenClaim := { program := "ytbjojljmgcnpnan", sum := "d159ad0edf03ce4eb05bf05edc324871c5f3b9e9b032a66c69c1833c35be3563", func := "loop.example/g00211/laws.FnExactLinesOk", spec := "fnExactLinesOk", unfollowed := true, recurses := true, apart := false, narrowed := true }
def FnExactLinesOkUptoSaid : Prop := fnExactLinesOkUptoRow.holds Try.pinned (OpenSpec.upto fnExactLinesOkSpec)

/-- 'laws.FnExactFindTrain', WHERE WHAT IT READS IS OF BULK AT MOST 1048576: true; the input reads as it did. -/
def fnExactFindTrainUptoRow : OpenClaim := { program := "ytbjojljmgcnpnan", sum := "d159ad0edf03ce4eb05bf05edc324871c5f3b9e9b032a66c69c1833c35be3563", func := "loop.example/g00211/laws.FnExactFindTrain", spec := "fnExactFindTrain", apart := false, narrowed := true }
def FnExactFindTrainUptoSaid : Prop := fnExactFindTrainUptoRow.holds Try.pinned (OpenSpec.upto fnExactFindTrainSpec)

/-- 'laws.FnExactRidesOk', WHERE WHAT IT READS IS OF BULK AT MOST 1048576: true; the input reads as it did. -/
def fnExactRidesOkUptoRow : OpenClaim := { program := "ytbjojljmgcnpnan", sum := "d159ad0edf03ce4eb05bf05edc324871c5f3b9e9b032a66c69c1833c35be3563", func := "loop.example/g00211/laws.FnExactRidesOk", spec := "fnExactRidesOk", unfollowed := true, recurses := true, apart := false, narrowed := true }
def FnExactRidesOkUptoSaid : Prop := fnExactRidesOkUptoRow.holds Try.pinned (OpenSpec.upto fnExactRidesOkSpec)

end Rows
end Go.Proofs.Ytbjojljmgcnpnan

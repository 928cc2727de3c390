/-
  No cell of these rows narrows 'for every input' (looked for: loops, veiled, ifaces, maps, wideKeys, modest, calm, conditions, laid).
  DERIVED. THE GIVEN ROWS OF THIS SEAT. 6 by the template 'for every input the law returns true; each argument reads behind the call as it read before'; 0 by the template 'total and deterministic' (their statements: YtjjfleepnjhamaaTotals.lean).
  GIVEN WITH THE SEED: the statements are not yours to turn. If you find one false, say at which input.
  Laid BY PROGRAM, IN A SANDBOX (cutbox-rows.mjs): the forced cells as the released guide's own fill.sh prints them over the translation 7679917c32f61097… (all of the seat's roots in one cut). By AI agents, Wed Nov 11 2026. No macro, syntax, notation, axiom, sorry.
-/
import Derived.Test.YtjjfleepnjhamaaChecked
import GoSem.Claim
import GoSem.ClaimJoined
import GoSem.ClaimMapViews
import Derived.JoinedTies
import Derived.KernelRfl
namespace Go.Proofs.Ytjjfleepnjhamaa
/- THE CELL 'sum', in the pinned program and in every row, IS THE sha256 OF THE DUMP (.gsa) THAT YtjjfleepnjhamaaProg.lean LOADS. Nothing in Lean hashes anything: it is a label: what it is worth is what the hold of that sum in a sandbox is worth. -/
noncomputable def Try.pinned : Pinned := { name := "ytjjfleepnjhamaa", sum := "7679917c32f610978cae3d8a63e873a7764181324ac996337eea4933e769fbcb", checked := Try.checked }
namespace Rows
def none {H : Type} : Left H := { results := [], args := [] }

/-- 'laws.FnExactCentreOk': WHATEVER THE INPUT: true; the input reads as it did. -/
def fnExactCentreOkSpec : ChangeSpec := { name := "fnExactCentreOk", fn := fun _ => fun
  | [d] => { results := [.lit (.bool true)], args := [d] }
  | _ => none }
def fnExactCentreOkRow : OpenClaim := { program := "ytjjfleepnjhamaa", sum := "7679917c32f610978cae3d8a63e873a7764181324ac996337eea4933e769fbcb", func := "loop.example/g00211/laws.FnExactCentreOk", spec := "fnExactCentreOk", plainKeys := false, apart := false }
def FnExactCentreOkSaid : Prop := fnExactCentreOkRow.holds Try.pinned (OpenSpec.ofChange fnExactCentreOkSpec)

/-- ITS FALSE NEIGHBOUR: 'it returns false'. Refute it at one input. -/
def fnExactCentreOkWrong : ChangeSpec := { name := "fnExactCentreOk", fn := fun _ => fun
  | [d] => { results := [.lit (.bool false)], args := [d] }
  | _ => none }
def FnExactCentreOkWrongFalsely : Prop := fnExactCentreOkRow.holds Try.pinned (OpenSpec.ofChange fnExactCentreOkWrong)

/-- 'laws.FnExactRevoke': WHATEVER THE INPUT: true; the input reads as it did. -/
def fnExactRevokeSpec : ChangeSpec := { name := "fnExactRevoke", fn := fun _ => fun
  | [d1, d2] => { results := [.lit (.bool true)], args := [d1, d2] }
  | _ => none }
def fnExactRevokeRow : OpenClaim := { program := "ytjjfleepnjhamaa", sum := "7679917c32f610978cae3d8a63e873a7764181324ac996337eea4933e769fbcb", func := "loop.example/g00211/laws.FnExactRevoke", spec := "fnExactRevoke", inPlace := ["slices.overlaps[int]"], plainKeys := false, apart := false }
def FnExactRevokeSaid : Prop := fnExactRevokeRow.holds Try.pinned (OpenSpec.ofChange fnExactRevokeSpec)

/-- ITS FALSE NEIGHBOUR: 'it returns false'. Refute it at one input. -/
def fnExactRevokeWrong : ChangeSpec := { name := "fnExactRevoke", fn := fun _ => fun
  | [d1, d2] => { results := [.lit (.bool false)], args := [d1, d2] }
  | _ => none }
def FnExactRevokeWrongFalsely : Prop := fnExactRevokeRow.holds Try.pinned (OpenSpec.ofChange fnExactRevokeWrong)

/-- 'laws.FnExactDeliver': WHATEVER THE INPUT: true; the input reads as it did. -/
def fnExactDeliverSpec : ChangeSpec := { name := "fnExactDeliver", fn := fun _ => fun
  | [d1, d2] => { results := [.lit (.bool true)], args := [d1, d2] }
  | _ => none }
def fnExactDeliverRow : OpenClaim := { program := "ytjjfleepnjhamaa", sum := "7679917c32f610978cae3d8a63e873a7764181324ac996337eea4933e769fbcb", func := "loop.example/g00211/laws.FnExactDeliver", spec := "fnExactDeliver", unfollowed := true, recurses := true, plainKeys := false, apart := false }
def FnExactDeliverSaid : Prop := fnExactDeliverRow.holds Try.pinned (OpenSpec.ofChange fnExactDeliverSpec)

/-- ITS FALSE NEIGHBOUR: 'it returns false'. Refute it at one input. -/
def fnExactDeliverWrong : ChangeSpec := { name := "fnExactDeliver", fn := fun _ => fun
  | [d1, d2] => { results := [.lit (.bool false)], args := [d1, d2] }
  | _ => none }
def FnExactDeliverWrongFalsely : Prop := fnExactDeliverRow.holds Try.pinned (OpenSpec.ofChange fnExactDeliverWrong)

/-- 'laws.FnExactPick': WHATEVER THE INPUT: true; the input reads as it did. -/
def fnExactPickSpec : ChangeSpec := { name := "fnExactPick", fn := fun _ => fun
  | [d1, d2] => { results := [.lit (.bool true)], args := [d1, d2] }
  | _ => none }
def fnExactPickRow : OpenClaim := { program := "ytjjfleepnjhamaa", sum := "7679917c32f610978cae3d8a63e873a7764181324ac996337eea4933e769fbcb", func := "loop.example/g00211/laws.FnExactPick", spec := "fnExactPick", plainKeys := false, apart := false }
def FnExactPickSaid : Prop := fnExactPickRow.holds Try.pinned (OpenSpec.ofChange fnExactPickSpec)

/-- ITS FALSE NEIGHBOUR: 'it returns false'. Refute it at one input. -/
def fnExactPickWrong : ChangeSpec := { name := "fnExactPick", fn := fun _ => fun
  | [d1, d2] => { results := [.lit (.bool false)], args := [d1, d2] }
  | _ => none }
def FnExactPickWrongFalsely : Prop := fnExactPickRow.holds Try.pinned (OpenSpec.ofChange fnExactPickWrong)

/-- 'laws.FnExactMerge': WHATEVER THE INPUT: true; the input reads as it did. -/
def fnExactMergeSpec : ChangeSpec := { name := "fnExactMerge", fn := fun _ => fun
  | [d1, d2] => { results := [.lit (.bool true)], args := [d1, d2] }
  | _ => none }
def fnExactMergeRow : OpenClaim := { program := "ytjjfleepnjhamaa", sum := "7679917c32f610978cae3d8a63e873a7764181324ac996337eea4933e769fbcb", func := "loop.example/g00211/laws.FnExactMerge", spec := "fnExactMerge", unfollowed := true, recurses := true, plainKeys := false, apart := false }
def FnExactMergeSaid : Prop := fnExactMergeRow.holds Try.pinned (OpenSpec.ofChange fnExactMergeSpec)

/-- ITS FALSE NEIGHBOUR: 'it returns false'. Refute it at one input. -/
def fnExactMergeWrong : ChangeSpec := { name := "fnExactMerge", fn := fun _ => fun
  | [d1, d2] => { results := [.lit (.bool false)], args := [d1, d2] }
  | _ => none }
def FnExactMergeWrongFalsely : Prop := fnExactMergeRow.holds Try.pinned (OpenSpec.ofChange fnExactMergeWrong)

/-- 'laws.FnExactDoubles': WHATEVER THE INPUT: true; the input reads as it did. -/
def fnExactDoublesSpec : ChangeSpec := { name := "fnExactDoubles", fn := fun _ => fun
  | [d] => { results := [.lit (.bool true)], args := [d] }
  | _ => none }
def fnExactDoublesRow : OpenClaim := { program := "ytjjfleepnjhamaa", sum := "7679917c32f610978cae3d8a63e873a7764181324ac996337eea4933e769fbcb", func := "loop.example/g00211/laws.FnExactDoubles", spec := "fnExactDoubles", recurses := true, plainKeys := false, apart := false }
def FnExactDoublesSaid : Prop := fnExactDoublesRow.holds Try.pinned (OpenSpec.ofChange fnExactDoublesSpec)

/-- ITS FALSE NEIGHBOUR: 'it returns false'. Refute it at one input. -/
def fnExactDoublesWrong : ChangeSpec := { name := "fnExactDoubles", fn := fun _ => fun
  | [d] => { results := [.lit (.bool false)], args := [d] }
  | _ => none }
def FnExactDoublesWrongFalsely : Prop := fnExactDoublesRow.holds Try.pinned (OpenSpec.ofChange fnExactDoublesWrong)

/- THE SECOND FORM. 'bulk': how many values and letters a reading holds, each counted each time it is reached (what is shared counts as often as it is met; a slice's spare places count too). A statement '..UptoSaid' is the law's where the arguments, and the package variables that the reading takes, are together of bulk at most 1048576: NARROWER than '..Said'. Prove '..Said' where nothing that the law and all that it calls make is longer than what came in: it says more and counts as full. Else prove '..UptoSaid'. A law counts once. -/
mutual
def uptoBulk {H : Type} : DataW H → Nat
  | .lit (.string bytes) => bytes.length + 1
  | .lit _ => 1
  | .nil => 1
  | .ptr d => uptoBulk d + 1
  | .slice elems spare => uptoBulkAll elems + uptoBulkAll spare + 1
  | .agg parts => uptoBulkAll parts + 1
  | .iface _ d => uptoBulk d + 1
  | .map entries => uptoBulkEntries entries + 1
  | .held _ => 1
def uptoBulkAll {H : Type} : List (DataW H) → Nat
  | [] => 0
  | d :: r => uptoBulk d + uptoBulkAll r
def uptoBulkEntries {H : Type} : List (Lit × DataW H) → Nat
  | [] => 0
  | x :: r => uptoBulkEntry x + uptoBulkEntries r
def uptoBulkEntry {H : Type} : Lit × DataW H → Nat
  | (.string bytes, d) => bytes.length + uptoBulk d + 1
  | (_, d) => uptoBulk d + 1
 end
def uptoSmall : (H : Type) → List (DataW H) → Bool := fun _ ds => decide (uptoBulkAll ds ≤ 1048576)
def OpenSpec.upto (s : _root_.Go.ChangeSpec) : _root_.Go.OpenSpec := { _root_.Go.OpenSpec.ofChange s with cond := some uptoSmall }

/-- 'laws.FnExactCentreOk', WHERE WHAT IT READS IS OF BULK AT MOST 1048576: true; the input reads as it did. -/
def fnExactCentreOkUptoRow : OpenClaim := { program := "ytjjfleepnjhamaa", sum := "7679917c32f610978cae3d8a63e873a7764181324ac996337eea4933e769fbcb", func := "loop.example/g00211/laws.FnExactCentreOk", spec := "fnExactCentreOk", plainKeys := false, apart := false, narrowed := true }
def FnExactCentreOkUptoSaid : Prop := fnExactCentreOkUptoRow.holds Try.pinned (OpenSpec.upto fnExactCentreOkSpec)

/-- 'laws.FnExactRevoke', WHERE WHAT IT READS IS OF BULK AT MOST 1048576: true; the input reads as it did. -/
def fnExactRevokeUptoRow : OpenClaim := { program := "ytjjfleepnjhamaa", sum := "7679917c32f610978cae3d8a63e873a7764181324ac996337eea4933e769fbcb", func := "loop.example/g00211/laws.FnExactRevoke", spec := "fnExactRevoke", inPlace := ["slices.overlaps[int]"], plainKeys := false, apart := false, narrowed := true }
def FnExactRevokeUptoSaid : Prop := fnExactRevokeUptoRow.holds Try.pinned (OpenSpec.upto fnExactRevokeSpec)

/-- 'laws.FnExactDeliver', WHERE WHAT IT READS IS OF BULK AT MOST 1048576: true; the input reads as it did. -/
def fnExactDeliverUptoRow : OpenClaim := { program := "ytjjfleepnjhamaa", sum := "7679917c32f610978cae3d8a63e873a7764181324ac996337eea4933e769fbcb", func := "loop.example/g00211/laws.FnExactDeliver", spec := "fnExactDeliver", unfollowed := true, recurses := true, plainKeys := false, apart := false, narrowed := true }
def FnExactDeliverUptoSaid : Prop := fnExactDeliverUptoRow.holds Try.pinned (OpenSpec.upto fnExactDeliverSpec)

/-- 'laws.FnExactPick', WHERE WHAT IT READS IS OF BULK AT MOST 1048576: true; the input reads as it did. -/
def fnExactPickUptoRow : OpenClaim := { program := "ytjjfleepnjhamaa", sum := "7679917c32f610978cae3d8a63e873a7764181324ac996337eea4933e769fbcb", func := "loop.example/g00211/laws.FnExactPick", spec := "fnExactPick", plainKeys := false, apart := false, narrowed := true }
def FnExactPickUptoSaid : Prop := fnExactPickUptoRow.holds Try.pinned (OpenSpec.upto fnExactPickSpec)

/-- 'laws.FnExactMerge', WHERE WHAT IT READS IS OF BULK AT MOST 1048576: true; the input reads as it did. -/
def fnExactMergeUptoRow : OpenClaim := { program := "ytjjfleepnjhamaa", sum := "7679917c32f610978cae3d8a63e873a7764181324ac996337eea4933e769fbcb", func := "loop.example/g00211/laws.FnExactMerge", spec := "fnExactMerge", unfollowed := true, recurses := true, plainKeys := false, apart := false, narrowed := true }
def FnExactMergeUptoSaid : Prop := fnExactMergeUptoRow.holds Try.pinned (OpenSpec.upto fnExactMergeSpec)

/-- 'laws.FnExactDoubles', WHERE WHAT IT READS IS OF BULK AT MOST 1048576: true; the input reads as it did. -/
def fnExactDoublesUptoRow : OpenClaim := { program := "ytjjfleepnjhamaa", sum := "7679917c32f610978cae3d8a63e873a7764181324ac996337eea4933e769fbcb", func := "loop.example/g00211/laws.FnExactDoubles", spec := "fnExactDoubles", recurses := true, plainKeys := false, apart := false, narrowed := true }
def FnExactDoublesUptoSaid : Prop := fnExactDoublesUptoRow.holds Try.pinned (OpenSpec.upto fnExactDoublesSpec)

end Rows
end Go.Proofs.Ytjjfleepnjhamaa

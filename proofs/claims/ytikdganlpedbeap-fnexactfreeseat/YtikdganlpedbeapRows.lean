/-
  No cell of these rows narrows 'for every input' (looked for: loops, veiled, ifaces, maps, wideKeys, modest, calm, conditions, laid).
  DERIVED. THE GIVEN ROWS OF THIS SEAT. 6 by the template 'for every input the law returns true; each argument reads behind the call as it read before'; 0 by the template 'total and deterministic' (their statements: YtikdganlpedbeapTotals.lean).
  GIVEN WITH THE SEED: the statements are not yours to turn. If you find one false, say at which input.
  Laid BY PROGRAM, IN A SANDBOX (cutbox-rows.mjs): the forced cells as the released guide's own fill.sh prints them over the translation 7fcccfd6ad185b44… (all of the seat's roots in one cut). By AI agents, Wed Nov 11 2026. No macro, syntax, notation, axiom, sorry.
-/
import Derived.Test.YtikdganlpedbeapChecked
import GoSem.Claim
import GoSem.ClaimJoined
import GoSem.ClaimMapViews
import Derived.JoinedTies
import Derived.KernelRfl
namespace Go.Proofs.Ytikdganlpedbeap
/- THE CELL 'sum', in the pinned program and in every row, IS THE sha256 OF THE DUMP (.gsa) THAT YtikdganlpedbeapProg.lean LOADS. Nothing in Lean hashes anything: it is a label: what it is worth is what the hold of that sum in a sandbox is worth. -/
noncomputable def Try.pinned : Pinned := { name := "ytikdganlpedbeap", sum := "7fcccfd6ad185b44a8b6c3049bdceb6b224d399b70a5a282f43d832a77004195", checked := Try.checked }
namespace Rows
def none {H : Type} : Left H := { results := [], args := [] }

/-- 'laws.FnExactFare': WHATEVER THE INPUT: true; the input reads as it did. -/
def fnExactFareSpec : ChangeSpec := { name := "fnExactFare", fn := fun _ => fun
  | [d1, d2, d3, d4, d5] => { results := [.lit (.bool true)], args := [d1, d2, d3, d4, d5] }
  | _ => none }
def fnExactFareRow : OpenClaim := { program := "ytikdganlpedbeap", sum := "7fcccfd6ad185b44a8b6c3049bdceb6b224d399b70a5a282f43d832a77004195", func := "loop.example/g00211/laws.FnExactFare", spec := "fnExactFare", plainKeys := false, apart := false }
def FnExactFareSaid : Prop := fnExactFareRow.holds Try.pinned (OpenSpec.ofChange fnExactFareSpec)

/-- ITS FALSE NEIGHBOUR: 'it returns false'. Refute it at one input. -/
def fnExactFareWrong : ChangeSpec := { name := "fnExactFare", fn := fun _ => fun
  | [d1, d2, d3, d4, d5] => { results := [.lit (.bool false)], args := [d1, d2, d3, d4, d5] }
  | _ => none }
def FnExactFareWrongFalsely : Prop := fnExactFareRow.holds Try.pinned (OpenSpec.ofChange fnExactFareWrong)

/-- 'laws.FnExactFee': WHATEVER THE INPUT: true; the input reads as it did. -/
def fnExactFeeSpec : ChangeSpec := { name := "fnExactFee", fn := fun _ => fun
  | [d1, d2] => { results := [.lit (.bool true)], args := [d1, d2] }
  | _ => none }
def fnExactFeeRow : OpenClaim := { program := "ytikdganlpedbeap", sum := "7fcccfd6ad185b44a8b6c3049bdceb6b224d399b70a5a282f43d832a77004195", func := "loop.example/g00211/laws.FnExactFee", spec := "fnExactFee", plainKeys := false, apart := false }
def FnExactFeeSaid : Prop := fnExactFeeRow.holds Try.pinned (OpenSpec.ofChange fnExactFeeSpec)

/-- ITS FALSE NEIGHBOUR: 'it returns false'. Refute it at one input. -/
def fnExactFeeWrong : ChangeSpec := { name := "fnExactFee", fn := fun _ => fun
  | [d1, d2] => { results := [.lit (.bool false)], args := [d1, d2] }
  | _ => none }
def FnExactFeeWrongFalsely : Prop := fnExactFeeRow.holds Try.pinned (OpenSpec.ofChange fnExactFeeWrong)

/-- 'laws.FnExactHoldsOk': WHATEVER THE INPUT: true; the input reads as it did. -/
def fnExactHoldsOkSpec : ChangeSpec := { name := "fnExactHoldsOk", fn := fun _ => fun
  | [d] => { results := [.lit (.bool true)], args := [d] }
  | _ => none }
def fnExactHoldsOkRow : OpenClaim := { program := "ytikdganlpedbeap", sum := "7fcccfd6ad185b44a8b6c3049bdceb6b224d399b70a5a282f43d832a77004195", func := "loop.example/g00211/laws.FnExactHoldsOk", spec := "fnExactHoldsOk", unfollowed := true, recurses := true, plainKeys := false, apart := false }
def FnExactHoldsOkSaid : Prop := fnExactHoldsOkRow.holds Try.pinned (OpenSpec.ofChange fnExactHoldsOkSpec)

/-- ITS FALSE NEIGHBOUR: 'it returns false'. Refute it at one input. -/
def fnExactHoldsOkWrong : ChangeSpec := { name := "fnExactHoldsOk", fn := fun _ => fun
  | [d] => { results := [.lit (.bool false)], args := [d] }
  | _ => none }
def FnExactHoldsOkWrongFalsely : Prop := fnExactHoldsOkRow.holds Try.pinned (OpenSpec.ofChange fnExactHoldsOkWrong)

/-- 'laws.FnExactMeet': WHATEVER THE INPUT: true; the input reads as it did. -/
def fnExactMeetSpec : ChangeSpec := { name := "fnExactMeet", fn := fun _ => fun
  | [d1, d2] => { results := [.lit (.bool true)], args := [d1, d2] }
  | _ => none }
def fnExactMeetRow : OpenClaim := { program := "ytikdganlpedbeap", sum := "7fcccfd6ad185b44a8b6c3049bdceb6b224d399b70a5a282f43d832a77004195", func := "loop.example/g00211/laws.FnExactMeet", spec := "fnExactMeet", plainKeys := false, apart := false }
def FnExactMeetSaid : Prop := fnExactMeetRow.holds Try.pinned (OpenSpec.ofChange fnExactMeetSpec)

/-- ITS FALSE NEIGHBOUR: 'it returns false'. Refute it at one input. -/
def fnExactMeetWrong : ChangeSpec := { name := "fnExactMeet", fn := fun _ => fun
  | [d1, d2] => { results := [.lit (.bool false)], args := [d1, d2] }
  | _ => none }
def FnExactMeetWrongFalsely : Prop := fnExactMeetRow.holds Try.pinned (OpenSpec.ofChange fnExactMeetWrong)

/-- 'laws.FnExactFreeSeat': WHATEVER THE INPUT: true; the input reads as it did. -/
def fnExactFreeSeatSpec : ChangeSpec := { name := "fnExactFreeSeat", fn := fun _ => fun
  | [d1, d2, d3, d4, d5] => { results := [.lit (.bool true)], args := [d1, d2, d3, d4, d5] }
  | _ => none }
def fnExactFreeSeatRow : OpenClaim := { program := "ytikdganlpedbeap", sum := "7fcccfd6ad185b44a8b6c3049bdceb6b224d399b70a5a282f43d832a77004195", func := "loop.example/g00211/laws.FnExactFreeSeat", spec := "fnExactFreeSeat", unfollowed := true, recurses := true, plainKeys := false, apart := false }
def FnExactFreeSeatSaid : Prop := fnExactFreeSeatRow.holds Try.pinned (OpenSpec.ofChange fnExactFreeSeatSpec)

/-- ITS FALSE NEIGHBOUR: 'it returns false'. Refute it at one input. -/
def fnExactFreeSeatWrong : ChangeSpec := { name := "fnExactFreeSeat", fn := fun _ => fun
  | [d1, d2, d3, d4, d5] => { results := [.lit (.bool false)], args := [d1, d2, d3, d4, d5] }
  | _ => none }
def FnExactFreeSeatWrongFalsely : Prop := fnExactFreeSeatRow.holds Try.pinned (OpenSpec.ofChange fnExactFreeSeatWrong)

/-- 'laws.FnExactFreeCount': WHATEVER THE INPUT: true; the input reads as it did. -/
def fnExactFreeCountSpec : ChangeSpec := { name := "fnExactFreeCount", fn := fun _ => fun
  | [d1, d2, d3, d4, d5] => { results := [.lit (.bool true)], args := [d1, d2, d3, d4, d5] }
  | _ => none }
def fnExactFreeCountRow : OpenClaim := { program := "ytikdganlpedbeap", sum := "7fcccfd6ad185b44a8b6c3049bdceb6b224d399b70a5a282f43d832a77004195", func := "loop.example/g00211/laws.FnExactFreeCount", spec := "fnExactFreeCount", unfollowed := true, recurses := true, plainKeys := false, apart := false }
def FnExactFreeCountSaid : Prop := fnExactFreeCountRow.holds Try.pinned (OpenSpec.ofChange fnExactFreeCountSpec)

/-- ITS FALSE NEIGHBOUR: 'it returns false'. Refute it at one input. -/
def fnExactFreeCountWrong : ChangeSpec := { name := "fnExactFreeCount", fn := fun _ => fun
  | [d1, d2, d3, d4, d5] => { results := [.lit (.bool false)], args := [d1, d2, d3, d4, d5] }
  | _ => none }
def FnExactFreeCountWrongFalsely : Prop := fnExactFreeCountRow.holds Try.pinned (OpenSpec.ofChange fnExactFreeCountWrong)

/- THE SECOND FORM. 'bulk': how many values and letters a reading holds, each counted each time it is reached (what is shared counts as often as it is met; a slice's spare places count too). A statement '..UptoSaid' is the law's where the arguments, and the package variables that the reading takes, are together of bulk at most 1048576: NARROWER than '..Said'. Prove '..Said' where nothing that the law and all that it calls make is longer than what came in: it says more and counts as full. Else prove '..UptoSaid'. A law counts once. -/
mutual
def uptoBulk {H : Type} : DataW H → Nat
  | .lit (.string bytes) => bytes.length + 1
  | .lit _ => 1
  | .nil => 1
  | .ptr d => uptoBulk d + 1
  | .slice elems spare => uptoBulkAll elems + uptoBulkAll spare + 1
  | .agg parts => uptoBulkAll parts + 1
  | .iface _ d => uptoBulk d + 1
  | .map entries => uptoBulkEntries entries + 1
  | .held _ => 1
def uptoBulkAll {H : Type} : List (DataW H) → Nat
  | [] => 0
  | d :: r => uptoBulk d + uptoBulkAll r
def uptoBulkEntries {H : Type} : List (Lit × DataW H) → Nat
  | [] => 0
  | x :: r => uptoBulkEntry x + uptoBulkEntries r
def uptoBulkEntry {H : Type} : Lit × DataW H → Nat
  | (.string bytes, d) => bytes.length + uptoBulk d + 1
  | (_, d) => uptoBulk d + 1
 end
def uptoSmall : (H : Type) → List (DataW H) → Bool := fun _ ds => decide (uptoBulkAll ds ≤ 1048576)
def OpenSpec.upto (s : _root_.Go.ChangeSpec) : _root_.Go.OpenSpec := { _root_.Go.OpenSpec.ofChange s with cond := some uptoSmall }

/-- 'laws.FnExactFare', WHERE WHAT IT READS IS OF BULK AT MOST 1048576: true; the input reads as it did. -/
def fnExactFareUptoRow : OpenClaim := { program := "ytikdganlpedbeap", sum := "7fcccfd6ad185b44a8b6c3049bdceb6b224d399b70a5a282f43d832a77004195", func := "loop.example/g00211/laws.FnExactFare", spec := "fnExactFare", plainKeys := false, apart := false, narrowed := true }
def FnExactFareUptoSaid : Prop := fnExactFareUptoRow.holds Try.pinned (OpenSpec.upto fnExactFareSpec)

/-- 'laws.FnExactFee', WHERE WHAT IT READS IS OF BULK AT MOST 1048576: true; the input reads as it did. -/
def fnExactFeeUptoRow : OpenClaim := { program := "ytikdganlpedbeap", sum := "7fcccfd6ad185b44a8b6c3049bdceb6b224d399b70a5a282f43d832a77004195", func := "loop.example/g00211/laws.FnExactFee", spec := "fnExactFee", plainKeys := false, apart := false, narrowed := true }
def FnExactFeeUptoSaid : Prop := fnExactFeeUptoRow.holds Try.pinned (OpenSpec.upto fnExactFeeSpec)

/-- 'laws.FnExactHoldsOk', WHERE WHAT IT READS IS OF BULK AT MOST 1048576: true; the input reads as it did. -/
def fnExactHoldsOkUptoRow : OpenClaim := { program := "ytikdganlpedbeap", sum := "7fcccfd6ad185b44a8b6c3049bdceb6b224d399b70a5a282f43d832a77004195", func := "loop.example/g00211/laws.FnExactHoldsOk", spec := "fnExactHoldsOk", unfollowed := true, recurses := true, plainKeys := false, apart := false, narrowed := true }
def FnExactHoldsOkUptoSaid : Prop := fnExactHoldsOkUptoRow.holds Try.pinned (OpenSpec.upto fnExactHoldsOkSpec)

/-- 'laws.FnExactMeet', WHERE WHAT IT READS IS OF BULK AT MOST 1048576: true; the input reads as it did. -/
def fnExactMeetUptoRow : OpenClaim := { program := "ytikdganlpedbeap", sum := "7fcccfd6ad185b44a8b6c3049bdceb6b224d399b70a5a282f43d832a77004195", func := "loop.example/g00211/laws.FnExactMeet", spec := "fnExactMeet", plainKeys := false, apart := false, narrowed := true }
def FnExactMeetUptoSaid : Prop := fnExactMeetUptoRow.holds Try.pinned (OpenSpec.upto fnExactMeetSpec)

/-- 'laws.FnExactFreeSeat', WHERE WHAT IT READS IS OF BULK AT MOST 1048576: true; the input reads as it did. -/
def fnExactFreeSeatUptoRow : OpenClaim := { program := "ytikdganlpedbeap", sum := "7fcccfd6ad185b44a8b6c3049bdceb6b224d399b70a5a282f43d832a77004195", func := "loop.example/g00211/laws.FnExactFreeSeat", spec := "fnExactFreeSeat", unfollowed := true, recurses := true, plainKeys := false, apart := false, narrowed := true }
def FnExactFreeSeatUptoSaid : Prop := fnExactFreeSeatUptoRow.holds Try.pinned (OpenSpec.upto fnExactFreeSeatSpec)

/-- 'laws.FnExactFreeCount', WHERE WHAT IT READS IS OF BULK AT MOST 1048576: true; the input reads as it did. -/
def fnExactFreeCountUptoRow : OpenClaim := { program := "ytikdganlpedbeap", sum := "7fcccfd6ad185b44a8b6c3049bdceb6b224d399b70a5a282f43d832a77004195", func := "loop.example/g00211/laws.FnExactFreeCount", spec := "fnExactFreeCount", unfollowed := true, recurses := true, plainKeys := false, apart := false, narrowed := true }
def FnExactFreeCountUptoSaid : Prop := fnExactFreeCountUptoRow.holds Try.pinned (OpenSpec.upto fnExactFreeCountSpec)

end Rows
end Go.Proofs.Ytikdganlpedbeap

/-
  No cell of these rows narrows 'for every input' (looked for: loops, veiled, ifaces, maps, wideKeys, modest, calm, conditions, laid).
  DERIVED. THE GIVEN ROWS OF THIS SEAT. 6 by the template 'for every input the law returns true; each argument reads behind the call as it read before'; 0 by the template 'total and deterministic' (their statements: YtkhibgicejcmlamTotals.lean).
  GIVEN WITH THE SEED: the statements are not yours to turn. If you find one false, say at which input.
  Laid BY PROGRAM, IN A SANDBOX (cutbox-rows.mjs): the forced cells as the released guide's own fill.sh prints them over the translation 12eee6b43a217ec3… (all of the seat's roots in one cut). By AI agents, Wed Nov 11 2026. No macro, syntax, notation, axiom, sorry.
-/
import Derived.Test.YtkhibgicejcmlamChecked
import GoSem.Claim
import GoSem.ClaimJoined
import GoSem.ClaimMapViews
import Derived.JoinedTies
import Derived.KernelRfl
namespace Go.Proofs.Ytkhibgicejcmlam
/- THE CELL 'sum', in the pinned program and in every row, IS THE sha256 OF THE DUMP (.gsa) THAT YtkhibgicejcmlamProg.lean LOADS. Nothing in Lean hashes anything: it is a label: what it is worth is what the hold of that sum in a sandbox is worth. -/
noncomputable def Try.pinned : Pinned := { name := "ytkhibgicejcmlam", sum := "12eee6b43a217ec3a11b6627dae94b706cefee52efdf923294a55c83b8fbf417", checked := Try.checked }
namespace Rows
def none {H : Type} : Left H := { results := [], args := [] }

/-- 'laws.FnExactTurn': WHATEVER THE INPUT: true; the input reads as it did. -/
def fnExactTurnSpec : ChangeSpec := { name := "fnExactTurn", fn := fun _ => fun
  | [d] => { results := [.lit (.bool true)], args := [d] }
  | _ => none }
def fnExactTurnRow : OpenClaim := { program := "ytkhibgicejcmlam", sum := "12eee6b43a217ec3a11b6627dae94b706cefee52efdf923294a55c83b8fbf417", func := "loop.example/g00211/laws.FnExactTurn", spec := "fnExactTurn", apart := false }
def FnExactTurnSaid : Prop := fnExactTurnRow.holds Try.pinned (OpenSpec.ofChange fnExactTurnSpec)

/-- ITS FALSE NEIGHBOUR: 'it returns false'. Refute it at one input. -/
def fnExactTurnWrong : ChangeSpec := { name := "fnExactTurn", fn := fun _ => fun
  | [d] => { results := [.lit (.bool false)], args := [d] }
  | _ => none }
def FnExactTurnWrongFalsely : Prop := fnExactTurnRow.holds Try.pinned (OpenSpec.ofChange fnExactTurnWrong)

/-- 'laws.FnExactTurnBy': WHATEVER THE INPUT: true; the input reads as it did. -/
def fnExactTurnBySpec : ChangeSpec := { name := "fnExactTurnBy", fn := fun _ => fun
  | [d1, d2] => { results := [.lit (.bool true)], args := [d1, d2] }
  | _ => none }
def fnExactTurnByRow : OpenClaim := { program := "ytkhibgicejcmlam", sum := "12eee6b43a217ec3a11b6627dae94b706cefee52efdf923294a55c83b8fbf417", func := "loop.example/g00211/laws.FnExactTurnBy", spec := "fnExactTurnBy", apart := false }
def FnExactTurnBySaid : Prop := fnExactTurnByRow.holds Try.pinned (OpenSpec.ofChange fnExactTurnBySpec)

/-- ITS FALSE NEIGHBOUR: 'it returns false'. Refute it at one input. -/
def fnExactTurnByWrong : ChangeSpec := { name := "fnExactTurnBy", fn := fun _ => fun
  | [d1, d2] => { results := [.lit (.bool false)], args := [d1, d2] }
  | _ => none }
def FnExactTurnByWrongFalsely : Prop := fnExactTurnByRow.holds Try.pinned (OpenSpec.ofChange fnExactTurnByWrong)

/-- 'laws.FnExactPaint': WHATEVER THE INPUT: true; the input reads as it did. -/
def fnExactPaintSpec : ChangeSpec := { name := "fnExactPaint", fn := fun _ => fun
  | [d] => { results := [.lit (.bool true)], args := [d] }
  | _ => none }
def fnExactPaintRow : OpenClaim := { program := "ytkhibgicejcmlam", sum := "12eee6b43a217ec3a11b6627dae94b706cefee52efdf923294a55c83b8fbf417", func := "loop.example/g00211/laws.FnExactPaint", spec := "fnExactPaint", inPlace := ["internal/bytealg.MakeNoZero"], apart := false }
def FnExactPaintSaid : Prop := fnExactPaintRow.holds Try.pinned (OpenSpec.ofChange fnExactPaintSpec)

/-- ITS FALSE NEIGHBOUR: 'it returns false'. Refute it at one input. -/
def fnExactPaintWrong : ChangeSpec := { name := "fnExactPaint", fn := fun _ => fun
  | [d] => { results := [.lit (.bool false)], args := [d] }
  | _ => none }
def FnExactPaintWrongFalsely : Prop := fnExactPaintRow.holds Try.pinned (OpenSpec.ofChange fnExactPaintWrong)

/-- 'laws.FnExactHeart': WHATEVER THE INPUT: true; the input reads as it did. -/
def fnExactHeartSpec : ChangeSpec := { name := "fnExactHeart", fn := fun _ => fun
  | [d] => { results := [.lit (.bool true)], args := [d] }
  | _ => none }
def fnExactHeartRow : OpenClaim := { program := "ytkhibgicejcmlam", sum := "12eee6b43a217ec3a11b6627dae94b706cefee52efdf923294a55c83b8fbf417", func := "loop.example/g00211/laws.FnExactHeart", spec := "fnExactHeart", apart := false }
def FnExactHeartSaid : Prop := fnExactHeartRow.holds Try.pinned (OpenSpec.ofChange fnExactHeartSpec)

/-- ITS FALSE NEIGHBOUR: 'it returns false'. Refute it at one input. -/
def fnExactHeartWrong : ChangeSpec := { name := "fnExactHeart", fn := fun _ => fun
  | [d] => { results := [.lit (.bool false)], args := [d] }
  | _ => none }
def FnExactHeartWrongFalsely : Prop := fnExactHeartRow.holds Try.pinned (OpenSpec.ofChange fnExactHeartWrong)

/-- 'laws.FnExactScan': WHATEVER THE INPUT: true; the input reads as it did. -/
def fnExactScanSpec : ChangeSpec := { name := "fnExactScan", fn := fun _ => fun
  | [d] => { results := [.lit (.bool true)], args := [d] }
  | _ => none }
def fnExactScanRow : OpenClaim := { program := "ytkhibgicejcmlam", sum := "12eee6b43a217ec3a11b6627dae94b706cefee52efdf923294a55c83b8fbf417", func := "loop.example/g00211/laws.FnExactScan", spec := "fnExactScan", inPlace := ["internal/bytealg.MakeNoZero"], apart := false }
def FnExactScanSaid : Prop := fnExactScanRow.holds Try.pinned (OpenSpec.ofChange fnExactScanSpec)

/-- ITS FALSE NEIGHBOUR: 'it returns false'. Refute it at one input. -/
def fnExactScanWrong : ChangeSpec := { name := "fnExactScan", fn := fun _ => fun
  | [d] => { results := [.lit (.bool false)], args := [d] }
  | _ => none }
def FnExactScanWrongFalsely : Prop := fnExactScanRow.holds Try.pinned (OpenSpec.ofChange fnExactScanWrong)

/-- 'laws.FnExactTrainOk': WHATEVER THE INPUT: true; the input reads as it did. -/
def fnExactTrainOkSpec : ChangeSpec := { name := "fnExactTrainOk", fn := fun _ => fun
  | [d] => { results := [.lit (.bool true)], args := [d] }
  | _ => none }
def fnExactTrainOkRow : OpenClaim := { program := "ytkhibgicejcmlam", sum := "12eee6b43a217ec3a11b6627dae94b706cefee52efdf923294a55c83b8fbf417", func := "loop.example/g00211/laws.FnExactTrainOk", spec := "fnExactTrainOk", unfollowed := true, recurses := true, apart := false }
def FnExactTrainOkSaid : Prop := fnExactTrainOkRow.holds Try.pinned (OpenSpec.ofChange fnExactTrainOkSpec)

/-- ITS FALSE NEIGHBOUR: 'it returns false'. Refute it at one input. -/
def fnExactTrainOkWrong : ChangeSpec := { name := "fnExactTrainOk", fn := fun _ => fun
  | [d] => { results := [.lit (.bool false)], args := [d] }
  | _ => none }
def FnExactTrainOkWrongFalsely : Prop := fnExactTrainOkRow.holds Try.pinned (OpenSpec.ofChange fnExactTrainOkWrong)

/- THE SECOND FORM. 'bulk': how many values and letters a reading holds, each counted each time it is reached (what is shared counts as often as it is met; a slice's spare places count too). A statement '..UptoSaid' is the law's where the arguments, and the package variables that the reading takes, are together of bulk at most 1048576: NARROWER than '..Said'. Prove '..Said' where nothing that the law and all that it calls make is longer than what came in: it says more and counts as full. Else prove '..UptoSaid'. A law counts once. -/
mutual
def uptoBulk {H : Type} : DataW H → Nat
  | .lit (.string bytes) => bytes.length + 1
  | .lit _ => 1
  | .nil => 1
  | .ptr d => uptoBulk d + 1
  | .slice elems spare => uptoBulkAll elems + uptoBulkAll spare + 1
  | .agg parts => uptoBulkAll parts + 1
  | .iface _ d => uptoBulk d + 1
  | .map entries => uptoBulkEntries entries + 1
  | .held _ => 1
def uptoBulkAll {H : Type} : List (DataW H) → Nat
  | [] => 0
  | d :: r => uptoBulk d + uptoBulkAll r
def uptoBulkEntries {H : Type} : List (Lit × DataW H) → Nat
  | [] => 0
  | x :: r => uptoBulkEntry x + uptoBulkEntries r
def uptoBulkEntry {H : Type} : Lit × DataW H → Nat
  | (.string bytes, d) => bytes.length + uptoBulk d + 1
  | (_, d) => uptoBulk d + 1
 end
def uptoSmall : (H : Type) → List (DataW H) → Bool := fun _ ds => decide (uptoBulkAll ds ≤ 1048576)
def OpenSpec.upto (s : _root_.Go.ChangeSpec) : _root_.Go.OpenSpec := { _root_.Go.OpenSpec.ofChange s with cond := some uptoSmall }

/-- 'laws.FnExactTurn', WHERE WHAT IT READS IS OF BULK AT MOST 1048576: true; the input reads as it did. -/
def fnExactTurnUptoRow : OpenClaim := { program := "ytkhibgicejcmlam", sum := "12eee6b43a217ec3a11b6627dae94b706cefee52efdf923294a55c83b8fbf417", func := "loop.example/g00211/laws.FnExactTurn", spec := "fnExactTurn", apart := false, narrowed := true }
def FnExactTurnUptoSaid : Prop := fnExactTurnUptoRow.holds Try.pinned (OpenSpec.upto fnExactTurnSpec)

/-- 'laws.FnExactTurnBy', WHERE WHAT IT READS IS OF BULK AT MOST 1048576: true; the input reads as it did. -/
def fnExactTurnByUptoRow : OpenClaim := { program := "ytkhibgicejcmlam", sum := "12eee6b43a217ec3a11b6627dae94b706cefee52efdf923294a55c83b8fbf417", func := "loop.example/g00211/laws.FnExactTurnBy", spec := "fnExactTurnBy", apart := false, narrowed := true }
def FnExactTurnByUptoSaid : Prop := fnExactTurnByUptoRow.holds Try.pinned (OpenSpec.upto fnExactTurnBySpec)

/-- 'laws.FnExactPaint', WHERE WHAT IT READS IS OF BULK AT MOST 1048576: true; the input reads as it did. -/
def fnExactPaintUptoRow : OpenClaim := { program := "ytkhibgicejcmlam", sum := "12eee6b43a217ec3a11b6627dae94b706cefee52efdf923294a55c83b8fbf417", func := "loop.example/g00211/laws.FnExactPaint", spec := "fnExactPaint", inPlace := ["internal/bytealg.MakeNoZero"], apart := false, narrowed := true }
def FnExactPaintUptoSaid : Prop := fnExactPaintUptoRow.holds Try.pinned (OpenSpec.upto fnExactPaintSpec)

/-- 'laws.FnExactHeart', WHERE WHAT IT READS IS OF BULK AT MOST 1048576: true; the input reads as it did. -/
def fnExactHeartUptoRow : OpenClaim := { program := "ytkhibgicejcmlam", sum := "12eee6b43a217ec3a11b6627dae94b706cefee52efdf923294a55c83b8fbf417", func := "loop.example/g00211/laws.FnExactHeart", spec := "fnExactHeart", apart := false, narrowed := true }
def FnExactHeartUptoSaid : Prop := fnExactHeartUptoRow.holds Try.pinned (OpenSpec.upto fnExactHeartSpec)

/-- 'laws.FnExactScan', WHERE WHAT IT READS IS OF BULK AT MOST 1048576: true; the input reads as it did. -/
def fnExactScanUptoRow : OpenClaim := { program := "ytkhibgicejcmlam", sum := "12eee6b43a217ec3a11b6627dae94b706cefee52efdf923294a55c83b8fbf417", func := "loop.example/g00211/laws.FnExactScan", spec := "fnExactScan", inPlace := ["internal/bytealg.MakeNoZero"], apart := false, narrowed := true }
def FnExactScanUptoSaid : Prop := fnExactScanUptoRow.holds Try.pinned (OpenSpec.upto fnExactScanSpec)

/-- 'laws.FnExactTrainOk', WHERE WHAT IT READS IS OF BULK AT MOST 1048576: true; the input reads as it did. -/
def fnExactTrainOkUptoRow : OpenClaim := { program := "ytkhibgicejcmlam", sum := "12eee6b43a217ec3a11b6627dae94b706cefee52efdf923294a55c83b8fbf417", func := "loop.example/g00211/laws.FnExactTrainOk", spec := "fnExactTrainOk", unfollowed := true, recurses := true, apart := false, narrowed := true }
def FnExactTrainOkUptoSaid : Prop := fnExactTrainOkUptoRow.holds Try.pinned (OpenSpec.upto fnExactTrainOkSpec)

end Rows
end Go.Proofs.Ytkhibgicejcmlam

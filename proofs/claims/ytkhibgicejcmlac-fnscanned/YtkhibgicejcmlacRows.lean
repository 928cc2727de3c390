/-
  No cell of these rows narrows 'for every input' (looked for: loops, veiled, ifaces, maps, wideKeys, modest, calm, conditions, laid).
  DERIVED. THE GIVEN ROWS OF THIS SEAT. 4 by the template 'for every input the law returns true; each argument reads behind the call as it read before'; 0 by the template 'total and deterministic' (their statements: YtkhibgicejcmlacTotals.lean).
  GIVEN WITH THE SEED: the statements are not yours to turn. If you find one false, say at which input.
  Laid BY PROGRAM, IN A SANDBOX (cutbox-rows.mjs): the forced cells as the released guide's own fill.sh prints them over the translation 5ac101dfda83a6ca… (all of the seat's roots in one cut). By AI agents, Wed Nov 11 2026. No macro, syntax, notation, axiom, sorry.
-/
import Derived.Test.YtkhibgicejcmlacChecked
import GoSem.Claim
import GoSem.ClaimJoined
import GoSem.ClaimMapViews
import Derived.JoinedTies
import Derived.KernelRfl
namespace Go.Proofs.Ytkhibgicejcmlac
/- THE CELL 'sum', in the pinned program and in every row, IS THE sha256 OF THE DUMP (.gsa) THAT YtkhibgicejcmlacProg.lean LOADS. Nothing in Lean hashes anything: it is a label: what it is worth is what the hold of that sum in a sandbox is worth. -/
noncomputable def Try.pinned : Pinned := { name := "ytkhibgicejcmlac", sum := "5ac101dfda83a6cad9aac123c16c794755b5bdea9fca66a27af75502c6a88824", checked := Try.checked }
namespace Rows
def none {H : Type} : Left H := { results := [], args := [] }

/-- 'laws.FnSpiral': WHATEVER THE INPUT: true; the input reads as it did. -/
def fnSpiralSpec : ChangeSpec := { name := "fnSpiral", fn := fun _ => fun
  | [d] => { results := [.lit (.bool true)], args := [d] }
  | _ => none }
def fnSpiralRow : OpenClaim := { program := "ytkhibgicejcmlac", sum := "5ac101dfda83a6cad9aac123c16c794755b5bdea9fca66a27af75502c6a88824", func := "loop.example/g00211/laws.FnSpiral", spec := "fnSpiral", apart := false }
def FnSpiralSaid : Prop := fnSpiralRow.holds Try.pinned (OpenSpec.ofChange fnSpiralSpec)

/-- ITS FALSE NEIGHBOUR: 'it returns false'. Refute it at one input. -/
def fnSpiralWrong : ChangeSpec := { name := "fnSpiral", fn := fun _ => fun
  | [d] => { results := [.lit (.bool false)], args := [d] }
  | _ => none }
def FnSpiralWrongFalsely : Prop := fnSpiralRow.holds Try.pinned (OpenSpec.ofChange fnSpiralWrong)

/-- 'laws.FnTurn': WHATEVER THE INPUT: true; the input reads as it did. -/
def fnTurnSpec : ChangeSpec := { name := "fnTurn", fn := fun _ => fun
  | [d] => { results := [.lit (.bool true)], args := [d] }
  | _ => none }
def fnTurnRow : OpenClaim := { program := "ytkhibgicejcmlac", sum := "5ac101dfda83a6cad9aac123c16c794755b5bdea9fca66a27af75502c6a88824", func := "loop.example/g00211/laws.FnTurn", spec := "fnTurn", apart := false }
def FnTurnSaid : Prop := fnTurnRow.holds Try.pinned (OpenSpec.ofChange fnTurnSpec)

/-- ITS FALSE NEIGHBOUR: 'it returns false'. Refute it at one input. -/
def fnTurnWrong : ChangeSpec := { name := "fnTurn", fn := fun _ => fun
  | [d] => { results := [.lit (.bool false)], args := [d] }
  | _ => none }
def FnTurnWrongFalsely : Prop := fnTurnRow.holds Try.pinned (OpenSpec.ofChange fnTurnWrong)

/-- 'laws.FnScanned': WHATEVER THE INPUT: true; the input reads as it did. -/
def fnScannedSpec : ChangeSpec := { name := "fnScanned", fn := fun _ => fun
  | [d] => { results := [.lit (.bool true)], args := [d] }
  | _ => none }
def fnScannedRow : OpenClaim := { program := "ytkhibgicejcmlac", sum := "5ac101dfda83a6cad9aac123c16c794755b5bdea9fca66a27af75502c6a88824", func := "loop.example/g00211/laws.FnScanned", spec := "fnScanned", inPlace := ["internal/bytealg.MakeNoZero"], apart := false }
def FnScannedSaid : Prop := fnScannedRow.holds Try.pinned (OpenSpec.ofChange fnScannedSpec)

/-- ITS FALSE NEIGHBOUR: 'it returns false'. Refute it at one input. -/
def fnScannedWrong : ChangeSpec := { name := "fnScanned", fn := fun _ => fun
  | [d] => { results := [.lit (.bool false)], args := [d] }
  | _ => none }
def FnScannedWrongFalsely : Prop := fnScannedRow.holds Try.pinned (OpenSpec.ofChange fnScannedWrong)

/-- 'laws.FnSpot': WHATEVER THE INPUT: true; the input reads as it did. -/
def fnSpotSpec : ChangeSpec := { name := "fnSpot", fn := fun _ => fun
  | [d] => { results := [.lit (.bool true)], args := [d] }
  | _ => none }
def fnSpotRow : OpenClaim := { program := "ytkhibgicejcmlac", sum := "5ac101dfda83a6cad9aac123c16c794755b5bdea9fca66a27af75502c6a88824", func := "loop.example/g00211/laws.FnSpot", spec := "fnSpot", inPlace := ["internal/bytealg.MakeNoZero"], apart := false }
def FnSpotSaid : Prop := fnSpotRow.holds Try.pinned (OpenSpec.ofChange fnSpotSpec)

/-- ITS FALSE NEIGHBOUR: 'it returns false'. Refute it at one input. -/
def fnSpotWrong : ChangeSpec := { name := "fnSpot", fn := fun _ => fun
  | [d] => { results := [.lit (.bool false)], args := [d] }
  | _ => none }
def FnSpotWrongFalsely : Prop := fnSpotRow.holds Try.pinned (OpenSpec.ofChange fnSpotWrong)

/- THE SECOND FORM. 'bulk': how many values and letters a reading holds, each counted each time it is reached (what is shared counts as often as it is met; a slice's spare places count too). A statement '..UptoSaid' is the law's where the arguments, and the package variables that the reading takes, are together of bulk at most 1048576: NARROWER than '..Said'. Prove '..Said' where nothing that the law and all that it calls make is longer than what came in: it says more and counts as full. Else prove '..UptoSaid'. A law counts once. -/
mutual
def uptoBulk {H : Type} : DataW H → Nat
  | .lit (.string bytes) => bytes.length + 1
  | .lit _ => 1
  | .nil => 1
  | .ptr d => uptoBulk d + 1
  | .slice elems spare => uptoBulkAll elems + uptoBulkAll spare + 1
  | .agg parts => uptoBulkAll parts + 1
  | .iface _ d => uptoBulk d + 1
  | .map entries => uptoBulkEntries entries + 1
  | .held _ => 1
def uptoBulkAll {H : Type} : List (DataW H) → Nat
  | [] => 0
  | d :: r => uptoBulk d + uptoBulkAll r
def uptoBulkEntries {H : Type} : List (Lit × DataW H) → Nat
  | [] => 0
  | x :: r => uptoBulkEntry x + uptoBulkEntries r
def uptoBulkEntry {H : Type} : Lit × DataW H → Nat
  | (.string bytes, d) => bytes.length + uptoBulk d + 1
  | (_, d) => uptoBulk d + 1
 end
def uptoSmall : (H : Type) → List (DataW H) → Bool := fun _ ds => decide (uptoBulkAll ds ≤ 1048576)
def OpenSpec.upto (s : _root_.Go.ChangeSpec) : _root_.Go.OpenSpec := { _root_.Go.OpenSpec.ofChange s with cond := some uptoSmall }

/-- 'laws.FnSpiral', WHERE WHAT IT READS IS OF BULK AT MOST 1048576: true; the input reads as it did. -/
def fnSpiralUptoRow : OpenClaim := { program := "ytkhibgicejcmlac", sum := "5ac101dfda83a6cad9aac123c16c794755b5bdea9fca66a27af75502c6a88824", func := "loop.example/g00211/laws.FnSpiral", spec := "fnSpiral", apart := false, narrowed := true }
def FnSpiralUptoSaid : Prop := fnSpiralUptoRow.holds Try.pinned (OpenSpec.upto fnSpiralSpec)

/-- 'laws.FnTurn', WHERE WHAT IT READS IS OF BULK AT MOST 1048576: true; the input reads as it did. -/
def fnTurnUptoRow : OpenClaim := { program := "ytkhibgicejcmlac", sum := "5ac101dfda83a6cad9aac123c16c794755b5bdea9fca66a27af75502c6a88824", func := "loop.example/g00211/laws.FnTurn", spec := "fnTurn", apart := false, narrowed := true }
def FnTurnUptoSaid : Prop := fnTurnUptoRow.holds Try.pinned (OpenSpec.upto fnTurnSpec)

/-- 'laws.FnScanned', WHERE WHAT IT READS IS OF BULK AT MOST 1048576: true; the input reads as it did. -/
def fnScannedUptoRow : OpenClaim := { program := "ytkhibgicejcmlac", sum := "5ac101dfda83a6cad9aac123c16c794755b5bdea9fca66a27af75502c6a88824", func := "loop.example/g00211/laws.FnScanned", spec := "fnScanned", inPlace := ["internal/bytealg.MakeNoZero"], apart := false, narrowed := true }
def FnScannedUptoSaid : Prop := fnScannedUptoRow.holds Try.pinned (OpenSpec.upto fnScannedSpec)

/-- 'laws.FnSpot', WHERE WHAT IT READS IS OF BULK AT MOST 1048576: true; the input reads as it did. -/
def fnSpotUptoRow : OpenClaim := { program := "ytkhibgicejcmlac", sum := "5ac101dfda83a6cad9aac123c16c794755b5bdea9fca66a27af75502c6a88824", func := "loop.example/g00211/laws.FnSpot", spec := "fnSpot", inPlace := ["internal/bytealg.MakeNoZero"], apart := false, narrowed := true }
def FnSpotUptoSaid : Prop := fnSpotUptoRow.holds Try.pinned (OpenSpec.upto fnSpotSpec)

end Rows
end Go.Proofs.Ytkhibgicejcmlac

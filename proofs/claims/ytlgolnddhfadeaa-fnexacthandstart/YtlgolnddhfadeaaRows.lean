/-
  No cell of these rows narrows 'for every input' (looked for: loops, veiled, ifaces, maps, wideKeys, modest, calm, conditions, laid).
  DERIVED. THE GIVEN ROWS OF THIS SEAT. 3 by the template 'for every input the law returns true; each argument reads behind the call as it read before'; 0 by the template 'total and deterministic' (their statements: YtlgolnddhfadeaaTotals.lean).
  GIVEN WITH THE SEED: the statements are not yours to turn. If you find one false, say at which input.
  Laid BY PROGRAM, IN A SANDBOX (cutbox-rows.mjs): the forced cells as the released guide's own fill.sh prints them over the translation 2a14eda33eaff5cc… (all of the seat's roots in one cut). By AI agents, Wed Nov 11 2026. No macro, syntax, notation, axiom, sorry.
-/
import Derived.Test.YtlgolnddhfadeaaChecked
import GoSem.Claim
import GoSem.ClaimJoined
import GoSem.ClaimMapViews
import Derived.JoinedTies
import Derived.KernelRfl
namespace Go.Proofs.Ytlgolnddhfadeaa
/- THE CELL 'sum', in the pinned program and in every row, IS THE sha256 OF THE DUMP (.gsa) THAT YtlgolnddhfadeaaProg.lean LOADS. Nothing in Lean hashes anything: it is a label: what it is worth is what the hold of that sum in a sandbox is worth. -/
noncomputable def Try.pinned : Pinned := { name := "ytlgolnddhfadeaa", sum := "2a14eda33eaff5cc47ca93cb13d7d8e253e07137db2297a4e6fef883004f4aa6", checked := Try.checked }
namespace Rows
def none {H : Type} : Left H := { results := [], args := [] }

/-- 'laws.FnExactOffOk': WHATEVER THE INPUT: true; the input reads as it did. -/
def fnExactOffOkSpec : ChangeSpec := { name := "fnExactOffOk", fn := fun _ => fun
  | [d] => { results := [.lit (.bool true)], args := [d] }
  | _ => none }
def fnExactOffOkRow : OpenClaim := { program := "ytlgolnddhfadeaa", sum := "2a14eda33eaff5cc47ca93cb13d7d8e253e07137db2297a4e6fef883004f4aa6", func := "loop.example/g00211/laws.FnExactOffOk", spec := "fnExactOffOk", apart := false }
def FnExactOffOkSaid : Prop := fnExactOffOkRow.holds Try.pinned (OpenSpec.ofChange fnExactOffOkSpec)

/-- ITS FALSE NEIGHBOUR: 'it returns false'. Refute it at one input. -/
def fnExactOffOkWrong : ChangeSpec := { name := "fnExactOffOk", fn := fun _ => fun
  | [d] => { results := [.lit (.bool false)], args := [d] }
  | _ => none }
def FnExactOffOkWrongFalsely : Prop := fnExactOffOkRow.holds Try.pinned (OpenSpec.ofChange fnExactOffOkWrong)

/-- 'laws.FnExactHandOk': WHATEVER THE INPUT: true; the input reads as it did. -/
def fnExactHandOkSpec : ChangeSpec := { name := "fnExactHandOk", fn := fun _ => fun
  | [d] => { results := [.lit (.bool true)], args := [d] }
  | _ => none }
def fnExactHandOkRow : OpenClaim := { program := "ytlgolnddhfadeaa", sum := "2a14eda33eaff5cc47ca93cb13d7d8e253e07137db2297a4e6fef883004f4aa6", func := "loop.example/g00211/laws.FnExactHandOk", spec := "fnExactHandOk", apart := false }
def FnExactHandOkSaid : Prop := fnExactHandOkRow.holds Try.pinned (OpenSpec.ofChange fnExactHandOkSpec)

/-- ITS FALSE NEIGHBOUR: 'it returns false'. Refute it at one input. -/
def fnExactHandOkWrong : ChangeSpec := { name := "fnExactHandOk", fn := fun _ => fun
  | [d] => { results := [.lit (.bool false)], args := [d] }
  | _ => none }
def FnExactHandOkWrongFalsely : Prop := fnExactHandOkRow.holds Try.pinned (OpenSpec.ofChange fnExactHandOkWrong)

/-- 'laws.FnExactHandStart': WHATEVER THE INPUT: true; the input reads as it did. -/
def fnExactHandStartSpec : ChangeSpec := { name := "fnExactHandStart", fn := fun _ => fun
  | [d1, d2, d3, d4] => { results := [.lit (.bool true)], args := [d1, d2, d3, d4] }
  | _ => none }
def fnExactHandStartRow : OpenClaim := { program := "ytlgolnddhfadeaa", sum := "2a14eda33eaff5cc47ca93cb13d7d8e253e07137db2297a4e6fef883004f4aa6", func := "loop.example/g00211/laws.FnExactHandStart", spec := "fnExactHandStart", apart := false }
def FnExactHandStartSaid : Prop := fnExactHandStartRow.holds Try.pinned (OpenSpec.ofChange fnExactHandStartSpec)

/-- ITS FALSE NEIGHBOUR: 'it returns false'. Refute it at one input. -/
def fnExactHandStartWrong : ChangeSpec := { name := "fnExactHandStart", fn := fun _ => fun
  | [d1, d2, d3, d4] => { results := [.lit (.bool false)], args := [d1, d2, d3, d4] }
  | _ => none }
def FnExactHandStartWrongFalsely : Prop := fnExactHandStartRow.holds Try.pinned (OpenSpec.ofChange fnExactHandStartWrong)

/- THE SECOND FORM. 'bulk': how many values and letters a reading holds, each counted each time it is reached (what is shared counts as often as it is met; a slice's spare places count too). A statement '..UptoSaid' is the law's where the arguments, and the package variables that the reading takes, are together of bulk at most 1048576: NARROWER than '..Said'. Prove '..Said' where nothing that the law and all that it calls make is longer than what came in: it says more and counts as full. Else prove '..UptoSaid'. A law counts once. -/
mutual
def uptoBulk {H : Type} : DataW H → Nat
  | .lit (.string bytes) => bytes.length + 1
  | .lit _ => 1
  | .nil => 1
  | .ptr d => uptoBulk d + 1
  | .slice elems spare => uptoBulkAll elems + uptoBulkAll spare + 1
  | .agg parts => uptoBulkAll parts + 1
  | .iface _ d => uptoBulk d + 1
  | .map entries => uptoBulkEntries entries + 1
  | .held _ => 1
def uptoBulkAll {H : Type} : List (DataW H) → Nat
  | [] => 0
  | d :: r => uptoBulk d + uptoBulkAll r
def uptoBulkEntries {H : Type} : List (Lit × DataW H) → Nat
  | [] => 0
  | x :: r => uptoBulkEntry x + uptoBulkEntries r
def uptoBulkEntry {H : Type} : Lit × DataW H → Nat
  | (.string bytes, d) => bytes.length + uptoBulk d + 1
  | (_, d) => uptoBulk d + 1
 end
def uptoSmall : (H : Type) → List (DataW H) → Bool := fun _ ds => decide (uptoBulkAll ds ≤ 1048576)
def OpenSpec.upto (s : _root_.Go.ChangeSpec) : _root_.Go.OpenSpec := { _root_.Go.OpenSpec.ofChange s with cond := some uptoSmall }

/-- 'laws.FnExactOffOk', WHERE WHAT IT READS IS OF BULK AT MOST 1048576: true; the input reads as it did. -/
def fnExactOffOkUptoRow : OpenClaim := { program := "ytlgolnddhfadeaa", sum := "2a14eda33eaff5cc47ca93cb13d7d8e253e07137db2297a4e6fef883004f4aa6", func := "loop.example/g00211/laws.FnExactOffOk", spec := "fnExactOffOk", apart := false, narrowed := true }
def FnExactOffOkUptoSaid : Prop := fnExactOffOkUptoRow.holds Try.pinned (OpenSpec.upto fnExactOffOkSpec)

/-- 'laws.FnExactHandOk', WHERE WHAT IT READS IS OF BULK AT MOST 1048576: true; the input reads as it did. -/
def fnExactHandOkUptoRow : OpenClaim := { program := "ytlgolnddhfadeaa", sum := "2a14eda33eaff5cc47ca93cb13d7d8e253e07137db2297a4e6fef883004f4aa6", func := "loop.example/g00211/laws.FnExactHandOk", spec := "fnExactHandOk", apart := false, narrowed := true }
def FnExactHandOkUptoSaid : Prop := fnExactHandOkUptoRow.holds Try.pinned (OpenSpec.upto fnExactHandOkSpec)

/-- 'laws.FnExactHandStart', WHERE WHAT IT READS IS OF BULK AT MOST 1048576: true; the input reads as it did. -/
def fnExactHandStartUptoRow : OpenClaim := { program := "ytlgolnddhfadeaa", sum := "2a14eda33eaff5cc47ca93cb13d7d8e253e07137db2297a4e6fef883004f4aa6", func := "loop.example/g00211/laws.FnExactHandStart", spec := "fnExactHandStart", apart := false, narrowed := true }
def FnExactHandStartUptoSaid : Prop := fnExactHandStartUptoRow.holds Try.pinned (OpenSpec.upto fnExactHandStartSpec)

end Rows
end Go.Proofs.Ytlgolnddhfadeaa

/-
  No cell of these rows narrows 'for every input' (looked for: loops, veiled, ifaces, maps, wideKeys, modest, calm, conditions, laid).
  DERIVED. THE GIVEN ROWS OF THIS SEAT. 3 by the template 'for every input the law returns true; each argument reads behind the call as it read before'; 0 by the template 'total and deterministic' (their statements: YthlonhdjmjmkmalTotals.lean).
  GIVEN WITH THE SEED: the statements are not yours to turn. If you find one false, say at which input.
  Laid BY PROGRAM, IN A SANDBOX (cutbox-rows.mjs): the forced cells as the released guide's own fill.sh prints them over the translation bf77eb9f49b13b27… (all of the seat's roots in one cut). By AI agents, Wed Nov 11 2026. No macro, syntax, notation, axiom, sorry.
-/
import Derived.Test.YthlonhdjmjmkmalChecked
import GoSem.Claim
import GoSem.ClaimJoined
import GoSem.ClaimMapViews
import Derived.JoinedTies
import Derived.KernelRfl
namespace Go.Proofs.Ythlonhdjmjmkmal
/- THE CELL 'sum', in the pinned program and in every row, IS THE sha256 OF THE DUMP (.gsa) THAT YthlonhdjmjmkmalProg.lean LOADS. Nothing in Lean hashes anything: it is a label: what it is worth is what the hold of that sum in a sandbox is worth. -/
noncomputable def Try.pinned : Pinned := { name := "ythlonhdjmjmkmal", sum := "bf77eb9f49b13b27d662a916e375c3b36fe18b2705ea032ad1bb4fbe828cfa00", checked := Try.checked }
namespace Rows
def none {H : Type} : Left H := { results := [], args := [] }

/-- 'laws.FnExactSquareOk': WHATEVER THE INPUT: true; the input reads as it did. -/
def fnExactSquareOkSpec : ChangeSpec := { name := "fnExactSquareOk", fn := fun _ => fun
  | [d] => { results := [.lit (.bool true)], args := [d] }
  | _ => none }
def fnExactSquareOkRow : OpenClaim := { program := "ythlonhdjmjmkmal", sum := "bf77eb9f49b13b27d662a916e375c3b36fe18b2705ea032ad1bb4fbe828cfa00", func := "loop.example/g00211/laws.FnExactSquareOk", spec := "fnExactSquareOk", apart := false }
def FnExactSquareOkSaid : Prop := fnExactSquareOkRow.holds Try.pinned (OpenSpec.ofChange fnExactSquareOkSpec)

/-- ITS FALSE NEIGHBOUR: 'it returns false'. Refute it at one input. -/
def fnExactSquareOkWrong : ChangeSpec := { name := "fnExactSquareOk", fn := fun _ => fun
  | [d] => { results := [.lit (.bool false)], args := [d] }
  | _ => none }
def FnExactSquareOkWrongFalsely : Prop := fnExactSquareOkRow.holds Try.pinned (OpenSpec.ofChange fnExactSquareOkWrong)

/-- 'laws.FnExactDarkAt': WHATEVER THE INPUT: true; the input reads as it did. -/
def fnExactDarkAtSpec : ChangeSpec := { name := "fnExactDarkAt", fn := fun _ => fun
  | [d1, d2, d3] => { results := [.lit (.bool true)], args := [d1, d2, d3] }
  | _ => none }
def fnExactDarkAtRow : OpenClaim := { program := "ythlonhdjmjmkmal", sum := "bf77eb9f49b13b27d662a916e375c3b36fe18b2705ea032ad1bb4fbe828cfa00", func := "loop.example/g00211/laws.FnExactDarkAt", spec := "fnExactDarkAt", apart := false }
def FnExactDarkAtSaid : Prop := fnExactDarkAtRow.holds Try.pinned (OpenSpec.ofChange fnExactDarkAtSpec)

/-- ITS FALSE NEIGHBOUR: 'it returns false'. Refute it at one input. -/
def fnExactDarkAtWrong : ChangeSpec := { name := "fnExactDarkAt", fn := fun _ => fun
  | [d1, d2, d3] => { results := [.lit (.bool false)], args := [d1, d2, d3] }
  | _ => none }
def FnExactDarkAtWrongFalsely : Prop := fnExactDarkAtRow.holds Try.pinned (OpenSpec.ofChange fnExactDarkAtWrong)

/-- 'laws.FnExactSpiral': WHATEVER THE INPUT: true; the input reads as it did. -/
def fnExactSpiralSpec : ChangeSpec := { name := "fnExactSpiral", fn := fun _ => fun
  | [d] => { results := [.lit (.bool true)], args := [d] }
  | _ => none }
def fnExactSpiralRow : OpenClaim := { program := "ythlonhdjmjmkmal", sum := "bf77eb9f49b13b27d662a916e375c3b36fe18b2705ea032ad1bb4fbe828cfa00", func := "loop.example/g00211/laws.FnExactSpiral", spec := "fnExactSpiral", apart := false }
def FnExactSpiralSaid : Prop := fnExactSpiralRow.holds Try.pinned (OpenSpec.ofChange fnExactSpiralSpec)

/-- ITS FALSE NEIGHBOUR: 'it returns false'. Refute it at one input. -/
def fnExactSpiralWrong : ChangeSpec := { name := "fnExactSpiral", fn := fun _ => fun
  | [d] => { results := [.lit (.bool false)], args := [d] }
  | _ => none }
def FnExactSpiralWrongFalsely : Prop := fnExactSpiralRow.holds Try.pinned (OpenSpec.ofChange fnExactSpiralWrong)

/- THE SECOND FORM. 'bulk': how many values and letters a reading holds, each counted each time it is reached (what is shared counts as often as it is met; a slice's spare places count too). A statement '..UptoSaid' is the law's where the arguments, and the package variables that the reading takes, are together of bulk at most 1048576: NARROWER than '..Said'. Prove '..Said' where nothing that the law and all that it calls make is longer than what came in: it says more and counts as full. Else prove '..UptoSaid'. A law counts once. -/
mutual
def uptoBulk {H : Type} : DataW H → Nat
  | .lit (.string bytes) => bytes.length + 1
  | .lit _ => 1
  | .nil => 1
  | .ptr d => uptoBulk d + 1
  | .slice elems spare => uptoBulkAll elems + uptoBulkAll spare + 1
  | .agg parts => uptoBulkAll parts + 1
  | .iface _ d => uptoBulk d + 1
  | .map entries => uptoBulkEntries entries + 1
  | .held _ => 1
def uptoBulkAll {H : Type} : List (DataW H) → Nat
  | [] => 0
  | d :: r => uptoBulk d + uptoBulkAll r
def uptoBulkEntries {H : Type} : List (Lit × DataW H) → Nat
  | [] => 0
  | x :: r => uptoBulkEntry x + uptoBulkEntries r
def uptoBulkEntry {H : Type} : Lit × DataW H → Nat
  | (.string bytes, d) => bytes.length + uptoBulk d + 1
  | (_, d) => uptoBulk d + 1
 end
def uptoSmall : (H : Type) → List (DataW H) → Bool := fun _ ds => decide (uptoBulkAll ds ≤ 1048576)
def OpenSpec.upto (s : _root_.Go.ChangeSpec) : _root_.Go.OpenSpec := { _root_.Go.OpenSpec.ofChange s with cond := some uptoSmall }

/-- 'laws.FnExactSquareOk', WHERE WHAT IT READS IS OF BULK AT MOST 1048576: true; the input reads as it did. -/
def fnExactSquareOkUptoRow : OpenClaim := { program := "ythlonhdjmjmkmal", sum := "bf77eb9f49b13b27d662a916e375c3b36fe18b2705ea032ad1bb4fbe828cfa00", func := "loop.example/g00211/laws.FnExactSquareOk", spec := "fnExactSquareOk", apart := false, narrowed := true }
def FnExactSquareOkUptoSaid : Prop := fnExactSquareOkUptoRow.holds Try.pinned (OpenSpec.upto fnExactSquareOkSpec)

/-- 'laws.FnExactDarkAt', WHERE WHAT IT READS IS OF BULK AT MOST 1048576: true; the input reads as it did. -/
def fnExactDarkAtUptoRow : OpenClaim := { program := "ythlonhdjmjmkmal", sum := "bf77eb9f49b13b27d662a916e375c3b36fe18b2705ea032ad1bb4fbe828cfa00", func := "loop.example/g00211/laws.FnExactDarkAt", spec := "fnExactDarkAt", apart := false, narrowed := true }
def FnExactDarkAtUptoSaid : Prop := fnExactDarkAtUptoRow.holds Try.pinned (OpenSpec.upto fnExactDarkAtSpec)

/-- 'laws.FnExactSpiral', WHERE WHAT IT READS IS OF BULK AT MOST 1048576: true; the input reads as it did. -/
def fnExactSpiralUptoRow : OpenClaim := { program := "ythlonhdjmjmkmal", sum := "bf77eb9f49b13b27d662a916e375c3b36fe18b2705ea032ad1bb4fbe828cfa00", func := "loop.example/g00211/laws.FnExactSpiral", spec := "fnExactSpiral", apart := false, narrowed := true }
def FnExactSpiralUptoSaid : Prop := fnExactSpiralUptoRow.holds Try.pinned (OpenSpec.upto fnExactSpiralSpec)

end Rows
end Go.Proofs.Ythlonhdjmjmkmal

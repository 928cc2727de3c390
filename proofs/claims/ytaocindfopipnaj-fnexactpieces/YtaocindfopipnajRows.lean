/-
  No cell of these rows narrows 'for every input' (looked for: loops, veiled, ifaces, maps, wideKeys, modest, calm, conditions, laid).
  DERIVED. THE GIVEN ROWS OF THIS SEAT. 4 by the template 'for every input the law returns true; each argument reads behind the call as it read before'; 0 by the template 'total and deterministic' (their statements: YtaocindfopipnajTotals.lean).
  GIVEN WITH THE SEED: the statements are not yours to turn. If you find one false, say at which input.
  Laid BY PROGRAM, IN A SANDBOX (cutbox-rows.mjs): the forced cells as the released guide's own fill.sh prints them over the translation 35c06e6ba724e8e3… (all of the seat's roots in one cut). By AI agents, Wed Nov 11 2026. No macro, syntax, notation, axiom, sorry.
-/
import Derived.Test.YtaocindfopipnajChecked
import GoSem.Claim
import GoSem.ClaimJoined
import GoSem.ClaimMapViews
import Derived.JoinedTies
import Derived.KernelRfl
namespace Go.Proofs.Ytaocindfopipnaj
/- THE CELL 'sum', in the pinned program and in every row, IS THE sha256 OF THE DUMP (.gsa) THAT YtaocindfopipnajProg.lean LOADS. Nothing in Lean hashes anything: it is a label: what it is worth is what the hold of that sum in a sandbox is worth. -/
noncomputable def Try.pinned : Pinned := { name := "ytaocindfopipnaj", sum := "35c06e6ba724e8e33ec1a792b793ed41f86b4ae2495b744c3ccf7db55d94c17c", checked := Try.checked }
namespace Rows
def none {H : Type} : Left H := { results := [], args := [] }

/-- 'laws.FnExactPieces': WHATEVER THE INPUT: true; the input reads as it did. -/
def fnExactPiecesSpec : ChangeSpec := { name := "fnExactPieces", fn := fun _ => fun
  | [d] => { results := [.lit (.bool true)], args := [d] }
  | _ => none }
def fnExactPiecesRow : OpenClaim := { program := "ytaocindfopipnaj", sum := "35c06e6ba724e8e33ec1a792b793ed41f86b4ae2495b744c3ccf7db55d94c17c", func := "loop.example/g00211/laws.FnExactPieces", spec := "fnExactPieces", plainKeys := false, apart := false }
def FnExactPiecesSaid : Prop := fnExactPiecesRow.holds Try.pinned (OpenSpec.ofChange fnExactPiecesSpec)

/-- ITS FALSE NEIGHBOUR: 'it returns false'. Refute it at one input. -/
def fnExactPiecesWrong : ChangeSpec := { name := "fnExactPieces", fn := fun _ => fun
  | [d] => { results := [.lit (.bool false)], args := [d] }
  | _ => none }
def FnExactPiecesWrongFalsely : Prop := fnExactPiecesRow.holds Try.pinned (OpenSpec.ofChange fnExactPiecesWrong)

/-- 'laws.FnExactWhole': WHATEVER THE INPUT: true; the input reads as it did. -/
def fnExactWholeSpec : ChangeSpec := { name := "fnExactWhole", fn := fun _ => fun
  | [d] => { results := [.lit (.bool true)], args := [d] }
  | _ => none }
def fnExactWholeRow : OpenClaim := { program := "ytaocindfopipnaj", sum := "35c06e6ba724e8e33ec1a792b793ed41f86b4ae2495b744c3ccf7db55d94c17c", func := "loop.example/g00211/laws.FnExactWhole", spec := "fnExactWhole", plainKeys := false, apart := false }
def FnExactWholeSaid : Prop := fnExactWholeRow.holds Try.pinned (OpenSpec.ofChange fnExactWholeSpec)

/-- ITS FALSE NEIGHBOUR: 'it returns false'. Refute it at one input. -/
def fnExactWholeWrong : ChangeSpec := { name := "fnExactWhole", fn := fun _ => fun
  | [d] => { results := [.lit (.bool false)], args := [d] }
  | _ => none }
def FnExactWholeWrongFalsely : Prop := fnExactWholeRow.holds Try.pinned (OpenSpec.ofChange fnExactWholeWrong)

/-- 'laws.FnExactLenCode': WHATEVER THE INPUT: true; the input reads as it did. -/
def fnExactLenCodeSpec : ChangeSpec := { name := "fnExactLenCode", fn := fun _ => fun
  | [d] => { results := [.lit (.bool true)], args := [d] }
  | _ => none }
def fnExactLenCodeRow : OpenClaim := { program := "ytaocindfopipnaj", sum := "35c06e6ba724e8e33ec1a792b793ed41f86b4ae2495b744c3ccf7db55d94c17c", func := "loop.example/g00211/laws.FnExactLenCode", spec := "fnExactLenCode", plainKeys := false, apart := false }
def FnExactLenCodeSaid : Prop := fnExactLenCodeRow.holds Try.pinned (OpenSpec.ofChange fnExactLenCodeSpec)

/-- ITS FALSE NEIGHBOUR: 'it returns false'. Refute it at one input. -/
def fnExactLenCodeWrong : ChangeSpec := { name := "fnExactLenCode", fn := fun _ => fun
  | [d] => { results := [.lit (.bool false)], args := [d] }
  | _ => none }
def FnExactLenCodeWrongFalsely : Prop := fnExactLenCodeRow.holds Try.pinned (OpenSpec.ofChange fnExactLenCodeWrong)

/-- 'laws.FnExactBackCode': WHATEVER THE INPUT: true; the input reads as it did. -/
def fnExactBackCodeSpec : ChangeSpec := { name := "fnExactBackCode", fn := fun _ => fun
  | [d] => { results := [.lit (.bool true)], args := [d] }
  | _ => none }
def fnExactBackCodeRow : OpenClaim := { program := "ytaocindfopipnaj", sum := "35c06e6ba724e8e33ec1a792b793ed41f86b4ae2495b744c3ccf7db55d94c17c", func := "loop.example/g00211/laws.FnExactBackCode", spec := "fnExactBackCode", plainKeys := false, apart := false }
def FnExactBackCodeSaid : Prop := fnExactBackCodeRow.holds Try.pinned (OpenSpec.ofChange fnExactBackCodeSpec)

/-- ITS FALSE NEIGHBOUR: 'it returns false'. Refute it at one input. -/
def fnExactBackCodeWrong : ChangeSpec := { name := "fnExactBackCode", fn := fun _ => fun
  | [d] => { results := [.lit (.bool false)], args := [d] }
  | _ => none }
def FnExactBackCodeWrongFalsely : Prop := fnExactBackCodeRow.holds Try.pinned (OpenSpec.ofChange fnExactBackCodeWrong)

/- THE SECOND FORM. 'bulk': how many values and letters a reading holds, each counted each time it is reached (what is shared counts as often as it is met; a slice's spare places count too). A statement '..UptoSaid' is the law's where the arguments, and the package variables that the reading takes, are together of bulk at most 1048576: NARROWER than '..Said'. Prove '..Said' where nothing that the law and all that it calls make is longer than what came in: it says more and counts as full. Else prove '..UptoSaid'. A law counts once. -/
mutual
def uptoBulk {H : Type} : DataW H → Nat
  | .lit (.string bytes) => bytes.length + 1
  | .lit _ => 1
  | .nil => 1
  | .ptr d => uptoBulk d + 1
  | .slice elems spare => uptoBulkAll elems + uptoBulkAll spare + 1
  | .agg parts => uptoBulkAll parts + 1
  | .iface _ d => uptoBulk d + 1
  | .map entries => uptoBulkEntries entries + 1
  | .held _ => 1
def uptoBulkAll {H : Type} : List (DataW H) → Nat
  | [] => 0
  | d :: r => uptoBulk d + uptoBulkAll r
def uptoBulkEntries {H : Type} : List (Lit × DataW H) → Nat
  | [] => 0
  | x :: r => uptoBulkEntry x + uptoBulkEntries r
def uptoBulkEntry {H : Type} : Lit × DataW H → Nat
  | (.string bytes, d) => bytes.length + uptoBulk d + 1
  | (_, d) => uptoBulk d + 1
 end
def uptoSmall : (H : Type) → List (DataW H) → Bool := fun _ ds => decide (uptoBulkAll ds ≤ 1048576)
def OpenSpec.upto (s : _root_.Go.ChangeSpec) : _root_.Go.OpenSpec := { _root_.Go.OpenSpec.ofChange s with cond := some uptoSmall }

/-- 'laws.FnExactPieces', WHERE WHAT IT READS IS OF BULK AT MOST 1048576: true; the input reads as it did. -/
def fnExactPiecesUptoRow : OpenClaim := { program := "ytaocindfopipnaj", sum := "35c06e6ba724e8e33ec1a792b793ed41f86b4ae2495b744c3ccf7db55d94c17c", func := "loop.example/g00211/laws.FnExactPieces", spec := "fnExactPieces", plainKeys := false, apart := false, narrowed := true }
def FnExactPiecesUptoSaid : Prop := fnExactPiecesUptoRow.holds Try.pinned (OpenSpec.upto fnExactPiecesSpec)

/-- 'laws.FnExactWhole', WHERE WHAT IT READS IS OF BULK AT MOST 1048576: true; the input reads as it did. -/
def fnExactWholeUptoRow : OpenClaim := { program := "ytaocindfopipnaj", sum := "35c06e6ba724e8e33ec1a792b793ed41f86b4ae2495b744c3ccf7db55d94c17c", func := "loop.example/g00211/laws.FnExactWhole", spec := "fnExactWhole", plainKeys := false, apart := false, narrowed := true }
def FnExactWholeUptoSaid : Prop := fnExactWholeUptoRow.holds Try.pinned (OpenSpec.upto fnExactWholeSpec)

/-- 'laws.FnExactLenCode', WHERE WHAT IT READS IS OF BULK AT MOST 1048576: true; the input reads as it did. -/
def fnExactLenCodeUptoRow : OpenClaim := { program := "ytaocindfopipnaj", sum := "35c06e6ba724e8e33ec1a792b793ed41f86b4ae2495b744c3ccf7db55d94c17c", func := "loop.example/g00211/laws.FnExactLenCode", spec := "fnExactLenCode", plainKeys := false, apart := false, narrowed := true }
def FnExactLenCodeUptoSaid : Prop := fnExactLenCodeUptoRow.holds Try.pinned (OpenSpec.upto fnExactLenCodeSpec)

/-- 'laws.FnExactBackCode', WHERE WHAT IT READS IS OF BULK AT MOST 1048576: true; the input reads as it did. -/
def fnExactBackCodeUptoRow : OpenClaim := { program := "ytaocindfopipnaj", sum := "35c06e6ba724e8e33ec1a792b793ed41f86b4ae2495b744c3ccf7db55d94c17c", func := "loop.example/g00211/laws.FnExactBackCode", spec := "fnExactBackCode", plainKeys := false, apart := false, narrowed := true }
def FnExactBackCodeUptoSaid : Prop := fnExactBackCodeUptoRow.holds Try.pinned (OpenSpec.upto fnExactBackCodeSpec)

end Rows
end Go.Proofs.Ytaocindfopipnaj

/-
  No cell of these rows narrows 'for every input' (looked for: loops, veiled, ifaces, maps, wideKeys, modest, calm, conditions, laid).
  DERIVED. THE GIVEN ROWS OF THIS SEAT. 2 by the template 'for every input the law returns true; each argument reads behind the call as it read before'; 0 by the template 'total and deterministic' (their statements: YthdenegheninaaiTotals.lean).
  GIVEN WITH THE SEED: the statements are not yours to turn. If you find one false, say at which input.
  Laid BY PROGRAM, IN A SANDBOX (cutbox-rows.mjs): the forced cells as the released guide's own fill.sh prints them over the translation d21c20f3b4d41b37… (all of the seat's roots in one cut). By AI agents, Wed Nov 11 2026. No macro, syntax, notation, axiom, sorry.
-/
import Derived.Test.YthdenegheninaaiChecked
import GoSem.Claim
import GoSem.ClaimJoined
import GoSem.ClaimMapViews
import Derived.JoinedTies
import Derived.KernelRfl
namespace Go.Proofs.Ythdenegheninaai
/- THE CELL 'sum', in the pinned program and in every row, IS THE sha256 OF THE DUMP (.gsa) THAT YthdenegheninaaiProg.lean LOADS. Nothing in Lean hashes anything: it is a label: what it is worth is what the hold of that sum in a sandbox is worth. -/
noncomputable def Try.pinned : Pinned := { name := "ythdenegheninaai", sum := "d21c20f3b4d41b370ae073991c3b71f596c83af6bc2d12bb1e0c4cfb761cc55f", checked := Try.checked }
namespace Rows
def none {H : Type} : Left H := { results := [], args := [] }

/-- 'laws.FnExactMarkText': WHATEVER THE INPUT: true; the input reads as it did. -/
def fnExactMarkTextSpec : ChangeSpec := { name := "fnExactMarkText", fn := fun _ => fun
  | [d] => { results := [.lit (.bool true)], args := [d] }
  | _ => none }
def fnExactMarkTextRow : OpenClaim := { program := "ythdenegheninaai", sum := "d21c20f3b4d41b370ae073991c3b71f596c83af6bc2d12bb1e0c4cfb761cc55f", func := "loop.example/g00211/laws.FnExactMarkText", spec := "fnExactMarkText", apart := false }
def FnExactMarkTextSaid : Prop := fnExactMarkTextRow.holds Try.pinned (OpenSpec.ofChange fnExactMarkTextSpec)

/-- ITS FALSE NEIGHBOUR: 'it returns false'. Refute it at one input. -/
def fnExactMarkTextWrong : ChangeSpec := { name := "fnExactMarkText", fn := fun _ => fun
  | [d] => { results := [.lit (.bool false)], args := [d] }
  | _ => none }
def FnExactMarkTextWrongFalsely : Prop := fnExactMarkTextRow.holds Try.pinned (OpenSpec.ofChange fnExactMarkTextWrong)

/-- 'laws.FnExactReadMark': WHATEVER THE INPUT: true; the input reads as it did. -/
def fnExactReadMarkSpec : ChangeSpec := { name := "fnExactReadMark", fn := fun _ => fun
  | [d] => { results := [.lit (.bool true)], args := [d] }
  | _ => none }
def fnExactReadMarkRow : OpenClaim := { program := "ythdenegheninaai", sum := "d21c20f3b4d41b370ae073991c3b71f596c83af6bc2d12bb1e0c4cfb761cc55f", func := "loop.example/g00211/laws.FnExactReadMark", spec := "fnExactReadMark", apart := false }
def FnExactReadMarkSaid : Prop := fnExactReadMarkRow.holds Try.pinned (OpenSpec.ofChange fnExactReadMarkSpec)

/-- ITS FALSE NEIGHBOUR: 'it returns false'. Refute it at one input. -/
def fnExactReadMarkWrong : ChangeSpec := { name := "fnExactReadMark", fn := fun _ => fun
  | [d] => { results := [.lit (.bool false)], args := [d] }
  | _ => none }
def FnExactReadMarkWrongFalsely : Prop := fnExactReadMarkRow.holds Try.pinned (OpenSpec.ofChange fnExactReadMarkWrong)

/- THE SECOND FORM. 'bulk': how many values and letters a reading holds, each counted each time it is reached (what is shared counts as often as it is met; a slice's spare places count too). A statement '..UptoSaid' is the law's where the arguments, and the package variables that the reading takes, are together of bulk at most 1048576: NARROWER than '..Said'. Prove '..Said' where nothing that the law and all that it calls make is longer than what came in: it says more and counts as full. Else prove '..UptoSaid'. A law counts once. -/
mutual
def uptoBulk {H : Type} : DataW H → Nat
  | .lit (.string bytes) => bytes.length + 1
  | .lit _ => 1
  | .nil => 1
  | .ptr d => uptoBulk d + 1
  | .slice elems spare => uptoBulkAll elems + uptoBulkAll spare + 1
  | .agg parts => uptoBulkAll parts + 1
  | .iface _ d => uptoBulk d + 1
  | .map entries => uptoBulkEntries entries + 1
  | .held _ => 1
def uptoBulkAll {H : Type} : List (DataW H) → Nat
  | [] => 0
  | d :: r => uptoBulk d + uptoBulkAll r
def uptoBulkEntries {H : Type} : List (Lit × DataW H) → Nat
  | [] => 0
  | x :: r => uptoBulkEntry x + uptoBulkEntries r
def uptoBulkEntry {H : Type} : Lit × DataW H → Nat
  | (.string bytes, d) => bytes.length + uptoBulk d + 1
  | (_, d) => uptoBulk d + 1
 end
def uptoSmall : (H : Type) → List (DataW H) → Bool := fun _ ds => decide (uptoBulkAll ds ≤ 1048576)
def OpenSpec.upto (s : _root_.Go.ChangeSpec) : _root_.Go.OpenSpec := { _root_.Go.OpenSpec.ofChange s with cond := some uptoSmall }

/-- 'laws.FnExactMarkText', WHERE WHAT IT READS IS OF BULK AT MOST 1048576: true; the input reads as it did. -/
def fnExactMarkTextUptoRow : OpenClaim := { program := "ythdenegheninaai", sum := "d21c20f3b4d41b370ae073991c3b71f596c83af6bc2d12bb1e0c4cfb761cc55f", func := "loop.example/g00211/laws.FnExactMarkText", spec := "fnExactMarkText", apart := false, narrowed := true }
def FnExactMarkTextUptoSaid : Prop := fnExactMarkTextUptoRow.holds Try.pinned (OpenSpec.upto fnExactMarkTextSpec)

/-- 'laws.FnExactReadMark', WHERE WHAT IT READS IS OF BULK AT MOST 1048576: true; the input reads as it did. -/
def fnExactReadMarkUptoRow : OpenClaim := { program := "ythdenegheninaai", sum := "d21c20f3b4d41b370ae073991c3b71f596c83af6bc2d12bb1e0c4cfb761cc55f", func := "loop.example/g00211/laws.FnExactReadMark", spec := "fnExactReadMark", apart := false, narrowed := true }
def FnExactReadMarkUptoSaid : Prop := fnExactReadMarkUptoRow.holds Try.pinned (OpenSpec.upto fnExactReadMarkSpec)

end Rows
end Go.Proofs.Ythdenegheninaai

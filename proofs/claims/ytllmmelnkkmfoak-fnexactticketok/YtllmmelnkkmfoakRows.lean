/-
  No cell of these rows narrows 'for every input' (looked for: loops, veiled, ifaces, maps, wideKeys, modest, calm, conditions, laid).
  DERIVED. THE GIVEN ROWS OF THIS SEAT. 3 by the template 'for every input the law returns true; each argument reads behind the call as it read before'; 0 by the template 'total and deterministic' (their statements: YtllmmelnkkmfoakTotals.lean).
  GIVEN WITH THE SEED: the statements are not yours to turn. If you find one false, say at which input.
  Laid BY PROGRAM, IN A SANDBOX (cutbox-rows.mjs): the forced cells as the released guide's own fill.sh prints them over the translation 16c076492cb9b819… (all of the seat's roots in one cut). By AI agents, Wed Nov 11 2026. No macro, syntax, notation, axiom, sorry.
-/
import Derived.Test.YtllmmelnkkmfoakChecked
import GoSem.Claim
import GoSem.ClaimJoined
import GoSem.ClaimMapViews
import Derived.JoinedTies
import Derived.KernelRfl
namespace Go.Proofs.Ytllmmelnkkmfoak
/- THE CELL 'sum', in the pinned program and in every row, IS THE sha256 OF THE DUMP (.gsa) THAT YtllmmelnkkmfoakProg.lean LOADS. Nothing in Lean hashes anything: it is a label: what it is worth is what the hold of that sum in a sandbox is worth. -/
noncomputable def Try.pinned : Pinned := { name := "ytllmmelnkkmfoak", sum := "16c076492cb9b8190101ce2d2aab62a7e2d35d2525f7c38c5d9ffcb4c90777eb", checked := Try.checked }
namespace Rows
def none {H : Type} : Left H := { results := [], args := [] }

/-- 'laws.FnExactStored': WHATEVER THE INPUT: true; the input reads as it did. -/
def fnExactStoredSpec : ChangeSpec := { name := "fnExactStored", fn := fun _ => fun
  | [d] => { results := [.lit (.bool true)], args := [d] }
  | _ => none }
def fnExactStoredRow : OpenClaim := { program := "ytllmmelnkkmfoak", sum := "16c076492cb9b8190101ce2d2aab62a7e2d35d2525f7c38c5d9ffcb4c90777eb", func := "loop.example/g00211/laws.FnExactStored", spec := "fnExactStored", plainKeys := false, apart := false }
def FnExactStoredSaid : Prop := fnExactStoredRow.holds Try.pinned (OpenSpec.ofChange fnExactStoredSpec)

/-- ITS FALSE NEIGHBOUR: 'it returns false'. Refute it at one input. -/
def fnExactStoredWrong : ChangeSpec := { name := "fnExactStored", fn := fun _ => fun
  | [d] => { results := [.lit (.bool false)], args := [d] }
  | _ => none }
def FnExactStoredWrongFalsely : Prop := fnExactStoredRow.holds Try.pinned (OpenSpec.ofChange fnExactStoredWrong)

/-- 'laws.FnExactTicketOk': WHATEVER THE INPUT: true; the input reads as it did. -/
def fnExactTicketOkSpec : ChangeSpec := { name := "fnExactTicketOk", fn := fun _ => fun
  | [d] => { results := [.lit (.bool true)], args := [d] }
  | _ => none }
def fnExactTicketOkRow : OpenClaim := { program := "ytllmmelnkkmfoak", sum := "16c076492cb9b8190101ce2d2aab62a7e2d35d2525f7c38c5d9ffcb4c90777eb", func := "loop.example/g00211/laws.FnExactTicketOk", spec := "fnExactTicketOk", plainKeys := false, apart := false }
def FnExactTicketOkSaid : Prop := fnExactTicketOkRow.holds Try.pinned (OpenSpec.ofChange fnExactTicketOkSpec)

/-- ITS FALSE NEIGHBOUR: 'it returns false'. Refute it at one input. -/
def fnExactTicketOkWrong : ChangeSpec := { name := "fnExactTicketOk", fn := fun _ => fun
  | [d] => { results := [.lit (.bool false)], args := [d] }
  | _ => none }
def FnExactTicketOkWrongFalsely : Prop := fnExactTicketOkRow.holds Try.pinned (OpenSpec.ofChange fnExactTicketOkWrong)

/-- 'laws.FnExactFrame': WHATEVER THE INPUT: true; the input reads as it did. -/
def fnExactFrameSpec : ChangeSpec := { name := "fnExactFrame", fn := fun _ => fun
  | [d1, d2, d3] => { results := [.lit (.bool true)], args := [d1, d2, d3] }
  | _ => none }
def fnExactFrameRow : OpenClaim := { program := "ytllmmelnkkmfoak", sum := "16c076492cb9b8190101ce2d2aab62a7e2d35d2525f7c38c5d9ffcb4c90777eb", func := "loop.example/g00211/laws.FnExactFrame", spec := "fnExactFrame", unfollowed := true, recurses := true, plainKeys := false, apart := false }
def FnExactFrameSaid : Prop := fnExactFrameRow.holds Try.pinned (OpenSpec.ofChange fnExactFrameSpec)

/-- ITS FALSE NEIGHBOUR: 'it returns false'. Refute it at one input. -/
def fnExactFrameWrong : ChangeSpec := { name := "fnExactFrame", fn := fun _ => fun
  | [d1, d2, d3] => { results := [.lit (.bool false)], args := [d1, d2, d3] }
  | _ => none }
def FnExactFrameWrongFalsely : Prop := fnExactFrameRow.holds Try.pinned (OpenSpec.ofChange fnExactFrameWrong)

/- THE SECOND FORM. 'bulk': how many values and letters a reading holds, each counted each time it is reached (what is shared counts as often as it is met; a slice's spare places count too). A statement '..UptoSaid' is the law's where the arguments, and the package variables that the reading takes, are together of bulk at most 1048576: NARROWER than '..Said'. Prove '..Said' where nothing that the law and all that it calls make is longer than what came in: it says more and counts as full. Else prove '..UptoSaid'. A law counts once. -/
mutual
def uptoBulk {H : Type} : DataW H → Nat
  | .lit (.string bytes) => bytes.length + 1
  | .lit _ => 1
  | .nil => 1
  | .ptr d => uptoBulk d + 1
  | .slice elems spare => uptoBulkAll elems + uptoBulkAll spare + 1
  | .agg parts => uptoBulkAll parts + 1
  | .iface _ d => uptoBulk d + 1
  | .map entries => uptoBulkEntries entries + 1
  | .held _ => 1
def uptoBulkAll {H : Type} : List (DataW H) → Nat
  | [] => 0
  | d :: r => uptoBulk d + uptoBulkAll r
def uptoBulkEntries {H : Type} : List (Lit × DataW H) → Nat
  | [] => 0
  | x :: r => uptoBulkEntry x + uptoBulkEntries r
def uptoBulkEntry {H : Type} : Lit × DataW H → Nat
  | (.string bytes, d) => bytes.length + uptoBulk d + 1
  | (_, d) => uptoBulk d + 1
 end
def uptoSmall : (H : Type) → List (DataW H) → Bool := fun _ ds => decide (uptoBulkAll ds ≤ 1048576)
def OpenSpec.upto (s : _root_.Go.ChangeSpec) : _root_.Go.OpenSpec := { _root_.Go.OpenSpec.ofChange s with cond := some uptoSmall }

/-- 'laws.FnExactStored', WHERE WHAT IT READS IS OF BULK AT MOST 1048576: true; the input reads as it did. -/
def fnExactStoredUptoRow : OpenClaim := { program := "ytllmmelnkkmfoak", sum := "16c076492cb9b8190101ce2d2aab62a7e2d35d2525f7c38c5d9ffcb4c90777eb", func := "loop.example/g00211/laws.FnExactStored", spec := "fnExactStored", plainKeys := false, apart := false, narrowed := true }
def FnExactStoredUptoSaid : Prop := fnExactStoredUptoRow.holds Try.pinned (OpenSpec.upto fnExactStoredSpec)

/-- 'laws.FnExactTicketOk', WHERE WHAT IT READS IS OF BULK AT MOST 1048576: true; the input reads as it did. -/
def fnExactTicketOkUptoRow : OpenClaim := { program := "ytllmmelnkkmfoak", sum := "16c076492cb9b8190101ce2d2aab62a7e2d35d2525f7c38c5d9ffcb4c90777eb", func := "loop.example/g00211/laws.FnExactTicketOk", spec := "fnExactTicketOk", plainKeys := false, apart := false, narrowed := true }
def FnExactTicketOkUptoSaid : Prop := fnExactTicketOkUptoRow.holds Try.pinned (OpenSpec.upto fnExactTicketOkSpec)

/-- 'laws.FnExactFrame', WHERE WHAT IT READS IS OF BULK AT MOST 1048576: true; the input reads as it did. -/
def fnExactFrameUptoRow : OpenClaim := { program := "ytllmmelnkkmfoak", sum := "16c076492cb9b8190101ce2d2aab62a7e2d35d2525f7c38c5d9ffcb4c90777eb", func := "loop.example/g00211/laws.FnExactFrame", spec := "fnExactFrame", unfollowed := true, recurses := true, plainKeys := false, apart := false, narrowed := true }
def FnExactFrameUptoSaid : Prop := fnExactFrameUptoRow.holds Try.pinned (OpenSpec.upto fnExactFrameSpec)

end Rows
end Go.Proofs.Ytllmmelnkkmfoak

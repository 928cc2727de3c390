/-
  No cell of these rows narrows 'for every input' (looked for: loops, veiled, ifaces, maps, wideKeys, modest, calm, conditions, laid).
  DERIVED. THE GIVEN ROWS OF THIS SEAT. 5 by the template 'for every input the law returns true; each argument reads behind the call as it read before'; 0 by the template 'total and deterministic' (their statements: YtiollklighmojaqTotals.lean).
  GIVEN WITH THE SEED: the statements are not yours to turn. If you find one false, say at which input.
  Laid BY PROGRAM, IN A SANDBOX (cutbox-rows.mjs): the forced cells as the released guide's own fill.sh prints them over the translation 15c0faa2b4f2fadc… (all of the seat's roots in one cut). By AI agents, Wed Nov 11 2026. No macro, syntax, notation, axiom, sorry.
-/
import Derived.Test.YtiollklighmojaqChecked
import GoSem.Claim
import GoSem.ClaimJoined
import GoSem.ClaimMapViews
import Derived.JoinedTies
import Derived.KernelRfl
namespace Go.Proofs.Ytiollklighmojaq
/- THE CELL 'sum', in the pinned program and in every row, IS THE sha256 OF THE DUMP (.gsa) THAT YtiollklighmojaqProg.lean LOADS. Nothing in Lean hashes anything: it is a label: what it is worth is what the hold of that sum in a sandbox is worth. -/
noncomputable def Try.pinned : Pinned := { name := "ytiollklighmojaq", sum := "15c0faa2b4f2fadcd4445671ed29176c469908c85c435a6a64fa28e1e6c7315e", checked := Try.checked }
namespace Rows
def none {H : Type} : Left H := { results := [], args := [] }

/-- 'laws.FnExactBestSeat': WHATEVER THE INPUT: true; the input reads as it did. -/
def fnExactBestSeatSpec : ChangeSpec := { name := "fnExactBestSeat", fn := fun _ => fun
  | [d1, d2, d3, d4, d5] => { results := [.lit (.bool true)], args := [d1, d2, d3, d4, d5] }
  | _ => none }
def fnExactBestSeatRow : OpenClaim := { program := "ytiollklighmojaq", sum := "15c0faa2b4f2fadcd4445671ed29176c469908c85c435a6a64fa28e1e6c7315e", func := "loop.example/g00211/laws.FnExactBestSeat", spec := "fnExactBestSeat", unfollowed := true, recurses := true, plainKeys := false, apart := false }
def FnExactBestSeatSaid : Prop := fnExactBestSeatRow.holds Try.pinned (OpenSpec.ofChange fnExactBestSeatSpec)

/-- ITS FALSE NEIGHBOUR: 'it returns false'. Refute it at one input. -/
def fnExactBestSeatWrong : ChangeSpec := { name := "fnExactBestSeat", fn := fun _ => fun
  | [d1, d2, d3, d4, d5] => { results := [.lit (.bool false)], args := [d1, d2, d3, d4, d5] }
  | _ => none }
def FnExactBestSeatWrongFalsely : Prop := fnExactBestSeatRow.holds Try.pinned (OpenSpec.ofChange fnExactBestSeatWrong)

/-- 'laws.FnExactTake': WHATEVER THE INPUT: true; the input reads as it did. -/
def fnExactTakeSpec : ChangeSpec := { name := "fnExactTake", fn := fun _ => fun
  | [d1, d2] => { results := [.lit (.bool true)], args := [d1, d2] }
  | _ => none }
def fnExactTakeRow : OpenClaim := { program := "ytiollklighmojaq", sum := "15c0faa2b4f2fadcd4445671ed29176c469908c85c435a6a64fa28e1e6c7315e", func := "loop.example/g00211/laws.FnExactTake", spec := "fnExactTake", unfollowed := true, recurses := true, plainKeys := false, apart := false }
def FnExactTakeSaid : Prop := fnExactTakeRow.holds Try.pinned (OpenSpec.ofChange fnExactTakeSpec)

/-- ITS FALSE NEIGHBOUR: 'it returns false'. Refute it at one input. -/
def fnExactTakeWrong : ChangeSpec := { name := "fnExactTake", fn := fun _ => fun
  | [d1, d2] => { results := [.lit (.bool false)], args := [d1, d2] }
  | _ => none }
def FnExactTakeWrongFalsely : Prop := fnExactTakeRow.holds Try.pinned (OpenSpec.ofChange fnExactTakeWrong)

/-- 'laws.FnExactRelease': WHATEVER THE INPUT: true; the input reads as it did. -/
def fnExactReleaseSpec : ChangeSpec := { name := "fnExactRelease", fn := fun _ => fun
  | [d1, d2] => { results := [.lit (.bool true)], args := [d1, d2] }
  | _ => none }
def fnExactReleaseRow : OpenClaim := { program := "ytiollklighmojaq", sum := "15c0faa2b4f2fadcd4445671ed29176c469908c85c435a6a64fa28e1e6c7315e", func := "loop.example/g00211/laws.FnExactRelease", spec := "fnExactRelease", unfollowed := true, recurses := true, plainKeys := false, apart := false }
def FnExactReleaseSaid : Prop := fnExactReleaseRow.holds Try.pinned (OpenSpec.ofChange fnExactReleaseSpec)

/-- ITS FALSE NEIGHBOUR: 'it returns false'. Refute it at one input. -/
def fnExactReleaseWrong : ChangeSpec := { name := "fnExactRelease", fn := fun _ => fun
  | [d1, d2] => { results := [.lit (.bool false)], args := [d1, d2] }
  | _ => none }
def FnExactReleaseWrongFalsely : Prop := fnExactReleaseRow.holds Try.pinned (OpenSpec.ofChange fnExactReleaseWrong)

/-- 'laws.FnExactHeld': WHATEVER THE INPUT: true; the input reads as it did. -/
def fnExactHeldSpec : ChangeSpec := { name := "fnExactHeld", fn := fun _ => fun
  | [d1, d2] => { results := [.lit (.bool true)], args := [d1, d2] }
  | _ => none }
def fnExactHeldRow : OpenClaim := { program := "ytiollklighmojaq", sum := "15c0faa2b4f2fadcd4445671ed29176c469908c85c435a6a64fa28e1e6c7315e", func := "loop.example/g00211/laws.FnExactHeld", spec := "fnExactHeld", unfollowed := true, recurses := true, plainKeys := false, apart := false }
def FnExactHeldSaid : Prop := fnExactHeldRow.holds Try.pinned (OpenSpec.ofChange fnExactHeldSpec)

/-- ITS FALSE NEIGHBOUR: 'it returns false'. Refute it at one input. -/
def fnExactHeldWrong : ChangeSpec := { name := "fnExactHeld", fn := fun _ => fun
  | [d1, d2] => { results := [.lit (.bool false)], args := [d1, d2] }
  | _ => none }
def FnExactHeldWrongFalsely : Prop := fnExactHeldRow.holds Try.pinned (OpenSpec.ofChange fnExactHeldWrong)

/-- 'laws.FnExactOfficeStart': WHATEVER THE INPUT: true; the input reads as it did. -/
def fnExactOfficeStartSpec : ChangeSpec := { name := "fnExactOfficeStart", fn := fun _ => fun
  | [d1, d2, d3] => { results := [.lit (.bool true)], args := [d1, d2, d3] }
  | _ => none }
def fnExactOfficeStartRow : OpenClaim := { program := "ytiollklighmojaq", sum := "15c0faa2b4f2fadcd4445671ed29176c469908c85c435a6a64fa28e1e6c7315e", func := "loop.example/g00211/laws.FnExactOfficeStart", spec := "fnExactOfficeStart", unfollowed := true, recurses := true, plainKeys := false, apart := false }
def FnExactOfficeStartSaid : Prop := fnExactOfficeStartRow.holds Try.pinned (OpenSpec.ofChange fnExactOfficeStartSpec)

/-- ITS FALSE NEIGHBOUR: 'it returns false'. Refute it at one input. -/
def fnExactOfficeStartWrong : ChangeSpec := { name := "fnExactOfficeStart", fn := fun _ => fun
  | [d1, d2, d3] => { results := [.lit (.bool false)], args := [d1, d2, d3] }
  | _ => none }
def FnExactOfficeStartWrongFalsely : Prop := fnExactOfficeStartRow.holds Try.pinned (OpenSpec.ofChange fnExactOfficeStartWrong)

/- THE SECOND FORM. 'bulk': how many values and letters a reading holds, each counted each time it is reached (what is shared counts as often as it is met; a slice's spare places count too). A statement '..UptoSaid' is the law's where the arguments, and the package variables that the reading takes, are together of bulk at most 1048576: NARROWER than '..Said'. Prove '..Said' where nothing that the law and all that it calls make is longer than what came in: it says more and counts as full. Else prove '..UptoSaid'. A law counts once. -/
mutual
def uptoBulk {H : Type} : DataW H → Nat
  | .lit (.string bytes) => bytes.length + 1
  | .lit _ => 1
  | .nil => 1
  | .ptr d => uptoBulk d + 1
  | .slice elems spare => uptoBulkAll elems + uptoBulkAll spare + 1
  | .agg parts => uptoBulkAll parts + 1
  | .iface _ d => uptoBulk d + 1
  | .map entries => uptoBulkEntries entries + 1
  | .held _ => 1
def uptoBulkAll {H : Type} : List (DataW H) → Nat
  | [] => 0
  | d :: r => uptoBulk d + uptoBulkAll r
def uptoBulkEntries {H : Type} : List (Lit × DataW H) → Nat
  | [] => 0
  | x :: r => uptoBulkEntry x + uptoBulkEntries r
def uptoBulkEntry {H : Type} : Lit × DataW H → Nat
  | (.string bytes, d) => bytes.length + uptoBulk d + 1
  | (_, d) => uptoBulk d + 1
 end
def uptoSmall : (H : Type) → List (DataW H) → Bool := fun _ ds => decide (uptoBulkAll ds ≤ 1048576)
def OpenSpec.upto (s : _root_.Go.ChangeSpec) : _root_.Go.OpenSpec := { _root_.Go.OpenSpec.ofChange s with cond := some uptoSmall }

/-- 'laws.FnExactBestSeat', WHERE WHAT IT READS IS OF BULK AT MOST 1048576: true; the input reads as it did. -/
def fnExactBestSeatUptoRow : OpenClaim := { program := "ytiollklighmojaq", sum := "15c0faa2b4f2fadcd4445671ed29176c469908c85c435a6a64fa28e1e6c7315e", func := "loop.example/g00211/laws.FnExactBestSeat", spec := "fnExactBestSeat", unfollowed := true, recurses := true, plainKeys := false, apart := false, narrowed := true }
def FnExactBestSeatUptoSaid : Prop := fnExactBestSeatUptoRow.holds Try.pinned (OpenSpec.upto fnExactBestSeatSpec)

/-- 'laws.FnExactTake', WHERE WHAT IT READS IS OF BULK AT MOST 1048576: true; the input reads as it did. -/
def fnExactTakeUptoRow : OpenClaim := { program := "ytiollklighmojaq", sum := "15c0faa2b4f2fadcd4445671ed29176c469908c85c435a6a64fa28e1e6c7315e", func := "loop.example/g00211/laws.FnExactTake", spec := "fnExactTake", unfollowed := true, recurses := true, plainKeys := false, apart := false, narrowed := true }
def FnExactTakeUptoSaid : Prop := fnExactTakeUptoRow.holds Try.pinned (OpenSpec.upto fnExactTakeSpec)

/-- 'laws.FnExactRelease', WHERE WHAT IT READS IS OF BULK AT MOST 1048576: true; the input reads as it did. -/
def fnExactReleaseUptoRow : OpenClaim := { program := "ytiollklighmojaq", sum := "15c0faa2b4f2fadcd4445671ed29176c469908c85c435a6a64fa28e1e6c7315e", func := "loop.example/g00211/laws.FnExactRelease", spec := "fnExactRelease", unfollowed := true, recurses := true, plainKeys := false, apart := false, narrowed := true }
def FnExactReleaseUptoSaid : Prop := fnExactReleaseUptoRow.holds Try.pinned (OpenSpec.upto fnExactReleaseSpec)

/-- 'laws.FnExactHeld', WHERE WHAT IT READS IS OF BULK AT MOST 1048576: true; the input reads as it did. -/
def fnExactHeldUptoRow : OpenClaim := { program := "ytiollklighmojaq", sum := "15c0faa2b4f2fadcd4445671ed29176c469908c85c435a6a64fa28e1e6c7315e", func := "loop.example/g00211/laws.FnExactHeld", spec := "fnExactHeld", unfollowed := true, recurses := true, plainKeys := false, apart := false, narrowed := true }
def FnExactHeldUptoSaid : Prop := fnExactHeldUptoRow.holds Try.pinned (OpenSpec.upto fnExactHeldSpec)

/-- 'laws.FnExactOfficeStart', WHERE WHAT IT READS IS OF BULK AT MOST 1048576: true; the input reads as it did. -/
def fnExactOfficeStartUptoRow : OpenClaim := { program := "ytiollklighmojaq", sum := "15c0faa2b4f2fadcd4445671ed29176c469908c85c435a6a64fa28e1e6c7315e", func := "loop.example/g00211/laws.FnExactOfficeStart", spec := "fnExactOfficeStart", unfollowed := true, recurses := true, plainKeys := false, apart := false, narrowed := true }
def FnExactOfficeStartUptoSaid : Prop := fnExactOfficeStartUptoRow.holds Try.pinned (OpenSpec.upto fnExactOfficeStartSpec)

end Rows
end Go.Proofs.Ytiollklighmojaq

/-
  NARROWER THAN 'FOR EVERY INPUT', by the rows' own cells (each row's printed sentence says how): FnExactDeskStart: ifaces, laid.
  DERIVED. THE GIVEN ROWS OF THIS SEAT. 1 by the template 'for every input the law returns true; each argument reads behind the call as it read before'; 0 by the template 'total and deterministic' (their statements: YtmoinacceildcaaGreatDoorTotals.lean).
  GIVEN WITH THE SEED: the statements are not yours to turn. If you find one false, say at which input.
  Laid BY PROGRAM, IN A SANDBOX (cutbox-rows.mjs): the forced cells as the released guide's own fill.sh prints them over the translation ed98fb8afed94132… (all of the seat's roots in one cut). By AI agents, Wed Nov 11 2026. No macro, syntax, notation, axiom, sorry.
-/
import Derived.Test.YtmoinacceildcaaGreatDoorChecked
import GoSem.Claim
import GoSem.ClaimJoined
import GoSem.ClaimMapViews
import Derived.JoinedTies
import Derived.KernelRfl
namespace Go.Proofs.YtmoinacceildcaaGreatDoor
/- THE CELL 'sum', in the pinned program and in every row, IS THE sha256 OF THE DUMP (.gsa) THAT YtmoinacceildcaaGreatDoorProg.lean LOADS. Nothing in Lean hashes anything: it is a label: what it is worth is what the hold of that sum in a sandbox is worth. -/
noncomputable def Tryz.pinned : Pinned := { name := "ytmoinacceildcaagreatdoor", sum := "ed98fb8afed941323d240ab2f0c26e134e4eacc08acc83491b48faf37b603218", checked := Tryz.checked }
namespace Rows
def none {H : Type} : Left H := { results := [], args := [] }

/- WHAT THE LISTED PACKAGE-LEVEL VARIABLES READ AS WHEN THE CALL BEGINS. Each datum BY PROGRAM (the guide's laid-datum.mjs) off the statement by which the dump's own 'gosem.cut.vars' lays the variable. In a bare row this is a premise. The card (YtmoinacceildcaaGreatDoorCards.lean) ties it to the program's text. -/
def laid_loop_example_g00211_impl_errParams {H : Type} : DataW H := .iface "*errors.errorString" (.ptr (.agg [.lit (.string [116, 104, 101, 32, 112, 97, 114, 97, 109, 101, 116, 101, 114, 115, 32, 97, 114, 101, 32, 110, 111, 116, 32, 114, 105, 103, 104, 116])]))
def laid_loop_example_g00211_impl_errSecret {H : Type} : DataW H := .iface "*errors.errorString" (.ptr (.agg [.lit (.string [116, 104, 101, 32, 115, 101, 99, 114, 101, 116, 32, 105, 115, 32, 111, 117, 116, 32, 111, 102, 32, 105, 116, 115, 32, 98, 111, 117, 110, 100, 115])]))

/-- 'laws.FnExactDeskStart': WHATEVER THE INPUT: true; the input reads as it did. -/
def fnExactDeskStartSpec : ChangeSpec := { name := "fnExactDeskStart", vars := ["loop.example/g00211/impl.errParams", "loop.example/g00211/impl.errSecret"], fn := fun _ => fun
  | [d, g1, g2] => { results := [.lit (.bool true)], args := [d], vars := [g1, g2] }
  | _ => none }
def fnExactDeskStartRow : OpenClaim := { program := "ytmoinacceildcaagreatdoor", sum := "ed98fb8afed941323d240ab2f0c26e134e4eacc08acc83491b48faf37b603218", func := "loop.example/g00211/laws.FnExactDeskStart", spec := "fnExactDeskStart", unfollowed := true, recurses := true, named := ["loop.example/g00211/impl.errParams", "loop.example/g00211/impl.errSecret"], ifaces := true, plainKeys := false, apart := false, laid := [("loop.example/g00211/impl.errParams", laid_loop_example_g00211_impl_errParams), ("loop.example/g00211/impl.errSecret", laid_loop_example_g00211_impl_errSecret)] }
def FnExactDeskStartSaid : Prop := fnExactDeskStartRow.holds Tryz.pinned (OpenSpec.ofChange fnExactDeskStartSpec)

/-- ITS FALSE NEIGHBOUR: 'it returns false'. Refute it at one input. -/
def fnExactDeskStartWrong : ChangeSpec := { name := "fnExactDeskStart", vars := ["loop.example/g00211/impl.errParams", "loop.example/g00211/impl.errSecret"], fn := fun _ => fun
  | [d, g1, g2] => { results := [.lit (.bool false)], args := [d], vars := [g1, g2] }
  | _ => none }
def FnExactDeskStartWrongFalsely : Prop := fnExactDeskStartRow.holds Tryz.pinned (OpenSpec.ofChange fnExactDeskStartWrong)

/- THE SECOND FORM. 'bulk': how many values and letters a reading holds, each counted each time it is reached (what is shared counts as often as it is met; a slice's spare places count too). A statement '..UptoSaid' is the law's where the arguments, and the package variables that the reading takes, are together of bulk at most 1048576: NARROWER than '..Said'. Prove '..Said' where nothing that the law and all that it calls make is longer than what came in: it says more and counts as full. Else prove '..UptoSaid'. A law counts once. -/
mutual
def uptoBulk {H : Type} : DataW H → Nat
  | .lit (.string bytes) => bytes.length + 1
  | .lit _ => 1
  | .nil => 1
  | .ptr d => uptoBulk d + 1
  | .slice elems spare => uptoBulkAll elems + uptoBulkAll spare + 1
  | .agg parts => uptoBulkAll parts + 1
  | .iface _ d => uptoBulk d + 1
  | .map entries => uptoBulkEntries entries + 1
  | .held _ => 1
def uptoBulkAll {H : Type} : List (DataW H) → Nat
  | [] => 0
  | d :: r => uptoBulk d + uptoBulkAll r
def uptoBulkEntries {H : Type} : List (Lit × DataW H) → Nat
  | [] => 0
  | x :: r => uptoBulkEntry x + uptoBulkEntries r
def uptoBulkEntry {H : Type} : Lit × DataW H → Nat
  | (.string bytes, d) => bytes.length + uptoBulk d + 1
  | (_, d) => uptoBulk d + 1
 end
def uptoSmall : (H : Type) → List (DataW H) → Bool := fun _ ds => decide (uptoBulkAll ds ≤ 1048576)
def OpenSpec.upto (s : _root_.Go.ChangeSpec) : _root_.Go.OpenSpec := { _root_.Go.OpenSpec.ofChange s with cond := some uptoSmall }

/-- 'laws.FnExactDeskStart', WHERE WHAT IT READS IS OF BULK AT MOST 1048576: true; the input reads as it did. -/
def fnExactDeskStartUptoRow : OpenClaim := { program := "ytmoinacceildcaagreatdoor", sum := "ed98fb8afed941323d240ab2f0c26e134e4eacc08acc83491b48faf37b603218", func := "loop.example/g00211/laws.FnExactDeskStart", spec := "fnExactDeskStart", unfollowed := true, recurses := true, named := ["loop.example/g00211/impl.errParams", "loop.example/g00211/impl.errSecret"], ifaces := true, plainKeys := false, apart := false, laid := [("loop.example/g00211/impl.errParams", laid_loop_example_g00211_impl_errParams), ("loop.example/g00211/impl.errSecret", laid_loop_example_g00211_impl_errSecret)], narrowed := true }
def FnExactDeskStartUptoSaid : Prop := fnExactDeskStartUptoRow.holds Tryz.pinned (OpenSpec.upto fnExactDeskStartSpec)

end Rows
end Go.Proofs.YtmoinacceildcaaGreatDoor

/-
  No cell of these rows narrows 'for every input' (looked for: loops, veiled, ifaces, maps, wideKeys, modest, calm, conditions, laid).
  DERIVED. THE GIVEN ROWS OF THIS SEAT. 6 by the template 'for every input the law returns true; each argument reads behind the call as it read before'; 0 by the template 'total and deterministic' (their statements: YtdfejmaekdgcdarTotals.lean).
  GIVEN WITH THE SEED: the statements are not yours to turn. If you find one false, say at which input.
  Laid BY PROGRAM, IN A SANDBOX (cutbox-rows.mjs): the forced cells as the released guide's own fill.sh prints them over the translation ab1815f0c4f74d62… (all of the seat's roots in one cut). By AI agents, Wed Nov 11 2026. No macro, syntax, notation, axiom, sorry.
-/
import Derived.Test.YtdfejmaekdgcdarChecked
import GoSem.Claim
import GoSem.ClaimJoined
import GoSem.ClaimMapViews
import Derived.JoinedTies
import Derived.KernelRfl
namespace Go.Proofs.Ytdfejmaekdgcdar
/- THE CELL 'sum', in the pinned program and in every row, IS THE sha256 OF THE DUMP (.gsa) THAT YtdfejmaekdgcdarProg.lean LOADS. Nothing in Lean hashes anything: it is a label: what it is worth is what the hold of that sum in a sandbox is worth. -/
noncomputable def Try.pinned : Pinned := { name := "ytdfejmaekdgcdar", sum := "ab1815f0c4f74d62672bf767350be237963156a88e2f35f2fe96e9ad9ee78a72", checked := Try.checked }
namespace Rows
def none {H : Type} : Left H := { results := [], args := [] }

/-- 'laws.FnExactOfficeOk': WHATEVER THE INPUT: true; the input reads as it did. -/
def fnExactOfficeOkSpec : ChangeSpec := { name := "fnExactOfficeOk", fn := fun _ => fun
  | [d] => { results := [.lit (.bool true)], args := [d] }
  | _ => none }
def fnExactOfficeOkRow : OpenClaim := { program := "ytdfejmaekdgcdar", sum := "ab1815f0c4f74d62672bf767350be237963156a88e2f35f2fe96e9ad9ee78a72", func := "loop.example/g00211/laws.FnExactOfficeOk", spec := "fnExactOfficeOk", unfollowed := true, recurses := true, plainKeys := false, apart := false }
def FnExactOfficeOkSaid : Prop := fnExactOfficeOkRow.holds Try.pinned (OpenSpec.ofChange fnExactOfficeOkSpec)

/-- ITS FALSE NEIGHBOUR: 'it returns false'. Refute it at one input. -/
def fnExactOfficeOkWrong : ChangeSpec := { name := "fnExactOfficeOk", fn := fun _ => fun
  | [d] => { results := [.lit (.bool false)], args := [d] }
  | _ => none }
def FnExactOfficeOkWrongFalsely : Prop := fnExactOfficeOkRow.holds Try.pinned (OpenSpec.ofChange fnExactOfficeOkWrong)

/-- 'laws.FnExactIncome': WHATEVER THE INPUT: true; the input reads as it did. -/
def fnExactIncomeSpec : ChangeSpec := { name := "fnExactIncome", fn := fun _ => fun
  | [d] => { results := [.lit (.bool true)], args := [d] }
  | _ => none }
def fnExactIncomeRow : OpenClaim := { program := "ytdfejmaekdgcdar", sum := "ab1815f0c4f74d62672bf767350be237963156a88e2f35f2fe96e9ad9ee78a72", func := "loop.example/g00211/laws.FnExactIncome", spec := "fnExactIncome", plainKeys := false, apart := false }
def FnExactIncomeSaid : Prop := fnExactIncomeRow.holds Try.pinned (OpenSpec.ofChange fnExactIncomeSpec)

/-- ITS FALSE NEIGHBOUR: 'it returns false'. Refute it at one input. -/
def fnExactIncomeWrong : ChangeSpec := { name := "fnExactIncome", fn := fun _ => fun
  | [d] => { results := [.lit (.bool false)], args := [d] }
  | _ => none }
def FnExactIncomeWrongFalsely : Prop := fnExactIncomeRow.holds Try.pinned (OpenSpec.ofChange fnExactIncomeWrong)

/-- 'laws.FnExactTicketFor': WHATEVER THE INPUT: true; the input reads as it did. -/
def fnExactTicketForSpec : ChangeSpec := { name := "fnExactTicketFor", fn := fun _ => fun
  | [d1, d2] => { results := [.lit (.bool true)], args := [d1, d2] }
  | _ => none }
def fnExactTicketForRow : OpenClaim := { program := "ytdfejmaekdgcdar", sum := "ab1815f0c4f74d62672bf767350be237963156a88e2f35f2fe96e9ad9ee78a72", func := "loop.example/g00211/laws.FnExactTicketFor", spec := "fnExactTicketFor", unfollowed := true, recurses := true, plainKeys := false, apart := false }
def FnExactTicketForSaid : Prop := fnExactTicketForRow.holds Try.pinned (OpenSpec.ofChange fnExactTicketForSpec)

/-- ITS FALSE NEIGHBOUR: 'it returns false'. Refute it at one input. -/
def fnExactTicketForWrong : ChangeSpec := { name := "fnExactTicketFor", fn := fun _ => fun
  | [d1, d2] => { results := [.lit (.bool false)], args := [d1, d2] }
  | _ => none }
def FnExactTicketForWrongFalsely : Prop := fnExactTicketForRow.holds Try.pinned (OpenSpec.ofChange fnExactTicketForWrong)

/-- 'laws.FnExactRecord': WHATEVER THE INPUT: true; the input reads as it did. -/
def fnExactRecordSpec : ChangeSpec := { name := "fnExactRecord", fn := fun _ => fun
  | [d] => { results := [.lit (.bool true)], args := [d] }
  | _ => none }
def fnExactRecordRow : OpenClaim := { program := "ytdfejmaekdgcdar", sum := "ab1815f0c4f74d62672bf767350be237963156a88e2f35f2fe96e9ad9ee78a72", func := "loop.example/g00211/laws.FnExactRecord", spec := "fnExactRecord", plainKeys := false, apart := false }
def FnExactRecordSaid : Prop := fnExactRecordRow.holds Try.pinned (OpenSpec.ofChange fnExactRecordSpec)

/-- ITS FALSE NEIGHBOUR: 'it returns false'. Refute it at one input. -/
def fnExactRecordWrong : ChangeSpec := { name := "fnExactRecord", fn := fun _ => fun
  | [d] => { results := [.lit (.bool false)], args := [d] }
  | _ => none }
def FnExactRecordWrongFalsely : Prop := fnExactRecordRow.holds Try.pinned (OpenSpec.ofChange fnExactRecordWrong)

/-- 'laws.FnExactRecords': WHATEVER THE INPUT: true; the input reads as it did. -/
def fnExactRecordsSpec : ChangeSpec := { name := "fnExactRecords", fn := fun _ => fun
  | [d] => { results := [.lit (.bool true)], args := [d] }
  | _ => none }
def fnExactRecordsRow : OpenClaim := { program := "ytdfejmaekdgcdar", sum := "ab1815f0c4f74d62672bf767350be237963156a88e2f35f2fe96e9ad9ee78a72", func := "loop.example/g00211/laws.FnExactRecords", spec := "fnExactRecords", plainKeys := false, apart := false }
def FnExactRecordsSaid : Prop := fnExactRecordsRow.holds Try.pinned (OpenSpec.ofChange fnExactRecordsSpec)

/-- ITS FALSE NEIGHBOUR: 'it returns false'. Refute it at one input. -/
def fnExactRecordsWrong : ChangeSpec := { name := "fnExactRecords", fn := fun _ => fun
  | [d] => { results := [.lit (.bool false)], args := [d] }
  | _ => none }
def FnExactRecordsWrongFalsely : Prop := fnExactRecordsRow.holds Try.pinned (OpenSpec.ofChange fnExactRecordsWrong)

/-- 'laws.FnExactAppend': WHATEVER THE INPUT: true; the input reads as it did. -/
def fnExactAppendSpec : ChangeSpec := { name := "fnExactAppend", fn := fun _ => fun
  | [d1, d2] => { results := [.lit (.bool true)], args := [d1, d2] }
  | _ => none }
def fnExactAppendRow : OpenClaim := { program := "ytdfejmaekdgcdar", sum := "ab1815f0c4f74d62672bf767350be237963156a88e2f35f2fe96e9ad9ee78a72", func := "loop.example/g00211/laws.FnExactAppend", spec := "fnExactAppend", plainKeys := false, apart := false }
def FnExactAppendSaid : Prop := fnExactAppendRow.holds Try.pinned (OpenSpec.ofChange fnExactAppendSpec)

/-- ITS FALSE NEIGHBOUR: 'it returns false'. Refute it at one input. -/
def fnExactAppendWrong : ChangeSpec := { name := "fnExactAppend", fn := fun _ => fun
  | [d1, d2] => { results := [.lit (.bool false)], args := [d1, d2] }
  | _ => none }
def FnExactAppendWrongFalsely : Prop := fnExactAppendRow.holds Try.pinned (OpenSpec.ofChange fnExactAppendWrong)

/- THE SECOND FORM. 'bulk': how many values and letters a reading holds, each counted each time it is reached (what is shared counts as often as it is met; a slice's spare places count too). A statement '..UptoSaid' is the law's where the arguments, and the package variables that the reading takes, are together of bulk at most 1048576: NARROWER than '..Said'. Prove '..Said' where nothing that the law and all that it calls make is longer than what came in: it says more and counts as full. Else prove '..UptoSaid'. A law counts once. -/
mutual
def uptoBulk {H : Type} : DataW H → Nat
  | .lit (.string bytes) => bytes.length + 1
  | .lit _ => 1
  | .nil => 1
  | .ptr d => uptoBulk d + 1
  | .slice elems spare => uptoBulkAll elems + uptoBulkAll spare + 1
  | .agg parts => uptoBulkAll parts + 1
  | .iface _ d => uptoBulk d + 1
  | .map entries => uptoBulkEntries entries + 1
  | .held _ => 1
def uptoBulkAll {H : Type} : List (DataW H) → Nat
  | [] => 0
  | d :: r => uptoBulk d + uptoBulkAll r
def uptoBulkEntries {H : Type} : List (Lit × DataW H) → Nat
  | [] => 0
  | x :: r => uptoBulkEntry x + uptoBulkEntries r
def uptoBulkEntry {H : Type} : Lit × DataW H → Nat
  | (.string bytes, d) => bytes.length + uptoBulk d + 1
  | (_, d) => uptoBulk d + 1
 end
def uptoSmall : (H : Type) → List (DataW H) → Bool := fun _ ds => decide (uptoBulkAll ds ≤ 1048576)
def OpenSpec.upto (s : _root_.Go.ChangeSpec) : _root_.Go.OpenSpec := { _root_.Go.OpenSpec.ofChange s with cond := some uptoSmall }

/-- 'laws.FnExactOfficeOk', WHERE WHAT IT READS IS OF BULK AT MOST 1048576: true; the input reads as it did. -/
def fnExactOfficeOkUptoRow : OpenClaim := { program := "ytdfejmaekdgcdar", sum := "ab1815f0c4f74d62672bf767350be237963156a88e2f35f2fe96e9ad9ee78a72", func := "loop.example/g00211/laws.FnExactOfficeOk", spec := "fnExactOfficeOk", unfollowed := true, recurses := true, plainKeys := false, apart := false, narrowed := true }
def FnExactOfficeOkUptoSaid : Prop := fnExactOfficeOkUptoRow.holds Try.pinned (OpenSpec.upto fnExactOfficeOkSpec)

/-- 'laws.FnExactIncome', WHERE WHAT IT READS IS OF BULK AT MOST 1048576: true; the input reads as it did. -/
def fnExactIncomeUptoRow : OpenClaim := { program := "ytdfejmaekdgcdar", sum := "ab1815f0c4f74d62672bf767350be237963156a88e2f35f2fe96e9ad9ee78a72", func := "loop.example/g00211/laws.FnExactIncome", spec := "fnExactIncome", plainKeys := false, apart := false, narrowed := true }
def FnExactIncomeUptoSaid : Prop := fnExactIncomeUptoRow.holds Try.pinned (OpenSpec.upto fnExactIncomeSpec)

/-- 'laws.FnExactTicketFor', WHERE WHAT IT READS IS OF BULK AT MOST 1048576: true; the input reads as it did. -/
def fnExactTicketForUptoRow : OpenClaim := { program := "ytdfejmaekdgcdar", sum := "ab1815f0c4f74d62672bf767350be237963156a88e2f35f2fe96e9ad9ee78a72", func := "loop.example/g00211/laws.FnExactTicketFor", spec := "fnExactTicketFor", unfollowed := true, recurses := true, plainKeys := false, apart := false, narrowed := true }
def FnExactTicketForUptoSaid : Prop := fnExactTicketForUptoRow.holds Try.pinned (OpenSpec.upto fnExactTicketForSpec)

/-- 'laws.FnExactRecord', WHERE WHAT IT READS IS OF BULK AT MOST 1048576: true; the input reads as it did. -/
def fnExactRecordUptoRow : OpenClaim := { program := "ytdfejmaekdgcdar", sum := "ab1815f0c4f74d62672bf767350be237963156a88e2f35f2fe96e9ad9ee78a72", func := "loop.example/g00211/laws.FnExactRecord", spec := "fnExactRecord", plainKeys := false, apart := false, narrowed := true }
def FnExactRecordUptoSaid : Prop := fnExactRecordUptoRow.holds Try.pinned (OpenSpec.upto fnExactRecordSpec)

/-- 'laws.FnExactRecords', WHERE WHAT IT READS IS OF BULK AT MOST 1048576: true; the input reads as it did. -/
def fnExactRecordsUptoRow : OpenClaim := { program := "ytdfejmaekdgcdar", sum := "ab1815f0c4f74d62672bf767350be237963156a88e2f35f2fe96e9ad9ee78a72", func := "loop.example/g00211/laws.FnExactRecords", spec := "fnExactRecords", plainKeys := false, apart := false, narrowed := true }
def FnExactRecordsUptoSaid : Prop := fnExactRecordsUptoRow.holds Try.pinned (OpenSpec.upto fnExactRecordsSpec)

/-- 'laws.FnExactAppend', WHERE WHAT IT READS IS OF BULK AT MOST 1048576: true; the input reads as it did. -/
def fnExactAppendUptoRow : OpenClaim := { program := "ytdfejmaekdgcdar", sum := "ab1815f0c4f74d62672bf767350be237963156a88e2f35f2fe96e9ad9ee78a72", func := "loop.example/g00211/laws.FnExactAppend", spec := "fnExactAppend", plainKeys := false, apart := false, narrowed := true }
def FnExactAppendUptoSaid : Prop := fnExactAppendUptoRow.holds Try.pinned (OpenSpec.upto fnExactAppendSpec)

end Rows
end Go.Proofs.Ytdfejmaekdgcdar

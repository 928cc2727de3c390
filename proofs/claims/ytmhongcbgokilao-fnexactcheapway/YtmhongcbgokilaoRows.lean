/-
  No cell of these rows narrows 'for every input' (looked for: loops, veiled, ifaces, maps, wideKeys, modest, calm, conditions, laid).
  DERIVED. THE GIVEN ROWS OF THIS SEAT. 6 by the template 'for every input the law returns true; each argument reads behind the call as it read before'; 0 by the template 'total and deterministic' (their statements: YtmhongcbgokilaoTotals.lean).
  GIVEN WITH THE SEED: the statements are not yours to turn. If you find one false, say at which input.
  Laid BY PROGRAM, IN A SANDBOX (cutbox-rows.mjs): the forced cells as the released guide's own fill.sh prints them over the translation f68ee0b94c018e76… (all of the seat's roots in one cut). By AI agents, Wed Nov 11 2026. No macro, syntax, notation, axiom, sorry.
-/
import Derived.Test.YtmhongcbgokilaoChecked
import GoSem.Claim
import GoSem.ClaimJoined
import GoSem.ClaimMapViews
import Derived.JoinedTies
import Derived.KernelRfl
namespace Go.Proofs.Ytmhongcbgokilao
/- THE CELL 'sum', in the pinned program and in every row, IS THE sha256 OF THE DUMP (.gsa) THAT YtmhongcbgokilaoProg.lean LOADS. Nothing in Lean hashes anything: it is a label: what it is worth is what the hold of that sum in a sandbox is worth. -/
noncomputable def Try.pinned : Pinned := { name := "ytmhongcbgokilao", sum := "f68ee0b94c018e76d0b804dfb102976fdc1443bd523b7dfedbdb3a8457d0ad72", checked := Try.checked }
namespace Rows
def none {H : Type} : Left H := { results := [], args := [] }

/-- 'laws.FnExactEarliest': WHATEVER THE INPUT: true; the input reads as it did. -/
def fnExactEarliestSpec : ChangeSpec := { name := "fnExactEarliest", fn := fun _ => fun
  | [d1, d2, d3, d4, d5] => { results := [.lit (.bool true)], args := [d1, d2, d3, d4, d5] }
  | _ => none }
def fnExactEarliestRow : OpenClaim := { program := "ytmhongcbgokilao", sum := "f68ee0b94c018e76d0b804dfb102976fdc1443bd523b7dfedbdb3a8457d0ad72", func := "loop.example/g00211/laws.FnExactEarliest", spec := "fnExactEarliest", unfollowed := true, recurses := true, apart := false }
def FnExactEarliestSaid : Prop := fnExactEarliestRow.holds Try.pinned (OpenSpec.ofChange fnExactEarliestSpec)

/-- ITS FALSE NEIGHBOUR: 'it returns false'. Refute it at one input. -/
def fnExactEarliestWrong : ChangeSpec := { name := "fnExactEarliest", fn := fun _ => fun
  | [d1, d2, d3, d4, d5] => { results := [.lit (.bool false)], args := [d1, d2, d3, d4, d5] }
  | _ => none }
def FnExactEarliestWrongFalsely : Prop := fnExactEarliestRow.holds Try.pinned (OpenSpec.ofChange fnExactEarliestWrong)

/-- 'laws.FnExactTariffOk': WHATEVER THE INPUT: true; the input reads as it did. -/
def fnExactTariffOkSpec : ChangeSpec := { name := "fnExactTariffOk", fn := fun _ => fun
  | [d] => { results := [.lit (.bool true)], args := [d] }
  | _ => none }
def fnExactTariffOkRow : OpenClaim := { program := "ytmhongcbgokilao", sum := "f68ee0b94c018e76d0b804dfb102976fdc1443bd523b7dfedbdb3a8457d0ad72", func := "loop.example/g00211/laws.FnExactTariffOk", spec := "fnExactTariffOk", apart := false }
def FnExactTariffOkSaid : Prop := fnExactTariffOkRow.holds Try.pinned (OpenSpec.ofChange fnExactTariffOkSpec)

/-- ITS FALSE NEIGHBOUR: 'it returns false'. Refute it at one input. -/
def fnExactTariffOkWrong : ChangeSpec := { name := "fnExactTariffOk", fn := fun _ => fun
  | [d] => { results := [.lit (.bool false)], args := [d] }
  | _ => none }
def FnExactTariffOkWrongFalsely : Prop := fnExactTariffOkRow.holds Try.pinned (OpenSpec.ofChange fnExactTariffOkWrong)

/-- 'laws.FnExactBaseCost': WHATEVER THE INPUT: true; the input reads as it did. -/
def fnExactBaseCostSpec : ChangeSpec := { name := "fnExactBaseCost", fn := fun _ => fun
  | [d1, d2, d3] => { results := [.lit (.bool true)], args := [d1, d2, d3] }
  | _ => none }
def fnExactBaseCostRow : OpenClaim := { program := "ytmhongcbgokilao", sum := "f68ee0b94c018e76d0b804dfb102976fdc1443bd523b7dfedbdb3a8457d0ad72", func := "loop.example/g00211/laws.FnExactBaseCost", spec := "fnExactBaseCost", apart := false }
def FnExactBaseCostSaid : Prop := fnExactBaseCostRow.holds Try.pinned (OpenSpec.ofChange fnExactBaseCostSpec)

/-- ITS FALSE NEIGHBOUR: 'it returns false'. Refute it at one input. -/
def fnExactBaseCostWrong : ChangeSpec := { name := "fnExactBaseCost", fn := fun _ => fun
  | [d1, d2, d3] => { results := [.lit (.bool false)], args := [d1, d2, d3] }
  | _ => none }
def FnExactBaseCostWrongFalsely : Prop := fnExactBaseCostRow.holds Try.pinned (OpenSpec.ofChange fnExactBaseCostWrong)

/-- 'laws.FnExactCheapWay': WHATEVER THE INPUT: true; the input reads as it did. -/
def fnExactCheapWaySpec : ChangeSpec := { name := "fnExactCheapWay", fn := fun _ => fun
  | [d1, d2, d3] => { results := [.lit (.bool true)], args := [d1, d2, d3] }
  | _ => none }
def fnExactCheapWayRow : OpenClaim := { program := "ytmhongcbgokilao", sum := "f68ee0b94c018e76d0b804dfb102976fdc1443bd523b7dfedbdb3a8457d0ad72", func := "loop.example/g00211/laws.FnExactCheapWay", spec := "fnExactCheapWay", apart := false }
def FnExactCheapWaySaid : Prop := fnExactCheapWayRow.holds Try.pinned (OpenSpec.ofChange fnExactCheapWaySpec)

/-- ITS FALSE NEIGHBOUR: 'it returns false'. Refute it at one input. -/
def fnExactCheapWayWrong : ChangeSpec := { name := "fnExactCheapWay", fn := fun _ => fun
  | [d1, d2, d3] => { results := [.lit (.bool false)], args := [d1, d2, d3] }
  | _ => none }
def FnExactCheapWayWrongFalsely : Prop := fnExactCheapWayRow.holds Try.pinned (OpenSpec.ofChange fnExactCheapWayWrong)

/-- 'laws.FnExactWayCost': WHATEVER THE INPUT: true; the input reads as it did. -/
def fnExactWayCostSpec : ChangeSpec := { name := "fnExactWayCost", fn := fun _ => fun
  | [d1, d2] => { results := [.lit (.bool true)], args := [d1, d2] }
  | _ => none }
def fnExactWayCostRow : OpenClaim := { program := "ytmhongcbgokilao", sum := "f68ee0b94c018e76d0b804dfb102976fdc1443bd523b7dfedbdb3a8457d0ad72", func := "loop.example/g00211/laws.FnExactWayCost", spec := "fnExactWayCost", apart := false }
def FnExactWayCostSaid : Prop := fnExactWayCostRow.holds Try.pinned (OpenSpec.ofChange fnExactWayCostSpec)

/-- ITS FALSE NEIGHBOUR: 'it returns false'. Refute it at one input. -/
def fnExactWayCostWrong : ChangeSpec := { name := "fnExactWayCost", fn := fun _ => fun
  | [d1, d2] => { results := [.lit (.bool false)], args := [d1, d2] }
  | _ => none }
def FnExactWayCostWrongFalsely : Prop := fnExactWayCostRow.holds Try.pinned (OpenSpec.ofChange fnExactWayCostWrong)

/-- 'laws.FnExactRate': WHATEVER THE INPUT: true; the input reads as it did. -/
def fnExactRateSpec : ChangeSpec := { name := "fnExactRate", fn := fun _ => fun
  | [d1, d2] => { results := [.lit (.bool true)], args := [d1, d2] }
  | _ => none }
def fnExactRateRow : OpenClaim := { program := "ytmhongcbgokilao", sum := "f68ee0b94c018e76d0b804dfb102976fdc1443bd523b7dfedbdb3a8457d0ad72", func := "loop.example/g00211/laws.FnExactRate", spec := "fnExactRate", apart := false }
def FnExactRateSaid : Prop := fnExactRateRow.holds Try.pinned (OpenSpec.ofChange fnExactRateSpec)

/-- ITS FALSE NEIGHBOUR: 'it returns false'. Refute it at one input. -/
def fnExactRateWrong : ChangeSpec := { name := "fnExactRate", fn := fun _ => fun
  | [d1, d2] => { results := [.lit (.bool false)], args := [d1, d2] }
  | _ => none }
def FnExactRateWrongFalsely : Prop := fnExactRateRow.holds Try.pinned (OpenSpec.ofChange fnExactRateWrong)

/- THE SECOND FORM. 'bulk': how many values and letters a reading holds, each counted each time it is reached (what is shared counts as often as it is met; a slice's spare places count too). A statement '..UptoSaid' is the law's where the arguments, and the package variables that the reading takes, are together of bulk at most 1048576: NARROWER than '..Said'. Prove '..Said' where nothing that the law and all that it calls make is longer than what came in: it says more and counts as full. Else prove '..UptoSaid'. A law counts once. -/
mutual
def uptoBulk {H : Type} : DataW H → Nat
  | .lit (.string bytes) => bytes.length + 1
  | .lit _ => 1
  | .nil => 1
  | .ptr d => uptoBulk d + 1
  | .slice elems spare => uptoBulkAll elems + uptoBulkAll spare + 1
  | .agg parts => uptoBulkAll parts + 1
  | .iface _ d => uptoBulk d + 1
  | .map entries => uptoBulkEntries entries + 1
  | .held _ => 1
def uptoBulkAll {H : Type} : List (DataW H) → Nat
  | [] => 0
  | d :: r => uptoBulk d + uptoBulkAll r
def uptoBulkEntries {H : Type} : List (Lit × DataW H) → Nat
  | [] => 0
  | x :: r => uptoBulkEntry x + uptoBulkEntries r
def uptoBulkEntry {H : Type} : Lit × DataW H → Nat
  | (.string bytes, d) => bytes.length + uptoBulk d + 1
  | (_, d) => uptoBulk d + 1
 end
def uptoSmall : (H : Type) → List (DataW H) → Bool := fun _ ds => decide (uptoBulkAll ds ≤ 1048576)
def OpenSpec.upto (s : _root_.Go.ChangeSpec) : _root_.Go.OpenSpec := { _root_.Go.OpenSpec.ofChange s with cond := some uptoSmall }

/-- 'laws.FnExactEarliest', WHERE WHAT IT READS IS OF BULK AT MOST 1048576: true; the input reads as it did. -/
def fnExactEarliestUptoRow : OpenClaim := { program := "ytmhongcbgokilao", sum := "f68ee0b94c018e76d0b804dfb102976fdc1443bd523b7dfedbdb3a8457d0ad72", func := "loop.example/g00211/laws.FnExactEarliest", spec := "fnExactEarliest", unfollowed := true, recurses := true, apart := false, narrowed := true }
def FnExactEarliestUptoSaid : Prop := fnExactEarliestUptoRow.holds Try.pinned (OpenSpec.upto fnExactEarliestSpec)

/-- 'laws.FnExactTariffOk', WHERE WHAT IT READS IS OF BULK AT MOST 1048576: true; the input reads as it did. -/
def fnExactTariffOkUptoRow : OpenClaim := { program := "ytmhongcbgokilao", sum := "f68ee0b94c018e76d0b804dfb102976fdc1443bd523b7dfedbdb3a8457d0ad72", func := "loop.example/g00211/laws.FnExactTariffOk", spec := "fnExactTariffOk", apart := false, narrowed := true }
def FnExactTariffOkUptoSaid : Prop := fnExactTariffOkUptoRow.holds Try.pinned (OpenSpec.upto fnExactTariffOkSpec)

/-- 'laws.FnExactBaseCost', WHERE WHAT IT READS IS OF BULK AT MOST 1048576: true; the input reads as it did. -/
def fnExactBaseCostUptoRow : OpenClaim := { program := "ytmhongcbgokilao", sum := "f68ee0b94c018e76d0b804dfb102976fdc1443bd523b7dfedbdb3a8457d0ad72", func := "loop.example/g00211/laws.FnExactBaseCost", spec := "fnExactBaseCost", apart := false, narrowed := true }
def FnExactBaseCostUptoSaid : Prop := fnExactBaseCostUptoRow.holds Try.pinned (OpenSpec.upto fnExactBaseCostSpec)

/-- 'laws.FnExactCheapWay', WHERE WHAT IT READS IS OF BULK AT MOST 1048576: true; the input reads as it did. -/
def fnExactCheapWayUptoRow : OpenClaim := { program := "ytmhongcbgokilao", sum := "f68ee0b94c018e76d0b804dfb102976fdc1443bd523b7dfedbdb3a8457d0ad72", func := "loop.example/g00211/laws.FnExactCheapWay", spec := "fnExactCheapWay", apart := false, narrowed := true }
def FnExactCheapWayUptoSaid : Prop := fnExactCheapWayUptoRow.holds Try.pinned (OpenSpec.upto fnExactCheapWaySpec)

/-- 'laws.FnExactWayCost', WHERE WHAT IT READS IS OF BULK AT MOST 1048576: true; the input reads as it did. -/
def fnExactWayCostUptoRow : OpenClaim := { program := "ytmhongcbgokilao", sum := "f68ee0b94c018e76d0b804dfb102976fdc1443bd523b7dfedbdb3a8457d0ad72", func := "loop.example/g00211/laws.FnExactWayCost", spec := "fnExactWayCost", apart := false, narrowed := true }
def FnExactWayCostUptoSaid : Prop := fnExactWayCostUptoRow.holds Try.pinned (OpenSpec.upto fnExactWayCostSpec)

/-- 'laws.FnExactRate', WHERE WHAT IT READS IS OF BULK AT MOST 1048576: true; the input reads as it did. -/
def fnExactRateUptoRow : OpenClaim := { program := "ytmhongcbgokilao", sum := "f68ee0b94c018e76d0b804dfb102976fdc1443bd523b7dfedbdb3a8457d0ad72", func := "loop.example/g00211/laws.FnExactRate", spec := "fnExactRate", apart := false, narrowed := true }
def FnExactRateUptoSaid : Prop := fnExactRateUptoRow.holds Try.pinned (OpenSpec.upto fnExactRateSpec)

end Rows
end Go.Proofs.Ytmhongcbgokilao

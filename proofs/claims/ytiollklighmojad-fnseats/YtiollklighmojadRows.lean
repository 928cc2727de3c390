/-
  No cell of these rows narrows 'for every input' (looked for: loops, veiled, ifaces, maps, wideKeys, modest, calm, conditions, laid).
  DERIVED. THE GIVEN ROWS OF THIS SEAT. 6 by the template 'for every input the law returns true; each argument reads behind the call as it read before'; 0 by the template 'total and deterministic' (their statements: YtiollklighmojadTotals.lean).
  GIVEN WITH THE SEED: the statements are not yours to turn. If you find one false, say at which input.
  Laid BY PROGRAM, IN A SANDBOX (cutbox-rows.mjs): the forced cells as the released guide's own fill.sh prints them over the translation 1cd5e8b0be92c2cb… (all of the seat's roots in one cut). By AI agents, Wed Nov 11 2026. No macro, syntax, notation, axiom, sorry.
-/
import Derived.Test.YtiollklighmojadChecked
import GoSem.Claim
import GoSem.ClaimJoined
import GoSem.ClaimMapViews
import Derived.JoinedTies
import Derived.KernelRfl
namespace Go.Proofs.Ytiollklighmojad
/- THE CELL 'sum', in the pinned program and in every row, IS THE sha256 OF THE DUMP (.gsa) THAT YtiollklighmojadProg.lean LOADS. Nothing in Lean hashes anything: it is a label: what it is worth is what the hold of that sum in a sandbox is worth. -/
noncomputable def Try.pinned : Pinned := { name := "ytiollklighmojad", sum := "1cd5e8b0be92c2cb9803be453aa42658886b81c256845ba1537549062051f163", checked := Try.checked }
namespace Rows
def none {H : Type} : Left H := { results := [], args := [] }

/-- 'laws.FnTrains': WHATEVER THE INPUT: true; the input reads as it did. -/
def fnTrainsSpec : ChangeSpec := { name := "fnTrains", fn := fun _ => fun
  | [d] => { results := [.lit (.bool true)], args := [d] }
  | _ => none }
def fnTrainsRow : OpenClaim := { program := "ytiollklighmojad", sum := "1cd5e8b0be92c2cb9803be453aa42658886b81c256845ba1537549062051f163", func := "loop.example/g00211/laws.FnTrains", spec := "fnTrains", unfollowed := true, recurses := true, plainKeys := false, apart := false }
def FnTrainsSaid : Prop := fnTrainsRow.holds Try.pinned (OpenSpec.ofChange fnTrainsSpec)

/-- ITS FALSE NEIGHBOUR: 'it returns false'. Refute it at one input. -/
def fnTrainsWrong : ChangeSpec := { name := "fnTrains", fn := fun _ => fun
  | [d] => { results := [.lit (.bool false)], args := [d] }
  | _ => none }
def FnTrainsWrongFalsely : Prop := fnTrainsRow.holds Try.pinned (OpenSpec.ofChange fnTrainsWrong)

/-- 'laws.FnEarliest': WHATEVER THE INPUT: true; the input reads as it did. -/
def fnEarliestSpec : ChangeSpec := { name := "fnEarliest", fn := fun _ => fun
  | [d] => { results := [.lit (.bool true)], args := [d] }
  | _ => none }
def fnEarliestRow : OpenClaim := { program := "ytiollklighmojad", sum := "1cd5e8b0be92c2cb9803be453aa42658886b81c256845ba1537549062051f163", func := "loop.example/g00211/laws.FnEarliest", spec := "fnEarliest", unfollowed := true, recurses := true, plainKeys := false, apart := false }
def FnEarliestSaid : Prop := fnEarliestRow.holds Try.pinned (OpenSpec.ofChange fnEarliestSpec)

/-- ITS FALSE NEIGHBOUR: 'it returns false'. Refute it at one input. -/
def fnEarliestWrong : ChangeSpec := { name := "fnEarliest", fn := fun _ => fun
  | [d] => { results := [.lit (.bool false)], args := [d] }
  | _ => none }
def FnEarliestWrongFalsely : Prop := fnEarliestRow.holds Try.pinned (OpenSpec.ofChange fnEarliestWrong)

/-- 'laws.FnFare': WHATEVER THE INPUT: true; the input reads as it did. -/
def fnFareSpec : ChangeSpec := { name := "fnFare", fn := fun _ => fun
  | [d] => { results := [.lit (.bool true)], args := [d] }
  | _ => none }
def fnFareRow : OpenClaim := { program := "ytiollklighmojad", sum := "1cd5e8b0be92c2cb9803be453aa42658886b81c256845ba1537549062051f163", func := "loop.example/g00211/laws.FnFare", spec := "fnFare", plainKeys := false, apart := false }
def FnFareSaid : Prop := fnFareRow.holds Try.pinned (OpenSpec.ofChange fnFareSpec)

/-- ITS FALSE NEIGHBOUR: 'it returns false'. Refute it at one input. -/
def fnFareWrong : ChangeSpec := { name := "fnFare", fn := fun _ => fun
  | [d] => { results := [.lit (.bool false)], args := [d] }
  | _ => none }
def FnFareWrongFalsely : Prop := fnFareRow.holds Try.pinned (OpenSpec.ofChange fnFareWrong)

/-- 'laws.FnPrice': WHATEVER THE INPUT: true; the input reads as it did. -/
def fnPriceSpec : ChangeSpec := { name := "fnPrice", fn := fun _ => fun
  | [d] => { results := [.lit (.bool true)], args := [d] }
  | _ => none }
def fnPriceRow : OpenClaim := { program := "ytiollklighmojad", sum := "1cd5e8b0be92c2cb9803be453aa42658886b81c256845ba1537549062051f163", func := "loop.example/g00211/laws.FnPrice", spec := "fnPrice", plainKeys := false, apart := false }
def FnPriceSaid : Prop := fnPriceRow.holds Try.pinned (OpenSpec.ofChange fnPriceSpec)

/-- ITS FALSE NEIGHBOUR: 'it returns false'. Refute it at one input. -/
def fnPriceWrong : ChangeSpec := { name := "fnPrice", fn := fun _ => fun
  | [d] => { results := [.lit (.bool false)], args := [d] }
  | _ => none }
def FnPriceWrongFalsely : Prop := fnPriceRow.holds Try.pinned (OpenSpec.ofChange fnPriceWrong)

/-- 'laws.FnSeats': WHATEVER THE INPUT: true; the input reads as it did. -/
def fnSeatsSpec : ChangeSpec := { name := "fnSeats", fn := fun _ => fun
  | [d] => { results := [.lit (.bool true)], args := [d] }
  | _ => none }
def fnSeatsRow : OpenClaim := { program := "ytiollklighmojad", sum := "1cd5e8b0be92c2cb9803be453aa42658886b81c256845ba1537549062051f163", func := "loop.example/g00211/laws.FnSeats", spec := "fnSeats", unfollowed := true, recurses := true, plainKeys := false, apart := false }
def FnSeatsSaid : Prop := fnSeatsRow.holds Try.pinned (OpenSpec.ofChange fnSeatsSpec)

/-- ITS FALSE NEIGHBOUR: 'it returns false'. Refute it at one input. -/
def fnSeatsWrong : ChangeSpec := { name := "fnSeats", fn := fun _ => fun
  | [d] => { results := [.lit (.bool false)], args := [d] }
  | _ => none }
def FnSeatsWrongFalsely : Prop := fnSeatsRow.holds Try.pinned (OpenSpec.ofChange fnSeatsWrong)

/-- 'laws.FnMeet': WHATEVER THE INPUT: true; the input reads as it did. -/
def fnMeetSpec : ChangeSpec := { name := "fnMeet", fn := fun _ => fun
  | [d] => { results := [.lit (.bool true)], args := [d] }
  | _ => none }
def fnMeetRow : OpenClaim := { program := "ytiollklighmojad", sum := "1cd5e8b0be92c2cb9803be453aa42658886b81c256845ba1537549062051f163", func := "loop.example/g00211/laws.FnMeet", spec := "fnMeet", unfollowed := true, recurses := true, plainKeys := false, apart := false }
def FnMeetSaid : Prop := fnMeetRow.holds Try.pinned (OpenSpec.ofChange fnMeetSpec)

/-- ITS FALSE NEIGHBOUR: 'it returns false'. Refute it at one input. -/
def fnMeetWrong : ChangeSpec := { name := "fnMeet", fn := fun _ => fun
  | [d] => { results := [.lit (.bool false)], args := [d] }
  | _ => none }
def FnMeetWrongFalsely : Prop := fnMeetRow.holds Try.pinned (OpenSpec.ofChange fnMeetWrong)

/- THE SECOND FORM. 'bulk': how many values and letters a reading holds, each counted each time it is reached (what is shared counts as often as it is met; a slice's spare places count too). A statement '..UptoSaid' is the law's where the arguments, and the package variables that the reading takes, are together of bulk at most 1048576: NARROWER than '..Said'. Prove '..Said' where nothing that the law and all that it calls make is longer than what came in: it says more and counts as full. Else prove '..UptoSaid'. A law counts once. -/
mutual
def uptoBulk {H : Type} : DataW H → Nat
  | .lit (.string bytes) => bytes.length + 1
  | .lit _ => 1
  | .nil => 1
  | .ptr d => uptoBulk d + 1
  | .slice elems spare => uptoBulkAll elems + uptoBulkAll spare + 1
  | .agg parts => uptoBulkAll parts + 1
  | .iface _ d => uptoBulk d + 1
  | .map entries => uptoBulkEntries entries + 1
  | .held _ => 1
def uptoBulkAll {H : Type} : List (DataW H) → Nat
  | [] => 0
  | d :: r => uptoBulk d + uptoBulkAll r
def uptoBulkEntries {H : Type} : List (Lit × DataW H) → Nat
  | [] => 0
  | x :: r => uptoBulkEntry x + uptoBulkEntries r
def uptoBulkEntry {H : Type} : Lit × DataW H → Nat
  | (.string bytes, d) => bytes.length + uptoBulk d + 1
  | (_, d) => uptoBulk d + 1
 end
def uptoSmall : (H : Type) → List (DataW H) → Bool := fun _ ds => decide (uptoBulkAll ds ≤ 1048576)
def OpenSpec.upto (s : _root_.Go.ChangeSpec) : _root_.Go.OpenSpec := { _root_.Go.OpenSpec.ofChange s with cond := some uptoSmall }

/-- 'laws.FnTrains', WHERE WHAT IT READS IS OF BULK AT MOST 1048576: true; the input reads as it did. -/
def fnTrainsUptoRow : OpenClaim := { program := "ytiollklighmojad", sum := "1cd5e8b0be92c2cb9803be453aa42658886b81c256845ba1537549062051f163", func := "loop.example/g00211/laws.FnTrains", spec := "fnTrains", unfollowed := true, recurses := true, plainKeys := false, apart := false, narrowed := true }
def FnTrainsUptoSaid : Prop := fnTrainsUptoRow.holds Try.pinned (OpenSpec.upto fnTrainsSpec)

/-- 'laws.FnEarliest', WHERE WHAT IT READS IS OF BULK AT MOST 1048576: true; the input reads as it did. -/
def fnEarliestUptoRow : OpenClaim := { program := "ytiollklighmojad", sum := "1cd5e8b0be92c2cb9803be453aa42658886b81c256845ba1537549062051f163", func := "loop.example/g00211/laws.FnEarliest", spec := "fnEarliest", unfollowed := true, recurses := true, plainKeys := false, apart := false, narrowed := true }
def FnEarliestUptoSaid : Prop := fnEarliestUptoRow.holds Try.pinned (OpenSpec.upto fnEarliestSpec)

/-- 'laws.FnFare', WHERE WHAT IT READS IS OF BULK AT MOST 1048576: true; the input reads as it did. -/
def fnFareUptoRow : OpenClaim := { program := "ytiollklighmojad", sum := "1cd5e8b0be92c2cb9803be453aa42658886b81c256845ba1537549062051f163", func := "loop.example/g00211/laws.FnFare", spec := "fnFare", plainKeys := false, apart := false, narrowed := true }
def FnFareUptoSaid : Prop := fnFareUptoRow.holds Try.pinned (OpenSpec.upto fnFareSpec)

/-- 'laws.FnPrice', WHERE WHAT IT READS IS OF BULK AT MOST 1048576: true; the input reads as it did. -/
def fnPriceUptoRow : OpenClaim := { program := "ytiollklighmojad", sum := "1cd5e8b0be92c2cb9803be453aa42658886b81c256845ba1537549062051f163", func := "loop.example/g00211/laws.FnPrice", spec := "fnPrice", plainKeys := false, apart := false, narrowed := true }
def FnPriceUptoSaid : Prop := fnPriceUptoRow.holds Try.pinned (OpenSpec.upto fnPriceSpec)

/-- 'laws.FnSeats', WHERE WHAT IT READS IS OF BULK AT MOST 1048576: true; the input reads as it did. -/
def fnSeatsUptoRow : OpenClaim := { program := "ytiollklighmojad", sum := "1cd5e8b0be92c2cb9803be453aa42658886b81c256845ba1537549062051f163", func := "loop.example/g00211/laws.FnSeats", spec := "fnSeats", unfollowed := true, recurses := true, plainKeys := false, apart := false, narrowed := true }
def FnSeatsUptoSaid : Prop := fnSeatsUptoRow.holds Try.pinned (OpenSpec.upto fnSeatsSpec)

/-- 'laws.FnMeet', WHERE WHAT IT READS IS OF BULK AT MOST 1048576: true; the input reads as it did. -/
def fnMeetUptoRow : OpenClaim := { program := "ytiollklighmojad", sum := "1cd5e8b0be92c2cb9803be453aa42658886b81c256845ba1537549062051f163", func := "loop.example/g00211/laws.FnMeet", spec := "fnMeet", unfollowed := true, recurses := true, plainKeys := false, apart := false, narrowed := true }
def FnMeetUptoSaid : Prop := fnMeetUptoRow.holds Try.pinned (OpenSpec.upto fnMeetSpec)

end Rows
end Go.Proofs.Ytiollklighmojad

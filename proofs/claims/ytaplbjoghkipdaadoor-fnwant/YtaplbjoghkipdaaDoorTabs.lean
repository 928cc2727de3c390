/- What the rows of this seat list of the library's tables, one by one, and worlds that hold them. -/
import Derived.Test.YtaplbjoghkipdaaDoorDecDoor
import Derived.WalkKit
import Derived.ProofKit
import Derived.OpenShut
import Derived.Deep.DeepHandedRow
import Derived.Lib.LaidTab
import Derived.Stop.LaidErr
import Derived.ChangeOld
import Derived.Below
namespace Go.Proofs.YtaplbjoghkipdaaDoor
namespace Tabs
open Go.ChangeShapes Go.WideShapes Go.ChangeAt Go.RowKit

/-- The cells of a number, or of a few of them. -/
def flat1 : DataW Unit → List Value
  | .lit (.int k z) => [Value.int k z]
  | .agg l => l.map fun d => match d with | .lit (.int k z) => Value.int k z | _ => Value.bool false
  | _ => [Value.bool false]

/-- The cells that a table of numbers, or of a few of them each, reads as. -/
def vals : DataW Unit → Array Value
  | .agg l => (l.flatMap flat1).toArray
  | _ => #[]

/-- Cells put into a block. -/
def put (c : Array Value) : Obj → Obj
  | .cells _ t frozen => .cells c t frozen
  | o => o

/-- A world with a table in it. -/
def tabW (g : Nat) (d : DataW Unit) (w : World) : World := { w with heap := w.heap.modify g (put (vals d)) }

theorem gTab : Tryd.prog.globalNamed "internal/strconv.uint64pow10" = some 0 := by kernel_rfl

theorem gTabType : (Tryd.prog.globals[0]?).map (·.type) = some 113 := by kernel_rfl

theorem cellsT : Tryd.prog.cellsOf 113 = 20 := by kernel_rfl

theorem cellsE : Tryd.prog.cellsOf 104 = 1 := by kernel_rfl

theorem tens_eq : (Rows.laid_internal_strconv_uint64pow10 : DataW Unit) = Lib.tabData .u64 Lib.pow10Tab := by kernel_rfl

theorem tens_of {r : List (String × DataW Unit)} {W : World} (h : laidMet Tryd.prog (("internal/strconv.uint64pow10", Rows.laid_internal_strconv_uint64pow10) :: r) W) : Num.Tens W := by
  rw [tens_eq] at h
  exact Lib.tabIs_of_head (rest := r) gTab gTabType Tryd.underlying113 Tryd.underlying104 cellsE cellsT h

end Tabs
end Go.Proofs.YtaplbjoghkipdaaDoor

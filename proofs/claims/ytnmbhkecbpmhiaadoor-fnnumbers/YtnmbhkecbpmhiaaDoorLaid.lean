/- What the rows of this seat list of the library's tables, and a world that holds them. -/
import Derived.Test.YtnmbhkecbpmhiaaDoorDecDoor
import Derived.Test.YtnmbhkecbpmhiaaDoorCards
import Derived.Test.YtnmbhkecbpmhiaaDoorTie
import Derived.WalkKit
import Derived.ProofKit
import Derived.OpenShut
import Derived.Deep.DeepHandedRow
import Derived.Lib.LaidTab
import Derived.Stop.LaidErr
import Derived.ChangeOld
import Derived.Below
namespace Go.Proofs.YtnmbhkecbpmhiaaDoor
namespace Laid
open Go.ChangeShapes Go.WideShapes Go.ChangeAt Go.RowKit

/-- The cells that a table of numbers reads as. -/
def vals : DataW Unit → Array Value
  | .agg l => (l.map fun d => match d with | .lit (.int k z) => Value.int k z | _ => Value.bool false).toArray
  | _ => #[]

/-- Cells put into a block. -/
def put (c : Array Value) : Obj → Obj
  | .cells _ t frozen => .cells c t frozen
  | o => o

/-- A world with the three tables in it. -/
def laidW (w : World) : World :=
  { w with heap := ((w.heap.modify 0 (put (vals Rows.laid_internal_strconv_uint64pow10))).modify 1 (put (vals Rows.laid_math_bits_deBruijn32tab))).modify 2 (put (vals Rows.laid_math_bits_deBruijn64tab)) }

theorem own : ownKnob Tryd.prog.godebug = none := by kernel_rfl

theorem laidOut : laidOutB Tryd.prog = true := by kernel_rfl

theorem gTab : Tryd.prog.globalNamed "internal/strconv.uint64pow10" = some 0 := by kernel_rfl

theorem gTabType : (Tryd.prog.globals[0]?).map (·.type) = some 53 := by kernel_rfl

theorem cellsT : Tryd.prog.cellsOf 53 = 20 := by kernel_rfl

theorem cellsE : Tryd.prog.cellsOf 46 = 1 := by kernel_rfl

theorem tens_eq : (Rows.laid_internal_strconv_uint64pow10 : DataW Unit) = Lib.tabData .u64 Lib.pow10Tab := by kernel_rfl

theorem tens {W : World} (h : laidMet Tryd.prog [("math/bits.deBruijn32tab", Rows.laid_math_bits_deBruijn32tab), ("math/bits.deBruijn64tab", Rows.laid_math_bits_deBruijn64tab), ("internal/strconv.uint64pow10", Rows.laid_internal_strconv_uint64pow10)] W) : Num.Tens W := by
  have h2 := h.tail.tail
  rw [tens_eq] at h2
  exact Lib.tabIs_of_head (rest := []) gTab gTabType Tryd.underlying53 Tryd.underlying46 cellsE cellsT h2

end Laid
end Go.Proofs.YtnmbhkecbpmhiaaDoor

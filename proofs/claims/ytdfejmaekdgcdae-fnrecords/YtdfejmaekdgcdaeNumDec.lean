/- Contracts of DecText of the model, and of ReadDec. -/
import Derived.Test.YtdfejmaekdgcdaeNum
import Derived.Test.YtdfejmaekdgcdaeMathSum
import Derived.Test.YtdfejmaekdgcdaeMathDec
import Derived.WalkSpells
namespace Go.Proofs.Ytdfejmaekdgcdae
namespace Num
open Go.ChangeShapes Go.WideShapes Go.ChangeAt Go.RowKit

/-- The decimal text of n. -/
def decS (n : Int) : ByteArray := ⟨(Lib.itoa n).toArray⟩

theorem ret_string {a b : ByteArray} (h : a = b) : Ending.returned (.string a) = .returned (.string b) := by rw [h]

end Num
end Go.Proofs.Ytdfejmaekdgcdae

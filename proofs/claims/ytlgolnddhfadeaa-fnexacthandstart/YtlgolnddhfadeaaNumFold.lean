/- Contracts of Fold, of the program and of its model: what it returns is the folding of the bytes of the text, by the measure. -/
import Derived.Test.YtlgolnddhfadeaaNum
import Derived.Test.YtlgolnddhfadeaaMathSum
import Derived.Deep.QuietTactic
import Derived.BigQuiet
namespace Go.Proofs.Ytlgolnddhfadeaa
namespace Num
open Go.ChangeShapes Go.WideShapes Go.ChangeAt Go.RowKit

/-- What Fold answers. -/
def foldV (s : ByteArray) (m : Int) : Int := if 2 ≤ m ∧ m ≤ 2147483647 ∧ s.size ≤ 5000 then (Math.foldAt s.data.toList : Int) % m else -1

end Num
end Go.Proofs.Ytlgolnddhfadeaa

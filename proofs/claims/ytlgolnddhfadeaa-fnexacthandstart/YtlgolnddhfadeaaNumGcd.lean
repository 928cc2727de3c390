/- Contracts of Gcd, of the program and of its model: what it returns is the greatest common divisor. -/
import Derived.Test.YtlgolnddhfadeaaNum
import Derived.Deep.QuietTactic
import Derived.BigQuiet
namespace Go.Proofs.Ytlgolnddhfadeaa
namespace Num
open Go.ChangeShapes Go.WideShapes Go.ChangeAt Go.RowKit

end Num
end Go.Proofs.Ytlgolnddhfadeaa

/- Contracts of CheckSum, of the program and of its model: what it returns is the sum of the bytes of the text. -/
import Derived.Test.YtdfejmaekdgcdasRows
import Derived.Test.YtdfejmaekdgcdasMathSum
import Derived.WalkKit
import Derived.ProofKit
import Derived.OpenShut
namespace Go.Proofs.Ytdfejmaekdgcdas
namespace Num
open Go.ChangeShapes Go.WideShapes Go.ChangeAt Go.RowKit

theorem ret_int' {k : IntKind} {a b : Int} (h : a = b) : Ending.returned (.int k a) = .returned (.int k b) := by rw [h]

end Num
end Go.Proofs.Ytdfejmaekdgcdas

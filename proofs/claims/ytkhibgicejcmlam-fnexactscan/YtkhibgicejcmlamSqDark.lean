/- Contracts of DarkAt, of the program and of its model. -/
import Derived.Test.YtkhibgicejcmlamSqIdx
namespace Go.Proofs.Ytkhibgicejcmlam
namespace Sq
open Go.ChangeShapes Go.WideShapes Go.ChangeAt Go.RowKit
open Pk (Drawn)
set_option linter.unusedSimpArgs false
set_option linter.unusedVariables false

end Sq
end Go.Proofs.Ytkhibgicejcmlam

/- The program's table of runs: what the rows list of it, and what its cells hold. -/
import Derived.Test.YtkhibgicejcmlamPkRow
import Derived.Test.YtkhibgicejcmlamErrs
import Derived.Deep.Strs
namespace Go.Proofs.Ytkhibgicejcmlam
namespace Pk
open Go.ChangeShapes Go.WideShapes Go.ChangeAt Go.RowKit
set_option linter.unusedSimpArgs false
set_option linter.unusedVariables false

/-- The numbers of the table. -/
def runVals : List Int := [256, 279, 7, 0, 0, 143, 8, 48, 280, 287, 8, 192, 144, 255, 9, 400]

end Pk
end Go.Proofs.Ytkhibgicejcmlam

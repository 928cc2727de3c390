/- A train, and a list of trains, that came in: what they hold. -/
import Derived.Test.YtaplbjoghkipdaaDoorTnTrn
namespace Go.Proofs.YtaplbjoghkipdaaDoor
namespace Tn
open Go.ChangeShapes Go.WideShapes Go.ChangeAt Go.RowKit
set_option linter.unusedSimpArgs false
set_option linter.unusedVariables false

end Tn
end Go.Proofs.YtaplbjoghkipdaaDoor

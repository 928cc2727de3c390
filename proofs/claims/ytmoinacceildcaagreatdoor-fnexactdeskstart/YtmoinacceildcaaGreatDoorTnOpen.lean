/- A train, and a list of trains, that came in: what they hold. -/
import Derived.Test.YtmoinacceildcaaGreatDoorTnTrn
namespace Go.Proofs.YtmoinacceildcaaGreatDoor
namespace Tn
open Go.ChangeShapes Go.WideShapes Go.ChangeAt Go.RowKit
set_option linter.unusedSimpArgs false
set_option linter.unusedVariables false

end Tn
end Go.Proofs.YtmoinacceildcaaGreatDoor

/- Contracts of the program's functions of chapter 2: a mark by one draw, further. -/
import Derived.Test.YtdcpjicgehdmfaaGreatDoorSignOnce
namespace Go.Proofs.YtdcpjicgehdmfaaGreatDoor
namespace Num
open Go.ChangeShapes Go.WideShapes Go.ChangeAt Go.RowKit
set_option linter.unusedSimpArgs false
set_option linter.unusedVariables false

end Num
end Go.Proofs.YtdcpjicgehdmfaaGreatDoor

/- Contracts of the program's functions of chapter 2: secrets and open keys. -/
import Derived.Test.YtdcpjicgehdmfaaGreatDoorSignImpl
import Derived.Test.YtdcpjicgehdmfaaGreatDoorSignSpec2
import Derived.Test.YtdcpjicgehdmfaaGreatDoorErrs
namespace Go.Proofs.YtdcpjicgehdmfaaGreatDoor
namespace Num
open Go.ChangeShapes Go.WideShapes Go.ChangeAt Go.RowKit
set_option linter.unusedSimpArgs false
set_option linter.unusedVariables false

theorem implParamsOk_is (p q g:Int) (b:Bool) (h:okP p q g=b) (w:World):
 Calls Tryz.prog 160 #[pv p q g] w fun e w'=>e= .returned (.bool b)∧Below w.heap.size w w':=by
 subst h
 exact implParamsOk_val p q g w

theorem err_cell {g:Nat} {w:World} (E:Errs.ErrAt g w):∃a:Addr,w.cell? ⟨g,0,none⟩=some (.iface 233 (.pointer (some a))):=E

end Num
end Go.Proofs.YtdcpjicgehdmfaaGreatDoor

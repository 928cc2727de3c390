/- The library's variable that its search reads; the number that a word tells. -/
import Derived.Test.YtdcpjicgehdmfaaGreatDoorGtNums
import Derived.Test.YtdcpjicgehdmfaaGreatDoorSqRow
import Derived.Test.YtdcpjicgehdmfaaGreatDoorTkTic
import Derived.Test.YtdcpjicgehdmfaaGreatDoorShelf
namespace Go.Proofs.YtdcpjicgehdmfaaGreatDoor
namespace Gt
open Go.ChangeShapes Go.WideShapes Go.ChangeAt Go.RowKit
set_option linter.unusedSimpArgs false
set_option linter.unusedVariables false

def ML (w:World):Prop:=∃m:Int,w.cell? ⟨0,0,none⟩=some (.int .i64 m)

theorem ML.on {w w1:World} (h:ML w) (L:Below w.heap.size w w1):ML w1:=by
 obtain⟨m,hm⟩:=h
 exact⟨m,by rw[L.cell (World.block_lt_of_cell? w _ hm)];exact hm⟩

theorem ML.drew {w:World} (h:ML w):ML w.drew:=h

open Classical in
noncomputable def rv (x:ByteArray):Nat:=if Rd x then vl x else 0

theorem rv_yes {x:ByteArray} (h:Rd x):rv x=vl x:=by unfold rv;rw[if_pos h]

theorem rv_no {x:ByteArray} (h:¬Rd x):rv x=0:=by unfold rv;rw[if_neg h]

theorem info_int':(Tryz.prog.info? 3).map (fun i=>(i.zero,i.size,i.bytes))=some (some (.int .i64 0),1,8):=by kernel_rfl

end Gt
end Go.Proofs.YtdcpjicgehdmfaaGreatDoor

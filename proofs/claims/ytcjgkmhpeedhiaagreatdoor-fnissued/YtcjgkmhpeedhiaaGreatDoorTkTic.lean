/- Contracts of the laws' own helpers over tickets: their size, a copy, two of them held against each other; a ticket that came in. -/
import Derived.Test.YtcjgkmhpeedhiaaGreatDoorTkOk
import Derived.Deep.Slices
import Derived.Deep.Strs
import Derived.Lib.SmallJoins
namespace Go.Proofs.YtcjgkmhpeedhiaaGreatDoor
namespace Tk
open Go.ChangeShapes Go.WideShapes Go.ChangeAt Go.RowKit Go.Joins
open Pk (new_below join_below cell_at heap_new frozen_at lt_of kept heap_old)
set_option linter.unusedSimpArgs false
set_option linter.unusedVariables false

theorem named {P:Program} {f:FuncId} {args:Array Value} {w:World} {post:Ending→World→Prop} (h:∀W,W=w→Calls P f args W post):Calls P f args w post:=h w rfl

theorem h_set {w:World} {c i:Nat} {cs:Array Value} {t:TypeId} {f:Nat×Nat} (h:w.heap[c]? =some (.cells cs t f)) (u:Value):(w.setCell ⟨c,i,none⟩ u).heap[c]? =some (.cells (cs.setIfInBounds i u) t f):=by
 unfold World.setCell
 simp[Array.getElem?_modify,h]

theorem h_other {w:World} {c g i:Nat} {x:Obj} (h:w.heap[c]? =some x) (hne:c≠g) (u:Value):(w.setCell ⟨g,i,none⟩ u).heap[c]? =some x:=by
 rw[Below.heap_setCell w ⟨g,i,none⟩ u c hne]
 exact h

theorem cell_other {w:World} {b o:Nat} {p:Addr} {u:Value} (h:p.block≠b):(w.setCell ⟨b,o,none⟩ u).cell? p=w.cell? p:=World.cell?_of_block (Below.heap_setCell _ _ _ _ h)

end Tk
end Go.Proofs.YtcjgkmhpeedhiaaGreatDoor

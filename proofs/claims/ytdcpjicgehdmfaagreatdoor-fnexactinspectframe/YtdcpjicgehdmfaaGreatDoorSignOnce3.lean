/- Contracts of the program's functions of chapter 2: a signer, and SignOnce. -/
import Derived.Test.YtdcpjicgehdmfaaGreatDoorSignOnce2
namespace Go.Proofs.YtdcpjicgehdmfaaGreatDoor
namespace Num
open Go.ChangeShapes Go.WideShapes Go.ChangeAt Go.RowKit
set_option linter.unusedSimpArgs false
set_option linter.unusedVariables false

theorem two (w:World) (a b:Obj):Below w.heap.size w ((w.alloc a).alloc b)∧((w.alloc a).alloc b).heap[w.heap.size]? =some a∧((w.alloc a).alloc b).heap[w.heap.size+1]? =some b:=by
 refine⟨join_below (new_below _ _) (new_below _ _),heap_old (heap_new w a) b,?_⟩
 have:=heap_new (w.alloc a) b
 simpa using this

theorem err_lt {g:Nat} {w:World} {v:Value} (h:w.cell? ⟨g,0,none⟩=some v):g<w.heap.size:=by
 apply Nat.lt_of_not_le
 intro hle
 unfold World.cell? at h
 rw[Array.getElem?_eq_none hle]at h
 simp at h

end Num
end Go.Proofs.YtdcpjicgehdmfaaGreatDoor

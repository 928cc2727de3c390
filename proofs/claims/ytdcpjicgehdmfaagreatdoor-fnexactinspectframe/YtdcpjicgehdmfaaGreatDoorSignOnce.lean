/- Contracts of the program's functions of chapter 2: a mark by one draw. -/
import Derived.Test.YtdcpjicgehdmfaaGreatDoorSignKey
namespace Go.Proofs.YtdcpjicgehdmfaaGreatDoor
namespace Num
open Go.ChangeShapes Go.WideShapes Go.ChangeAt Go.RowKit
set_option linter.unusedSimpArgs false
set_option linter.unusedVariables false

theorem implInverse_is (a m:Int) (w:World):
 Calls Tryz.prog 164 #[.int .i64 a,.int .i64 m] w fun e w'=>e= .returned (.tuple #[.int .i64 (invI a m),.bool (invB a m)])∧Drawn w w':=implInverse_val a m w

theorem three (w:World) (a b c:Obj):Below w.heap.size w (((w.alloc a).alloc b).alloc c)∧(((w.alloc a).alloc b).alloc c).heap[w.heap.size]? =some a∧(((w.alloc a).alloc b).alloc c).heap[w.heap.size+1]? =some b∧(((w.alloc a).alloc b).alloc c).heap[w.heap.size+2]? =some c:=by
 refine⟨join_below (join_below (new_below _ _) (new_below _ _)) (new_below _ _),heap_old (heap_old (heap_new w a) b) c,?_,?_⟩
 ·have:=heap_old (heap_new (w.alloc a) b) c
  simpa using this
 ·have:=heap_new ((w.alloc a).alloc b) c
  simpa using this

end Num
end Go.Proofs.YtdcpjicgehdmfaaGreatDoor

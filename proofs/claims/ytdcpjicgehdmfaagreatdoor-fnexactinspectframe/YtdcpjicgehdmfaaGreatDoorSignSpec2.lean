/- Contracts of the model's functions of chapter 2, further: keys and marks. -/
import Derived.Test.YtdcpjicgehdmfaaGreatDoorSignSpec
namespace Go.Proofs.YtdcpjicgehdmfaaGreatDoor
namespace Num
open Go.ChangeShapes Go.WideShapes Go.ChangeAt Go.RowKit

theorem specParamsOk_is (p q g:Int) (b:Bool) (h:okP p q g=b) (w:World):
 Calls Tryz.prog 93 #[pv p q g] w fun e w'=>e= .returned (.bool b)∧Below w.heap.size w w':=by
 subst h
 exact specParamsOk_val p q g w

theorem specInverse_is (a m:Int) (i:Int) (b:Bool) (hi:invI a m=i) (hb:invB a m=b) (w:World):
 Calls Tryz.prog 95 #[.int .i64 a,.int .i64 m] w fun e w'=>e= .returned (.tuple #[.int .i64 i,.bool b])∧w'=w:=by
 subst hi hb
 exact specInverse_val a m w

abbrev pb (p q g:Int):Obj:= .cells #[.int .i64 p,.int .i64 q,.int .i64 g] 32

abbrev mb (r s:Int):Obj:= .cells #[.int .i64 r,.int .i64 s] 93

theorem cell_at {w:World} {b:Nat} {cs:Array Value} {t:TypeId} {f:Nat×Nat} (h:w.heap[b]? =some (.cells cs t f)) (i:Nat):w.cell? ⟨b,i,none⟩=cs[i]? :=by
 unfold World.cell?
 rw[h]
 simp

theorem heap_new (w:World) (o:Obj):(w.alloc o).heap[w.heap.size]? =some o:=by
 show(w.heap.push o)[w.heap.size]? =some o
 simp

theorem heap_old {w:World} {b:Nat} {x:Obj} (h:w.heap[b]? =some x) (o:Obj):(w.alloc o).heap[b]? =some x:=by
 show(w.heap.push o)[b]? =some x
 have:=(Array.getElem?_eq_some_iff.1 h).1
 rw[Array.getElem?_push_lt this]
 exact Array.getElem?_eq_some_iff.1 h|>.2|>fun e=>by rw[e]

theorem frozen_at {w:World} {b:Nat} {cs:Array Value} {t:TypeId} (h:w.heap[b]? =some (.cells cs t (0,0))) (i:Nat):w.frozen? ⟨b,i,none⟩=false:=by
 unfold World.frozen?
 rw[h]
 simp

theorem kept_new {X w4:World} {n:Nat} {o:Obj} (L:Below X.heap.size X w4) (h:X.heap[n]? =some o):w4.heap[n]? =some o:=by rw[L.block n (Array.getElem?_eq_some_iff.1 h).1,h]

theorem kept_drawn {X w4:World} {n:Nat} {o:Obj} (D:Drawn X w4) (h:X.heap[n]? =some o):w4.heap[n]? =some o:=kept_new (drawn_below _ D) h

def hV (t:ByteArray) (q:Int):Int:=(Math.foldAt t.data.toList:Int)%q

end Num
end Go.Proofs.YtdcpjicgehdmfaaGreatDoor

/- Contracts of the functions that draw parameters. -/
import Derived.Test.YtcjgkmhpeedhiaaGreatDoorCur
namespace Go.Proofs.YtcjgkmhpeedhiaaGreatDoor
namespace Cur
open Go.ChangeShapes Go.WideShapes Go.ChangeAt Go.RowKit
set_option linter.unusedSimpArgs false
set_option linter.unusedVariables false

def Listed (p q g:Int):Prop:=(p=1213∧q=101∧g=457)∨(p=4243∧q=101∧g=1630)∨(p=240169∧q=10007∧g=205555)∨(p=63353∧q=7919∧g=256)∨(p=917519∧q=65537∧g=16384)∨(p=36000109∧q=1000003∧g=31268764)

theorem cs_cell {w:World} {b:Nat} {cs:Array Value} {t:TypeId} {f:Nat×Nat} (h:w.heap[b]? =some (.cells cs t f)) (i:Nat):w.cell? ⟨b,i,none⟩=cs[i]? :=by
 unfold World.cell?
 rw[h]
 simp

theorem cs_frozen {w:World} {b:Nat} {cs:Array Value} {t:TypeId} (h:w.heap[b]? =some (.cells cs t (0,0))) (i:Nat):w.frozen? ⟨b,i,none⟩=false:=by
 unfold World.frozen?
 rw[h]
 simp

theorem cs_two (w:World) (a b:Obj):((w.alloc a).alloc b).heap[w.heap.size]? =some a∧((w.alloc a).alloc b).heap[w.heap.size+1]? =some b:=by
 constructor
 ·show((w.heap.push a).push b)[w.heap.size]? =some a
  rw[Array.getElem?_push_lt (by simp)]
  simp
 ·show((w.heap.push a).push b)[w.heap.size+1]? =some b
  have h:((w.heap.push a).push b)[(w.heap.push a).size]? =some b:=Array.getElem?_push_size
  rwa [Array.size_push]at h

theorem Is.set {W0:World} {a:Option Addr} {n cap c:Nat} {w:World} (C:Is W0 a n cap c w) (b o:Nat) (v:Value) (hb:b≠c) (hg:W0.heap.size≤b):Is W0 a n cap c (w.setCell ⟨b,o,none⟩ v):=by
 have hk:∀i,(w.setCell ⟨b,o,none⟩ v).cell? ⟨c,i,none⟩=w.cell? ⟨c,i,none⟩:=fun i=>World.cell?_setCell_other _ _ _ _ (by simp[Ne.symm hb])
 refine⟨C.below.setCell hg _,C.ge,by rw[World.size_setCell];exact C.lt,C.len,C.code,?_,?_,?_,?_,?_⟩
 ·rw[hk];exact C.cb
 ·obtain⟨i,h1,h2⟩:=C.ci
  exact⟨i,h1,by rw[hk];exact h2⟩
 ·obtain⟨h0,h2⟩:=C.ch
  exact⟨h0,by rw[hk];exact h2⟩
 ·rw[World.frozen?_setCell];exact C.fi
 ·rw[World.frozen?_setCell];exact C.fh

structure Kb (c:Nat) (w w1:World):Prop where
 size:w.heap.size≤w1.heap.size
 block:∀k,k<w.heap.size→k≠c→w1.heap[k]? =w.heap[k]?

theorem Kb.refl (c:Nat) (w:World):Kb c w w:=⟨Nat.le_refl _,fun _ _ _=>rfl⟩

theorem Kb.trans {c:Nat} {w w1 w2:World} (h:Kb c w w1) (g:Kb c w1 w2):Kb c w w2:=
 ⟨Nat.le_trans h.size g.size,fun k hk hc=>(g.block k (Nat.lt_of_lt_of_le hk h.size) hc).trans (h.block k hk hc)⟩

theorem Kb.moved {c:Nat} {w w1:World} (M:Moved c w w1):Kb c w w1:=⟨by rw[M.size];exact Nat.le_refl _,fun k _ hc=>M.block k hc⟩

theorem Kb.of (c:Nat) {w w1:World} (L:Below w.heap.size w w1):Kb c w w1:=⟨L.size,fun k hk _=>L.block k hk⟩

theorem Kb.alloc {c:Nat} {w w1:World} (h:Kb c w w1) (o:Obj):Kb c w (w1.alloc o):=h.trans (Kb.of c ((Below.refl _ _).alloc (Nat.le_refl _) _))

theorem Kb.set {c:Nat} {w w1:World} (h:Kb c w w1) (b o:Nat) (v:Value) (hb:w.heap.size≤b):Kb c w (w1.setCell ⟨b,o,none⟩ v):=
 ⟨by rw[World.size_setCell];exact h.size,fun k hk hc=>by rw[Below.heap_setCell w1 ⟨b,o,none⟩ v k (show k≠b by omega)];exact h.block k hk hc⟩

theorem Kb.grown {c:Nat} {w w1 w2:World} {row:Option Nat} (h:Kb c w w1) (G:w1.grownBy w2 row) (hr:∀k,row=some k→w.heap.size≤k):Kb c w w2:=
 ⟨Nat.le_trans h.size G.size,fun k hk hc=>by rw[G.block k (Nat.lt_of_lt_of_le hk h.size) (fun e=>by have:=hr k e.symm;omega)];exact h.block k hk hc⟩

theorem Kb.drew {c:Nat} {w w1:World} (h:Kb c w w1):Kb c w w1.drew:=⟨h.size,h.block⟩

theorem Kb.at {c:Nat} {w w1:World} {k:Nat} {x:Obj} (h:Kb c w w1) (hc:k≠c) (m:w.heap[k]? =some x):w1.heap[k]? =some x:=by
 rw[h.block k (Array.getElem?_eq_some_iff.1 m).1 hc]
 exact m

set_option maxHeartbeats 1000000 in
theorem params_any {W0:World} {a:Option Addr} {n cap c:Nat} {w:World} (C:Is W0 a n cap c w):
 Calls Tryz.prog 17 #[.pointer (some ⟨c,0,none⟩)] w fun e w'=>(∃p q g,e= .returned (.agg #[.int .i64 p,.int .i64 q,.int .i64 g])∧Listed p q g)∧Is W0 a n cap c w'∧Kb c w w':=by
 have hlt:=C.lt
 have hge:=Nat.le_trans C.below.size (Nat.le_refl _)
 obtain⟨b1,b2⟩:=cs_two w (.cells #[.int .i64 0,.int .i64 0,.int .i64 0] 25) (.cells #[.int .i64 1213,.int .i64 101,.int .i64 457,.int .i64 4243,.int .i64 101,.int .i64 1630,.int .i64 240169,.int .i64 10007,.int .i64 205555,.int .i64 63353,.int .i64 7919,.int .i64 256,.int .i64 917519,.int .i64 65537,.int .i64 16384,.int .i64 36000109,.int .i64 1000003,.int .i64 31268764] 25)
 go_enter Tryz.func17,Tryz.ntmps17
 go_wp2_with fail
 refine(below_any ((C.alloc _).alloc _) 6).mono ?_
 rintro e w1 ⟨⟨x,rfl,hx0,hx1⟩,C1,M1⟩
 have hx2:=hx1 (by omega)
 have hr:=(M1.block w.heap.size (by omega)).trans b1
 have hl:=(M1.block (w.heap.size+1) (by omega)).trans b2
 have d0:w1.cell? ⟨w.heap.size,0,none⟩=some (.int .i64 0):=cs_cell hr 0
 have d1:w1.cell? ⟨w.heap.size,1,none⟩=some (.int .i64 0):=cs_cell hr 1
 have d2:w1.cell? ⟨w.heap.size,2,none⟩=some (.int .i64 0):=cs_cell hr 2
 have f0:=cs_frozen hr 0
 have f1:=cs_frozen hr 1
 have f2:=cs_frozen hr 2
 have K1:Kb c w w1:=(((Kb.refl c w).alloc _).alloc _).trans (Kb.moved M1)
 have hK:w.heap.size≤w.heap.size:=Nat.le_refl _
 clear b1 b2 hr M1 hx1
 have hc:x=0∨x=1∨x=2∨x=3∨x=4∨x=5:=by omega
 rcases hc with rfl|rfl|rfl|rfl|rfl|rfl
 ·have e0:w1.cell? ⟨w.heap.size+1,0,none⟩=some (.int .i64 1213):=cs_cell hl 0
  have e1:w1.cell? ⟨w.heap.size+1,1,none⟩=some (.int .i64 101):=cs_cell hl 1
  have e2:w1.cell? ⟨w.heap.size+1,2,none⟩=some (.int .i64 457):=cs_cell hl 2
  clear hl
  go_wp2
  refine bodyPost_ret (v:= .agg #[.int .i64 1213,.int .i64 101,.int .i64 457]) (by simp[results,Tryz.results17,go_sem,d0,d1,d2]) rfl ?_
  exact⟨⟨_,_,_,rfl,Or.inl ⟨rfl,rfl,rfl⟩⟩,((C1.set _ _ _ (by omega) hge).set _ _ _ (by omega) hge).set _ _ _ (by omega) hge,((K1.set _ _ _ hK).set _ _ _ hK).set _ _ _ hK⟩
 ·have e0:w1.cell? ⟨w.heap.size+1,3,none⟩=some (.int .i64 4243):=cs_cell hl 3
  have e1:w1.cell? ⟨w.heap.size+1,4,none⟩=some (.int .i64 101):=cs_cell hl 4
  have e2:w1.cell? ⟨w.heap.size+1,5,none⟩=some (.int .i64 1630):=cs_cell hl 5
  clear hl
  go_wp2
  refine bodyPost_ret (v:= .agg #[.int .i64 4243,.int .i64 101,.int .i64 1630]) (by simp[results,Tryz.results17,go_sem,d0,d1,d2]) rfl ?_
  exact⟨⟨_,_,_,rfl,Or.inr (Or.inl ⟨rfl,rfl,rfl⟩)⟩,((C1.set _ _ _ (by omega) hge).set _ _ _ (by omega) hge).set _ _ _ (by omega) hge,((K1.set _ _ _ hK).set _ _ _ hK).set _ _ _ hK⟩
 ·have e0:w1.cell? ⟨w.heap.size+1,6,none⟩=some (.int .i64 240169):=cs_cell hl 6
  have e1:w1.cell? ⟨w.heap.size+1,7,none⟩=some (.int .i64 10007):=cs_cell hl 7
  have e2:w1.cell? ⟨w.heap.size+1,8,none⟩=some (.int .i64 205555):=cs_cell hl 8
  clear hl
  go_wp2
  refine bodyPost_ret (v:= .agg #[.int .i64 240169,.int .i64 10007,.int .i64 205555]) (by simp[results,Tryz.results17,go_sem,d0,d1,d2]) rfl ?_
  exact⟨⟨_,_,_,rfl,Or.inr (Or.inr (Or.inl ⟨rfl,rfl,rfl⟩))⟩,((C1.set _ _ _ (by omega) hge).set _ _ _ (by omega) hge).set _ _ _ (by omega) hge,((K1.set _ _ _ hK).set _ _ _ hK).set _ _ _ hK⟩
 ·have e0:w1.cell? ⟨w.heap.size+1,9,none⟩=some (.int .i64 63353):=cs_cell hl 9
  have e1:w1.cell? ⟨w.heap.size+1,10,none⟩=some (.int .i64 7919):=cs_cell hl 10
  have e2:w1.cell? ⟨w.heap.size+1,11,none⟩=some (.int .i64 256):=cs_cell hl 11
  clear hl
  go_wp2
  refine bodyPost_ret (v:= .agg #[.int .i64 63353,.int .i64 7919,.int .i64 256]) (by simp[results,Tryz.results17,go_sem,d0,d1,d2]) rfl ?_
  exact⟨⟨_,_,_,rfl,Or.inr (Or.inr (Or.inr (Or.inl ⟨rfl,rfl,rfl⟩)))⟩,((C1.set _ _ _ (by omega) hge).set _ _ _ (by omega) hge).set _ _ _ (by omega) hge,((K1.set _ _ _ hK).set _ _ _ hK).set _ _ _ hK⟩
 ·have e0:w1.cell? ⟨w.heap.size+1,12,none⟩=some (.int .i64 917519):=cs_cell hl 12
  have e1:w1.cell? ⟨w.heap.size+1,13,none⟩=some (.int .i64 65537):=cs_cell hl 13
  have e2:w1.cell? ⟨w.heap.size+1,14,none⟩=some (.int .i64 16384):=cs_cell hl 14
  clear hl
  go_wp2
  refine bodyPost_ret (v:= .agg #[.int .i64 917519,.int .i64 65537,.int .i64 16384]) (by simp[results,Tryz.results17,go_sem,d0,d1,d2]) rfl ?_
  exact⟨⟨_,_,_,rfl,Or.inr (Or.inr (Or.inr (Or.inr (Or.inl ⟨rfl,rfl,rfl⟩))))⟩,((C1.set _ _ _ (by omega) hge).set _ _ _ (by omega) hge).set _ _ _ (by omega) hge,((K1.set _ _ _ hK).set _ _ _ hK).set _ _ _ hK⟩
 ·have e0:w1.cell? ⟨w.heap.size+1,15,none⟩=some (.int .i64 36000109):=cs_cell hl 15
  have e1:w1.cell? ⟨w.heap.size+1,16,none⟩=some (.int .i64 1000003):=cs_cell hl 16
  have e2:w1.cell? ⟨w.heap.size+1,17,none⟩=some (.int .i64 31268764):=cs_cell hl 17
  clear hl
  go_wp2
  refine bodyPost_ret (v:= .agg #[.int .i64 36000109,.int .i64 1000003,.int .i64 31268764]) (by simp[results,Tryz.results17,go_sem,d0,d1,d2]) rfl ?_
  exact⟨⟨_,_,_,rfl,Or.inr (Or.inr (Or.inr (Or.inr (Or.inr (⟨rfl,rfl,rfl⟩)))))⟩,((C1.set _ _ _ (by omega) hge).set _ _ _ (by omega) hge).set _ _ _ (by omega) hge,((K1.set _ _ _ hK).set _ _ _ hK).set _ _ _ hK⟩

end Cur
end Go.Proofs.YtcjgkmhpeedhiaaGreatDoor

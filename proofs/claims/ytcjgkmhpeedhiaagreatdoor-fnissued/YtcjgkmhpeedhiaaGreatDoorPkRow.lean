/- Rows of bytes and of numbers that a function has made itself: what is read of them, and what keeps them. -/
import Derived.Test.YtcjgkmhpeedhiaaGreatDoorRows
import Derived.WalkKit
import Derived.ProofKit
import Derived.OpenShut
import Derived.Deep.QuietTactic
import Derived.BigQuiet
import Derived.Below
import Derived.OwnWalk
import Derived.WalkSpells
import Derived.Deep.RegionWith
import Derived.Laws.IdiomStrings
import Derived.Laws.BytesArg
namespace Go.Proofs.YtcjgkmhpeedhiaaGreatDoor
namespace Pk
open Go.ChangeShapes Go.WideShapes Go.ChangeAt Go.RowKit

theorem ret_int {k:IntKind} {a b:Int} (h:a=b):Ending.returned (.int k a)= .returned (.int k b):=by rw[h]

def Drawn (w w1:World):Prop:=∃q,w1=w.drewN q

theorem Drawn.refl (w:World):Drawn w w:=⟨0,rfl⟩

theorem Drawn.more {w w1:World} (h:Drawn w w1) (n:Nat):Drawn w (w1.drewN n):=by
 obtain⟨q,rfl⟩:=h
 exact⟨q+n,by rw[World.drewN_drewN]⟩

theorem Drawn.below {w w1:World} (B:Nat) (h:Drawn w w1):Below B w w1:=by
 obtain⟨q,rfl⟩:=h
 exact⟨rfl,rfl,rfl,Nat.le_refl _,fun _ _=>rfl⟩

theorem Drawn.trans {w w1 w2:World} (h:Drawn w w1) (k:Drawn w1 w2):Drawn w w2:=by
 obtain⟨q,rfl⟩:=h
 obtain⟨r,rfl⟩:=k
 exact⟨q+r,by rw[World.drewN_drewN]⟩

theorem new_below (w:World) (o:Obj):Below w.heap.size w (w.alloc o):=(Below.refl _ _).alloc (Nat.le_refl _) _

theorem join_below {w w1 w2:World} (h:Below w.heap.size w w1) (k:Below w1.heap.size w1 w2):Below w.heap.size w w2:=h.trans (k.mono h.size)

theorem cell_at {w:World} {b:Nat} {cs:Array Value} {t:TypeId} {f:Nat×Nat} (h:w.heap[b]? =some (.cells cs t f)) (i:Nat):w.cell? ⟨b,i,none⟩=cs[i]? :=by
 unfold World.cell?
 rw[h]
 simp

theorem heap_new (w:World) (o:Obj):(w.alloc o).heap[w.heap.size]? =some o:=by
 show(w.heap.push o)[w.heap.size]? =some o
 simp

theorem heap_old {w:World} {b:Nat} {x:Obj} (h:w.heap[b]? =some x) (o:Obj):(w.alloc o).heap[b]? =some x:=by
 show(w.heap.push o)[b]? =some x
 have:=(Array.getElem?_eq_some_iff.1 h).1
 rw[Array.getElem?_push_lt this]
 exact Array.getElem?_eq_some_iff.1 h|>.2|>fun e=>by rw[e]

theorem frozen_at {w:World} {b:Nat} {cs:Array Value} {t:TypeId} (h:w.heap[b]? =some (.cells cs t (0,0))) (i:Nat):w.frozen? ⟨b,i,none⟩=false:=by
 unfold World.frozen?
 rw[h]
 simp

theorem kept {X w4:World} {B n:Nat} {o:Obj} (L:Below B X w4) (hB:n<B) (h:X.heap[n]? =some o):w4.heap[n]? =some o:=by rw[L.block n hB,h]

theorem lt_of {w:World} {b:Nat} {x:Obj} (h:w.heap[b]? =some x):b<w.heap.size:=(Array.getElem?_eq_some_iff.1 h).1

def Room (w:World) (g m:Nat):Prop:=∀j,j<m→(∃v,w.cell? ⟨g,j,none⟩=some v)∧w.frozen? ⟨g,j,none⟩=false

theorem Room.on {w w1:World} {g m B:Nat} (h:Room w g m) (L:Below B w w1) (hg:g<B):Room w1 g m:=by
 intro j hj
 rw[L.cell (p:=⟨g,j,none⟩) hg,L.frozen (p:=⟨g,j,none⟩) hg]
 exact h j hj

theorem Room.set {w:World} {g m:Nat} (h:Room w g m) (b i:Nat) (u:Value):Room (w.setCell ⟨b,i,none⟩ u) g m:=by
 intro j hj
 obtain⟨⟨v,hv⟩,hf⟩:=h j hj
 refine⟨?_,by rw[World.frozen?_setCell];exact hf⟩
 by_cases e:(⟨g,j,none⟩:Addr)=⟨b,i,none⟩
 ·rw[e]
  rw[e]at hv
  exact⟨_,World.cell?_setCell_same _ _ _ hv⟩
 ·exact⟨v,by rw[World.cell?_setCell_other _ _ _ _ (fun h=>e h.symm)];exact hv⟩

theorem own_below {w w1:World} {B base e size:Nat} {v:Value} {n:Nat} {xs:List Value} (h:w.ownsRow base e size v n xs) (L:Below B w w1) (hB:w.heap.size≤B):w1.ownsRow base e size v n xs:=by
 obtain⟨h1,h2⟩:=h
 refine⟨h1,?_⟩
 rcases h2 with h2|⟨g,cap,cur,hv,hg,hh,hr⟩
 ·exact Or.inl h2
 ·exact Or.inr ⟨g,cap,cur,hv,hg,kept L (Nat.lt_of_lt_of_le (lt_of hh) hB) hh,hr⟩

theorem own_ge {w:World} {base e size:Nat} {v:Value} {n:Nat} {xs:List Value} (h:w.ownsRow base e size v n xs) (k:Nat) (hk:v.ownBlock=some k):base≤k:=(h.lt k hk).1

theorem own_at {w:World} {base e:Nat} {v:Value} {n:Nat} {xs:List Value} (h:w.ownsRow base e 1 v n xs) (i:Nat) (hi:i<n):
 ∃g cap,v= .slice (some ⟨g,0,none⟩) n cap∧base≤g∧g<w.heap.size∧∃u,xs[i]? =some u∧w.cell? ⟨g,i,none⟩=some u:=by
 obtain⟨hl,h2⟩:=h
 rcases h2 with⟨hv,h0⟩|⟨g,cap,cur,hv,hg,hh,h1,h3,h4,h5⟩
 ·omega
 ·refine⟨g,cap,hv,hg,lt_of hh,?_⟩
  have hx:i<xs.length:=by omega
  refine⟨xs[i],List.getElem?_eq_getElem hx,?_⟩
  rw[cell_at hh]
  have h6:(cur.toList.take (n*1))[i]? =xs[i]? :=by rw[h5]
  rw[List.getElem?_take,if_pos (by omega),Array.getElem?_toList,List.getElem?_eq_getElem hx]at h6
  exact h6

theorem own_ne {w:World} {base e size:Nat} {v:Value} {n:Nat} {xs:List Value} {P:Nat} {cs:Array Value} {t:TypeId} {f:Nat×Nat} (h:w.ownsRow base e size v n xs) (m:w.heap[P]? =some (.cells cs t f)) (hte:t≠e):some P≠v.ownBlock:=by
 obtain⟨-,h2⟩:=h
 intro hP
 rcases h2 with⟨hv,-⟩|⟨g,cap,cur,hv,-,hh,-⟩
 ·rw[hv]at hP;cases hP
 ·rw[hv]at hP
  simp only[Value.ownBlock,Option.some.injEq]at hP
  subst hP
  rw[m]at hh
  simp only[Option.some.injEq,Obj.cells.injEq]at hh
  exact hte hh.2.1

theorem own_ne' {w:World} {base e size:Nat} {v:Value} {n:Nat} {xs:List Value} {P:Nat} {cs:Array Value} {t:TypeId} {f:Nat×Nat} (h:w.ownsRow base e size v n xs) (m:w.heap[P]? =some (.cells cs t f)) (hte:t≠e):v.ownBlock≠some P:=by
 obtain⟨-,h2⟩:=h
 intro hP
 rcases h2 with⟨hv,-⟩|⟨g,cap,cur,hv,-,hh,-⟩
 ·rw[hv]at hP;cases hP
 ·rw[hv]at hP
  simp only[Value.ownBlock,Option.some.injEq]at hP
  subst hP
  rw[m]at hh
  simp only[Option.some.injEq,Obj.cells.injEq]at hh
  exact hte hh.2.1

theorem own_form {w:World} {base e size:Nat} {v:Value} {n:Nat} {xs:List Value} (h:w.ownsRow base e size v n xs):∃a cap,v= .slice a n cap∧(n=0∨∃g,a=some ⟨g,0,none⟩):=by
 obtain⟨-,h2⟩:=h
 rcases h2 with⟨hv,h0⟩|⟨g,cap,cur,hv,-⟩
 ·exact⟨none,0,by rw[hv,h0],Or.inl h0⟩
 ·exact⟨some ⟨g,0,none⟩,cap,hv,Or.inr ⟨g,rfl⟩⟩

theorem info_u8:(Tryz.prog.info? 5).map (fun i=>(i.zero,i.size,i.bytes))=some (some (.int .u8 0),1,1):=by kernel_rfl

theorem info_int:(Tryz.prog.info? 3).map (fun i=>(i.zero,i.size,i.bytes))=some (some (.int .i64 0),1,8):=by kernel_rfl

theorem info_of {t:TypeId} {z:Value} {s b:Nat} (h:(Tryz.prog.info? t).map (fun i=>(i.zero,i.size,i.bytes))=some (some z,s,b)):∃i,Tryz.prog.info? t=some i∧i.zero=some z∧i.size=s∧i.bytes=b:=by
 obtain⟨i0,hi,hi2⟩:=Option.map_eq_some_iff.1 h
 simp only[Prod.mk.injEq]at hi2
 exact⟨i0,hi,hi2.1,hi2.2.1,hi2.2.2⟩

def bcells (l:List UInt8):List Value:=l.map fun b=> .int .u8 (b.toNat:Int)
def icells (l:List Nat):List Value:=l.map fun(b:Nat)=> .int .i64 (b:Int)

theorem bcells_length (l:List UInt8):(bcells l).length=l.length:=by simp[bcells]
theorem icells_length (l:List Nat):(icells l).length=l.length:=by simp[icells]

theorem bcells_snoc (l:List UInt8) (b:UInt8):bcells l++ [.int .u8 (b.toNat:Int)]=bcells (l++ [b]):=by simp[bcells]
theorem icells_snoc (l:List Nat) (b:Nat):icells l++ [.int .i64 (b:Int)]=icells (l++ [b]):=by simp[icells]
theorem icells_append (l m:List Nat):icells l++icells m=icells (l++m):=by simp[icells]

theorem bcells_at (l:List UInt8) (i:Nat) (h:i<l.length):(bcells l)[i]? =some (.int .u8 (l[i].toNat:Int)):=by simp[bcells,h]
theorem icells_at (l:List Nat) (i:Nat) (h:i<l.length):(icells l)[i]? =some (.int .i64 (l[i]:Int)):=by simp[icells,h]

theorem conv_own {w:World} {base:Nat} {v:Value} {n:Nat} {l:List UInt8} (h:w.ownsRow base 5 1 v n (bcells l)):
 (convert 22 9 v).run Tryz.prog w= .ok (.string ⟨l.toArray⟩) w:=by
 have h':=h
 obtain⟨hl,h2⟩:=h
 have hln:l.length=n:=by simpa [bcells]using hl
 rcases h2 with⟨hv,h0⟩|⟨g,cap,cur,hv,hg,hh,h1,h3,h4,h5⟩
 ·subst h0
  have:l= []:=List.eq_nil_of_length_eq_zero hln
  subst this
  rw[hv]
  exact run_convert_bytes_nil w 22 5 Tryz.underlying22 Tryz.underlying5 0 0 9 Tryz.underlying9
 ·subst hln
  rw[hv]
  refine run_convert_bytes_back w 22 9 5 ⟨g,0,none⟩ cap l Tryz.underlying22 Tryz.underlying5 Tryz.underlying9 ?_
  intro j hj
  rw[show Addr.add ⟨g,0,none⟩ j=⟨g,j,none⟩from by simp[Addr.add];exact Eq.symm]
  obtain⟨g',cap',e1,-,-,u,hu,hc⟩:=own_at h' j hj
  rw[hv]at e1
  simp only[Value.slice.injEq,Option.some.injEq,Addr.mk.injEq]at e1
  rw[e1.1.1,hc,←hu,bcells_at l j hj]

end Pk
end Go.Proofs.YtcjgkmhpeedhiaaGreatDoor

/- Contracts of the draws of texts of chapter 1. -/
import Derived.Test.YtcjgkmhpeedhiaaGreatDoorCurNum
import Derived.Test.YtcjgkmhpeedhiaaGreatDoorMathSum
import Derived.OwnWalk
import Derived.WalkKit
import Derived.WalkSpells
import Derived.Laws.BytesArg
namespace Go.Proofs.YtcjgkmhpeedhiaaGreatDoor
namespace Cur
open Go.ChangeShapes Go.WideShapes Go.ChangeAt Go.RowKit

theorem owns_moved {w w1:World} {base e size c:Nat} {v:Value} {n:Nat} {xs:List Value} (h:w.ownsRow base e size v n xs) (M:Moved c w w1) (hc:c<base):w1.ownsRow base e size v n xs:=by
 obtain⟨h1,h2⟩:=h
 refine⟨h1,?_⟩
 rcases h2 with h2|⟨g,cap,cur,hv,hg,hh,hr⟩
 ·exact Or.inl h2
 ·exact Or.inr ⟨g,cap,cur,hv,hg,by rw[M.block g (by omega)];exact hh,hr⟩

theorem Is.grown {W0:World} {a:Option Addr} {n cap c:Nat} {w w1:World} {row:Option Nat} (C:Is W0 a n cap c w) (G:w.grownBy w1 row) (hr:row≠some c) (hr2:∀k,row=some k→W0.heap.size≤k):Is W0 a n cap c w1:=by
 have hb:w1.heap[c]? =w.heap[c]? :=G.block c C.lt (fun h=>hr h.symm)
 have hc:∀o,w1.cell? ⟨c,o,none⟩=w.cell? ⟨c,o,none⟩:=fun o=>World.cell?_of_block hb
 have hf:∀o,w1.frozen? ⟨c,o,none⟩=w.frozen? ⟨c,o,none⟩:=fun o=>World.frozen?_of_block hb
 refine⟨C.below.grown G C.below.size hr2,C.ge,Nat.lt_of_lt_of_le C.lt G.size,C.len,C.code,by rw[hc];exact C.cb,?_,?_,by rw[hf];exact C.fi,by rw[hf];exact C.fh⟩
 ·obtain⟨i,h1,h2⟩:=C.ci
  exact⟨i,h1,by rw[hc];exact h2⟩
 ·obtain⟨h0,h2⟩:=C.ch
  exact⟨h0,by rw[hc];exact h2⟩

theorem Tryz.info5:(Tryz.prog.info? 5).map (fun i=>(i.zero,i.size,i.bytes))=some (some (.int .u8 0),1,1):=by kernel_rfl

def bcells (l:List UInt8):List Value:=l.map fun b=> .int .u8 (b.toNat:Int)

theorem bcells_snoc (l:List UInt8) (x:Int) (h0:0≤x) (h1:x≤255):bcells l++ [.int .u8 x]=bcells (l++ [UInt8.ofNat x.toNat]):=by
 unfold bcells
 rw[List.map_append,List.map_cons,List.map_nil,UInt8.toNat_ofNat']
 congr 3
 omega

theorem own_block {w:World} {base e size:Nat} {v:Value} {n:Nat} {xs:List Value} (h:w.ownsRow base e size v n xs) (k:Nat) (hk:v.ownBlock=some k):base≤k:=by
 obtain⟨_,h2⟩:=h
 rcases h2 with⟨hv,_⟩|⟨g,cap,cur,hv,hg,_⟩
 ·rw[hv]at hk;simp[Value.ownBlock]at hk
 ·rw[hv]at hk;simp[Value.ownBlock]at hk;omega

theorem conv_own {w:World} {base:Nat} {v:Value} {n:Nat} {l:List UInt8} (h:w.ownsRow base 5 1 v n (bcells l)):
 (convert 22 9 v).run Tryz.prog w= .ok (.string ⟨l.toArray⟩) w:=by
 obtain⟨hl,h2⟩:=h
 have hln:l.length=n:=by simpa [bcells]using hl
 rcases h2 with⟨hv,h0⟩|⟨g,cap,cur,hv,hg,hh,h1,h3,h4,h5⟩
 ·subst h0
  have:l= []:=List.eq_nil_of_length_eq_zero hln
  subst this
  rw[hv]
  exact run_convert_bytes_nil w 22 5 Tryz.underlying22 Tryz.underlying5 0 0 9 Tryz.underlying9
 ·subst hln
  rw[hv]
  refine run_convert_bytes_back w 22 9 5 ⟨g,0,none⟩ cap l Tryz.underlying22 Tryz.underlying5 Tryz.underlying9 ?_
  intro j hj
  rw[show Addr.add ⟨g,0,none⟩ j=⟨g,j,none⟩from by simp[Addr.add];exact Eq.symm]
  have e:cur[j]? =some (.int .u8 (l[j].toNat:Int)):=by
   have h6:(cur.toList.take (l.length*1))[j]? =(bcells l)[j]? :=by rw[h5]
   rw[List.getElem?_take,if_pos (by omega)]at h6
   rw[Array.getElem?_toList]at h6
   rw[h6]
   simp[bcells,hj]
  unfold World.cell?
  rw[hh]
  exact e

end Cur
end Go.Proofs.YtcjgkmhpeedhiaaGreatDoor

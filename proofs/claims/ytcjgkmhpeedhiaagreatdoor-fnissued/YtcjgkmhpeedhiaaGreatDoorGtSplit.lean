/- The parts of a text between a byte: the model's l04Split. -/
import Derived.Test.YtcjgkmhpeedhiaaGreatDoorPkRow
namespace Go.Proofs.YtcjgkmhpeedhiaaGreatDoor
namespace Gt
open Go.ChangeShapes Go.WideShapes Go.ChangeAt Go.RowKit
open Pk (own_at own_ge own_below info_of new_below join_below heap_new)
set_option linter.unusedSimpArgs false
set_option linter.unusedVariables false

theorem own_new (w:World) (t:TypeId) (z:Nat):(w.alloc (.cells #[] t)).ownsRow w.heap.size t z (.slice (some ⟨w.heap.size,0,none⟩) 0 0) 0 []:=
 ⟨by simp,Or.inr ⟨w.heap.size,0,#[],rfl,Nat.le_refl _,heap_new w _,by omega,by unfold maxLen;omega,by simp,by simp⟩⟩

theorem own_base {w:World} {B base e size:Nat} {v:Value} {n:Nat} {xs:List Value} (h:w.ownsRow base e size v n xs) (hB:B≤base):w.ownsRow B e size v n xs:=by
 obtain⟨h1,h2⟩:=h
 refine⟨h1,?_⟩
 rcases h2 with h2|⟨g,cap,cur,hv,hg,hr⟩
 ·exact Or.inl h2
 ·exact Or.inr ⟨g,cap,cur,hv,by omega,hr⟩

theorem own_pos {w:World} {base e size:Nat} {v:Value} {n:Nat} {xs:List Value} (h:w.ownsRow base e size v n xs) (hn:0<n):∃g cap,v= .slice (some ⟨g,0,none⟩) n cap:=by
 obtain⟨-,h2⟩:=h
 rcases h2 with⟨-,h0⟩|⟨g,cap,cur,h1,-⟩
 ·omega
 ·exact⟨g,cap,h1⟩

theorem own_blk {w:World} {base e g n cap:Nat} {xs:List Value} (h:w.ownsRow base e 1 (.slice (some ⟨g,0,none⟩) n cap) n xs):∃cur:Array Value,w.heap[g]? =some (.cells cur e)∧cur.toList.take n=xs∧base≤g∧n≤cap∧cap≤maxLen:=by
 obtain⟨-,h2⟩:=h
 rcases h2 with⟨hv,-⟩|⟨g2,cap2,cur,hv,hb,hh,h3,h4,-,ht⟩
 ·cases hv
 ·simp only[Value.slice.injEq,Option.some.injEq,Addr.mk.injEq]at hv
  obtain⟨⟨rfl,-,-⟩,-,rfl⟩:=hv
  exact⟨cur,hh,by rw[←ht,Nat.mul_one],hb,h3,h4⟩

def bt (s:ByteArray) (i:Nat):UInt8:=s.data.toList.getD i 0

theorem bt_at (s:ByteArray) (i:Nat) (h:i<s.size):bt s i=s[i]:=by
 unfold bt
 rw[List.getD_eq_getElem?_getD,List.getElem?_eq_getElem (by rw[Array.length_toList];exact h)]
 rfl

def splF (c:UInt8) (s:ByteArray):Nat→Nat→Nat→List ByteArray
 |0,_,f=> [s.extract f s.size]
 |n+1,i,f=>if bt s i=c then s.extract f i::splF c s n (i+1) (i+1)else splF c s n (i+1) f

def split (c:UInt8) (s:ByteArray):List ByteArray:=splF c s s.size 0 0

theorem splF_length (c:UInt8) (s:ByteArray):∀n i f,1≤(splF c s n i f).length∧(splF c s n i f).length≤n+1
 |0,_,_=>⟨Nat.le_refl _,Nat.le_refl _⟩
 |n+1,i,f=>by
  unfold splF
  split
  ·have:=splF_length c s n (i+1) (i+1)
   simp only[List.length_cons]
   omega
  ·have:=splF_length c s n (i+1) f
   omega

theorem splF_size (c:UInt8) (s:ByteArray):∀n i f,∀x∈splF c s n i f,x.size≤s.size
 |0,_,f=>by
  intro x hx
  simp only[splF,List.mem_singleton]at hx
  subst hx
  rw[ByteArray.size_extract]
  omega
 |n+1,i,f=>by
  intro x hx
  unfold splF at hx
  split at hx
  ·rcases List.mem_cons.1 hx with rfl|hx
   ·rw[ByteArray.size_extract]
    omega
   ·exact splF_size c s n _ _ x hx
  ·exact splF_size c s n _ _ x hx

def tcells (l:List ByteArray):List Value:=l.map Value.string

theorem tcells_snoc (l:List ByteArray) (b:ByteArray):tcells l++ [.string b]=tcells (l++ [b]):=by simp[tcells]

theorem tcells_at (l:List ByteArray) (i:Nat) (h:i<l.length):(tcells l)[i]? =some (.string l[i]):=by simp[tcells,h]

theorem info_str:(Tryz.prog.info? 9).map (fun i=>(i.zero,i.size,i.bytes))=some (some (.string ⟨#[]⟩),1,16):=by kernel_rfl

theorem cell_one (W:World) (v:Value) (t:TypeId):∀j u,[v][j]? =some u→(W.alloc (.cells #[v] t)).cell? (Addr.add ⟨W.heap.size,0,none⟩ j)=some u:=by
 intro j u hu
 match j,hu with
 |0,hu=>
  have:=Pk.cell_at (Pk.heap_new W (.cells #[v] t)) 0
  simp at hu
  subst hu
  rw[show Addr.add ⟨W.heap.size,0,none⟩ 0=⟨W.heap.size,0,none⟩from by simp[Addr.add]]
  exact this
 |j+1,hu=>simp at hu

set_option maxRecDepth 100000 in
set_option maxHeartbeats 2000000 in
theorem split_val (c:UInt8) (s:ByteArray) (w:World) (hs:s.size≤1100000):
 Calls Tryz.prog 77 #[.string s,.int .u8 (c.toNat:Int)] w fun e w'=>∃v,e= .returned v∧w'.ownsRow w.heap.size 9 1 v (split c s).length (tcells (split c s))∧Below w.heap.size w w':=by
 obtain⟨i0,hi,hz0,hz1,hz2⟩:=info_of info_str
 have HS:Hid (split c s=splF c s s.size 0 0):=rfl
 generalize split c s=V at*
 have O0:=own_new w 9 1
 have N0:=new_below w (.cells #[] 9)
 go_enter Tryz.func77,Tryz.ntmps77
 go_wp2
 go_loopw [5,6,7] (fun v f i wr=>∃(k n g:Nat) (done:List ByteArray),k+n=s.size∧g≤k∧i= .int .i64 k∧f= .int .i64 g∧done.length≤k∧Hid (V=done++splF c s n k g)∧wr.ownsRow w.heap.size 9 1 v done.length (tcells done)∧Hid (Below w.heap.size w wr)) (fun _ _ i _=>s.size-(intOf i).toNat)
 case atStart=>exact⟨0,s.size,0,[],by omega,by omega,rfl,rfl,by simp,HS,O0,N0⟩
 case round=>
  clear O0 N0 HS
  obtain⟨k,n,g,done,hkn,hgk,rfl,rfl,hd,H,O,L⟩:=hrel
  have hBr:w.heap.size≤wr.heap.size:=L.out.size
  by_cases hlt:k<s.size
  ·obtain⟨n',rfl⟩:∃n',n=n'+1:=⟨n-1,by omega⟩
   have hkI:(k:Int)<(s.size:Int):=by omega
   have hbt:=bt_at s k hlt
   have hgI:(g:Int)≤(k:Int):=by omega
   have hkL:(k:Int)≤(s.size:Int):=by omega
   by_cases hc:s[k]=c
   ·have HN:Hid (V=(done++ [s.extract g k])++splF c s n' (k+1) (k+1)):=by
     show _=_
     rw[H.out,splF,if_pos (by rw[hbt];exact hc),List.append_assoc]
     rfl
    have hcI:((s[k].toNat:Int)==(c.toNat:Int))=true:=by rw[hc];simp
    have hcE:(s[k].toNat:Int)=(c.toNat:Int):=by rw[hc]
    go_wp2_with (at_builtin;refine wpList_append_own _ rfl _ _ 87 rfl w.heap.size 9 i0 (.string ⟨#[]⟩) 1 16 Tryz.underlying87 hi hz0 hz1 hz2 rfl (by decide) _ _ _ rfl (O.alloc _) ⟨wr.heap.size,0,none⟩ 1 1 [.string (s.extract g k)] rfl rfl ?c1 ?c2 ?c3 ?c4 ?c5 ?_)
    case c1=>exact cell_one _ _ _
    case c2=>intro u hu;simp at hu;subst hu;rfl
    case c3=>unfold maxLen;omega
    case c4=>omega
    case c5=>simp;omega
    intro v' w5 own5 grow5 _
    have L5:Below w.heap.size w w5:=(L.out.alloc hBr _).grown grow5 (by simp;omega) (fun m h=>own_ge O m h)
    rw[tcells_snoc,show done.length+1=(done++ [s.extract g k]).length from by simp]at own5
    clear grow5
    go_wp2
    go_roundw
    case rel=>exact⟨k+1,n',k+1,done++ [s.extract g k],by omega,by omega,by go_num,by go_num,by simp;omega,HN,own5,L5⟩
    case measure=>simp[intOf];omega
   ·have HN:Hid (V=done++splF c s n' (k+1) g):=by
     show _=_
     rw[H.out,splF,if_neg (by rw[hbt];exact hc)]
    have hne:¬(s[k].toNat:Int)=(c.toNat:Int):=fun e=>hc (UInt8.toNat_inj.1 (by omega))
    have hcI:((s[k].toNat:Int)==(c.toNat:Int))=false:=beq_eq_false_iff_ne.2 hne
    go_wp2
    go_roundw
    case rel=>exact⟨k+1,n',g,done,by omega,by omega,by go_num,rfl,by omega,HN,O,L⟩
    case measure=>simp[intOf];omega
  ·obtain rfl:k=s.size:=by omega
   obtain rfl:n=0:=by omega
   have hgI:(g:Int)≤(s.size:Int):=by omega
   have HN:Hid (V=done++ [s.extract g s.size]):=H
   go_wp2_with (at_builtin;refine wpList_append_own _ rfl _ _ 87 rfl w.heap.size 9 i0 (.string ⟨#[]⟩) 1 16 Tryz.underlying87 hi hz0 hz1 hz2 rfl (by decide) _ _ _ rfl (O.alloc _) ⟨wr.heap.size,0,none⟩ 1 1 [.string (s.extract g s.size)] rfl rfl ?c1 ?c2 ?c3 ?c4 ?c5 ?_)
   case c1=>exact cell_one _ _ _
   case c2=>intro u hu;simp at hu;subst hu;rfl
   case c3=>unfold maxLen;omega
   case c4=>omega
   case c5=>simp;omega
   intro v' w5 own5 grow5 _
   have L5:Below w.heap.size w w5:=(L.out.alloc hBr _).grown grow5 (by simp;omega) (fun m h=>own_ge O m h)
   rw[tcells_snoc,show done.length+1=(done++ [s.extract g s.size]).length from by simp,←HN.out]at own5
   clear grow5
   go_wp2
   go_ret
   exact⟨_,rfl,own5,L5⟩

end Gt
end Go.Proofs.YtcjgkmhpeedhiaaGreatDoor

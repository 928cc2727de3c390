/- The numbers behind a word: the model's l04Nums. -/
import Derived.Test.YtcjgkmhpeedhiaaGreatDoorGtSplit
import Derived.Test.YtcjgkmhpeedhiaaGreatDoorNumRead
namespace Go.Proofs.YtcjgkmhpeedhiaaGreatDoor
namespace Gt
open Go.ChangeShapes Go.WideShapes Go.ChangeAt Go.RowKit
open Pk (own_at own_ge own_below info_of new_below join_below heap_new info_int icells icells_snoc lt_of kept cell_at heap_old)
set_option linter.unusedSimpArgs false
set_option linter.unusedVariables false

abbrev Rd (x:ByteArray):Prop:=Math.ReadOk x.data.toList

abbrev vl (x:ByteArray):Nat:=Math.val x.data.toList

def NumsOk (line head:ByteArray) (n:Nat):Prop:=(split 32 line).head? =some head∧(split 32 line).length=n+1∧∀x∈(split 32 line).tail,Rd x

def numsL (line:ByteArray):List Nat:=(split 32 line).tail.map vl

theorem vl_bd {x:ByteArray} (h:Rd x):vl x≤999999999:=Math.val_bd _ h.1 h.2.2.1

theorem tail_get {l:List ByteArray} {k:Nat} (h:k+1<l.length):l.tail[k]? =some l[k+1]:=by
 cases l with
 |nil=>simp at h
 |cons a l=>simp at h;simp[h]

def fstN (l:List ByteArray) (k:Nat):List Nat:=(l.tail.take k).map vl

theorem fstN_step {l:List ByteArray} {k:Nat} (h:k+1<l.length):fstN l (k+1)=fstN l k++ [Math.val l[k+1].data.toList]:=by
 have hk:k<l.tail.length:=by rw[List.length_tail];omega
 unfold fstN
 rw[List.take_succ_eq_append_getElem hk,List.map_append]
 have:=tail_get h
 rw[List.getElem?_eq_getElem hk]at this
 rw[Option.some.inj this]
 rfl

theorem fstN_all {l:List ByteArray} {k:Nat} (h:l.length≤k+1):fstN l k=l.tail.map vl:=by
 unfold fstN
 rw[List.take_of_length_le (by rw[List.length_tail];omega)]

set_option maxRecDepth 100000 in
set_option maxHeartbeats 4000000 in
theorem nums_val (line head:ByteArray) (n:Nat) (w:World) (hs:line.size≤1100000) (hh:head.size≤100) (hn:n≤10):
 Calls Tryz.prog 78 #[.string line,.string head,.int .i64 n] w fun e w'=>((NumsOk line head n∧∃v,e= .returned (.tuple #[v,.bool true])∧w'.ownsRow w.heap.size 3 1 v n (icells (numsL line)))∨(¬NumsOk line head n∧∃v,e= .returned (.tuple #[v,.bool false])))∧Below w.heap.size w w':=by
 obtain⟨i0,hi,hz0,hz1,hz2⟩:=info_of info_int
 have HSP:Hid (∀W,_):=fun W=>split_val 32 line W hs
 have HLN:Hid (_):=splF_length 32 line line.size 0 0
 rw[show splF 32 line line.size 0 0=split 32 line from rfl]at HLN
 have HSZ:Hid (∀x∈split 32 line,_):=splF_size 32 line line.size 0 0
 have HNO:Hid (NumsOk line head n↔((split 32 line).head? =some head∧(split 32 line).length=n+1∧∀x∈(split 32 line).tail,Rd x)):=Iff.rfl
 have HNL:Hid (numsL line=(split 32 line).tail.map vl):=rfl
 generalize numsL line=NL at*
 generalize NumsOk line head n=NO at*
 generalize split 32 line=ws at*
 have hl1:=HLN.out.1
 have hl2:ws.length≤1100001:=by have:=HLN.out.2;omega
 clear HLN
 go_enter Tryz.func78,Tryz.ntmps78
 go_wp2_with fail
 rw[show(32:Int)=((32:UInt8).toNat:Int)from rfl]
 refine(HSP.out _).mono ?_
 rintro e w1 ⟨v,rfl,O1,L1⟩
 obtain⟨g,cap,rfl⟩:=own_pos O1 (by omega)
 obtain⟨cur,mg,tg,hgw,hcap,hcapM⟩:=own_blk O1
 have HC:Hid (∀W:World,W.heap[g]? =some (.cells cur 9)→∀k (h:k<ws.length),W.cell? ⟨g,k,none⟩=some (.string ws[k])):=by
  intro W hW k hk
  have h1:cur.toList[k]? =some (.string ws[k]):=by
   have h2:=tcells_at ws k hk
   rw[←tg,List.getElem?_take_of_lt hk]at h2
   exact h2
  have h3:=cell_at hW k
  rw[Array.getElem?_toList]at h1
  rw[h3]
  exact h1
 have N2:=new_below w1 (.cells #[] 3)
 have O2:=own_base (own_new w1 3 1) L1.size
 have m2:=heap_old mg (.cells #[] 3)
 have K2:=join_below L1 N2
 clear N2 L1 O1 mg HSP tg
 have hws0:ws[0]? =ws.head? :=by cases ws<;>rfl
 have r0:=HC.out _ m2 0 (by omega)
 have hg0:(0:Int)<(ws.length:Int):=by omega
 by_cases hw0:ws[0]=head
 ·by_cases hln:ws.length=n+1
  ·have hI:(ws.length:Int)=(n:Int)+1:=by omega
   have z0:(ws[0].toList==head.toList)=true:=by rw[hw0];simp
   have hlnB:((n:Int)+1 !=(n:Int)+1)=false:=by simp
   rw[hw0]at r0
   go_wp2
   generalize w1.alloc (.cells #[] 3)=w2 at*
   generalize w1.heap.size=g2 at*
   go_loopw [9,10] (fun v i wr=>∃k:Nat,k+1≤ws.length∧i= .int .i64 ((k+1:Nat):Int)∧wr.heap[g]? =some (.cells cur 9)∧wr.ownsRow w.heap.size 3 1 v k (icells (fstN ws k))∧Hid (∀x∈ws.tail.take k,Rd x)∧Hid (Below w.heap.size w wr)) (fun _ i _=>ws.length-(intOf i).toNat)
   case atStart=>exact⟨0,by omega,rfl,m2,O2,by intro x hx;simp at hx,K2⟩
   case round=>
    clear O2 m2 K2 r0
    obtain⟨k,hk,rfl,m3,O3,HR,K3⟩:=hrel
    obtain⟨k1,hk1⟩:∃k1,k+1=k1:=⟨_,rfl⟩
    by_cases hlt:k+1<ws.length
    ·have hlI:(k1:Int)<(ws.length:Int):=by omega
     have hlI2:(k1:Int)<(n:Int)+1:=by omega
     have r1:=HC.out _ m3 (k+1) hlt
     have HTT:Hid (fstN ws (k+1)=fstN ws k++ [Math.val ws[k+1].data.toList]):=fstN_step (l:=ws) hlt
     have HMT:Hid (ws.tail.take (k+1)=ws.tail.take k++ [ws[k+1]]):=by
      show _=_
      have hk2:k<ws.tail.length:=by rw[List.length_tail];omega
      rw[List.take_succ_eq_append_getElem hk2]
      have:=tail_get hlt
      rw[List.getElem?_eq_getElem hk2]at this
      rw[Option.some.inj this]
     have HME:Hid (ws[k+1]∈ws.tail):=by
      have hk2:k<ws.tail.length:=by rw[List.length_tail];omega
      have:=tail_get hlt
      rw[List.getElem?_eq_getElem hk2]at this
      rw[←Option.some.inj this]
      exact List.getElem_mem hk2
     have hxs:ws[k+1].size≤maxLen:=by
      have:=HSZ.out _ (List.getElem_mem hlt)
      unfold maxLen
      omega
     generalize ws[k+1]=x at*
     rw[hk1]at r1⊢
     by_cases hr:Rd x
     ·have HRD:Hid (∀W,_):=fun W=>Num.specReadDec_yes x W hxs hr
      have hvb:=vl_bd hr
      have HRN:Hid (∀y∈ws.tail.take (k+1),Rd y):=by
       intro y hy
       rw[HMT.out]at hy
       rcases List.mem_append.1 hy with hy|hy
       ·exact HR.out y hy
       ·simp at hy
        subst hy
        exact hr
      generalize Math.val x.data.toList=vx at*
      go_wp2_with fail
      refine(HRD.out _).mono ?_
      rintro e w4 ⟨rfl,hw4⟩
      subst hw4
      have hBr:w.heap.size≤w4.heap.size:=K3.out.size
      have hne:some g≠u9.ownBlock:=Pk.own_ne O3 m3 (by decide)
      go_wp2_with (at_builtin;refine wpList_append_own _ rfl _ _ 29 rfl w.heap.size 3 i0 (.int .i64 0) 1 8 Tryz.underlying29 hi hz0 hz1 hz2 rfl (by decide) _ _ _ rfl (O3.alloc _) ⟨w4.heap.size,0,none⟩ 1 1 [.int .i64 vx] rfl rfl ?c1 ?c2 ?c3 ?c4 ?c5 ?_)
      case c1=>exact cell_one _ _ _
      case c2=>intro u hu;simp at hu;subst hu;rfl
      case c3=>unfold maxLen;omega
      case c4=>omega
      case c5=>simp;omega
      intro v' w5 own5 grow5 _
      have L5:Below w.heap.size w w5:=(K3.out.alloc hBr _).grown grow5 (by simp;omega) (fun m h=>own_ge O3 m h)
      have m5:w5.heap[g]? =some (.cells cur 9):=by
       have:=heap_old m3 (.cells #[.int .i64 vx] 3)
       rw[grow5.block g (lt_of this) hne]
       exact this
      rw[icells_snoc,←HTT.out]at own5
      clear grow5
      go_wp2
      go_roundw
      case rel=>exact⟨k+1,by omega,by rw[←hk1];go_num,m5,by rw[hk1];rw[hk1]at own5;exact own5,HRN,L5⟩
      case measure=>simp[intOf];omega
     ·have HRD:Hid (∀W,_):=fun W=>Num.specReadDec_no x W hxs hr
      have N4:=new_below wr (.cells #[] 3)
      have K4:=join_below K3.out N4
      go_wp2_with fail
      refine(HRD.out _).mono ?_
      rintro e w4 ⟨rfl,hw4⟩
      subst hw4
      go_wp2
      go_ret2
      exact⟨Or.inr ⟨fun h=>hr ((HNO.out.1 h).2.2 x HME.out),_,rfl⟩,K4⟩
    ·have hlI:¬(k1:Int)<(ws.length:Int):=by omega
     have hlI2:¬(k1:Int)<(n:Int)+1:=by omega
     have hkn:k=n:=by omega
     have ht:ws.tail.take k=ws.tail:=List.take_of_length_le (by rw[List.length_tail];omega)
     rw[fstN_all (by omega),←HNL.out]at O3
     rw[ht]at HR
     rw[hk1]
     subst hkn
     go_wp2
     go_ret2
     exact⟨Or.inl ⟨HNO.out.2 ⟨by rw[←hws0,List.getElem?_eq_getElem (by omega),hw0],hln,HR.out⟩,_,rfl,O3⟩,K3.out⟩
  ·have hI:¬(ws.length:Int)=(n:Int)+1:=by omega
   have hIB:((ws.length:Int) !=(n:Int)+1)=true:=by simp[hI]
   rw[hw0]at r0
   go_wp2
   go_ret2
   exact⟨Or.inr ⟨fun h=>hln (HNO.out.1 h).2.1,_,rfl⟩,K2⟩
 ·have z1:¬ws[0].toList=head.toList:=fun e=>hw0 (Go.WideShapes.bytes_inj (by rw[←ByteArray.toList_eq,←ByteArray.toList_eq];exact e))
  have z2:(ws[0].toList==head.toList)=false:=beq_eq_false_iff_ne.2 z1
  have hNo:Hid (¬NO):=fun h=>hw0 (by
   have h1:=(HNO.out.1 h).1
   rw[←hws0,List.getElem?_eq_getElem (by omega)]at h1
   exact Option.some.inj h1)
  generalize ws[0]=x at*
  go_wp2
  go_ret2
  exact⟨Or.inr ⟨hNo.out,_,rfl⟩,K2⟩

end Gt
end Go.Proofs.YtcjgkmhpeedhiaaGreatDoor

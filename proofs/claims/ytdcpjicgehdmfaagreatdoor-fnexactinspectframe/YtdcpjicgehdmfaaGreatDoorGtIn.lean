/- The numbers behind a word: the program's numbersIn. -/
import Derived.Test.YtdcpjicgehdmfaaGreatDoorGtMl
import Derived.Test.YtdcpjicgehdmfaaGreatDoorGtNums
import Derived.Test.YtdcpjicgehdmfaaGreatDoorSqRow
import Derived.Test.YtdcpjicgehdmfaaGreatDoorTkTic
import Derived.Test.YtdcpjicgehdmfaaGreatDoorShelf
namespace Go.Proofs.YtdcpjicgehdmfaaGreatDoor
namespace Gt
open Go.ChangeShapes Go.WideShapes Go.ChangeAt Go.RowKit
open Pk (own_at own_ge own_below info_of new_below join_below heap_new info_int lt_of kept cell_at heap_old frozen_at)
open Sq (tab row_at row_set make_run tab_at)
set_option linter.unusedSimpArgs false
set_option linter.unusedVariables false

def wordsN (line:ByteArray) (c:Nat):List ByteArray:=Lib.splitB ⟨#[32]⟩ 0 (min (c+1) (line.size+1)-1) line

theorem wordsN_length (line:ByteArray) (c:Nat):1≤(wordsN line c).length∧(wordsN line c).length≤min (c+1) (line.size+1):=by
 have h1:=Lib.splitB_length_le ⟨#[32]⟩ 0 (min (c+1) (line.size+1)-1) line
 refine⟨?_,?_⟩
 ·show 1≤(Lib.splitB _ _ _ _).length
  cases min (c+1) (line.size+1)-1 with
  |zero=>exact Nat.le_refl _
  |succ k=>
   unfold Lib.splitB
   split
   ·exact Nat.le_refl _
   ·simp
 ·show(Lib.splitB _ _ _ _).length≤_
  omega

theorem splitB_size (sep:ByteArray) (v:Nat):∀(k:Nat) (s:ByteArray),∀x∈Lib.splitB sep v k s,x.size≤s.size
 |0,s=>by
  intro x hx
  simp only[Lib.splitB,List.mem_singleton]at hx
  subst hx
  exact Nat.le_refl _
 |k+1,s=>by
  intro x hx
  unfold Lib.splitB at hx
  split at hx
  ·simp only[List.mem_singleton]at hx
   subst hx
   exact Nat.le_refl _
  ·rcases List.mem_cons.1 hx with rfl|hx
   ·rw[ByteArray.size_extract]
    omega
   ·have:=splitB_size sep v k _ x hx
    rw[ByteArray.size_extract]at this
    omega

noncomputable def nAt (line:ByteArray) (c j:Nat):Nat:=if j+1<(wordsN line c).length then rv ((wordsN line c).getD (j+1) ⟨#[]⟩)else 0

noncomputable def inF (line:ByteArray) (c i j:Nat):Value:= .int .i64 ((if j<i then nAt line c j else 0:Nat):Int)

theorem inF_step (line:ByteArray) (c i j:Nat):inF line c (i+1) j=if j=i then .int .i64 ((nAt line c i:Nat):Int)else inF line c i j:=by
 unfold inF
 by_cases e:j=i
 ·rw[if_pos e,if_pos (by omega),e]
 ·rw[if_neg e]
  by_cases h:j<i
  ·rw[if_pos h,if_pos (by omega)]
  ·rw[if_neg h,if_neg (by omega)]

theorem cellsOf_at {l:List ByteArray} {N k:Nat} (h:k<l.length):(Lib.cellsOf l N)[k]? =some (.string l[k]):=by
 unfold Lib.cellsOf
 rw[List.getElem?_toArray,List.getElem?_append_left (by rw[List.length_map];exact h),List.getElem?_map,List.getElem?_eq_getElem h]
 rfl

set_option maxRecDepth 100000 in
set_option maxHeartbeats 4000000 in
theorem numbersIn_val (line:ByteArray) (c:Nat) (w:World) (hs:line.size≤1100000) (hc1:1≤c) (hc:c≤10) (M:ML w):
 Calls Tryz.prog 168 #[.string line,.int .i64 c] w fun e w'=>(∃g,e= .returned (.slice (some ⟨g,0,none⟩) c c)∧w.heap.size≤g∧g<w'.heap.size∧∀j,j<c→w'.cell? ⟨g,j,none⟩=some (.int .i64 ((nAt line c j:Nat):Int)))∧Below w.heap.size w w':=by
 have hmk:=make_run 24 3 _ 8 c Tryz.underlying24 info_int' rfl (by omega) (by omega)
 have N1:=new_below w (.cells (tab c (fun _=> .int .i64 0)) 3)
 have m1:=heap_new w (.cells (tab c (fun _=> .int .i64 0)) 3)
 have M1:=M.on N1
 obtain⟨mm,hmm⟩:=M1
 have HSN:Hid (∀_:Unit,_):=fun _=>Tryz.strings_SplitN line ⟨#[32]⟩ (c+1) mm (w.alloc (.cells (tab c (fun _=> .int .i64 0)) 3)) (by omega) hmm (by decide) (by omega) (by omega)
 rw[show Lib.splitB ⟨#[32]⟩ 0 (min (c+1) (line.size+1)-1) line=wordsN line c from rfl]at HSN
 rw[show(((c+1:Nat):Int))=(c:Int)+1 from by omega]at HSN
 obtain⟨hl1,hl2⟩:=wordsN_length line c
 have HSZ:Hid (∀x∈wordsN line c,x.size≤line.size):=splitB_size _ _ _ _
 have HNA:Hid (∀j,nAt line c j=if j+1<(wordsN line c).length then rv ((wordsN line c).getD (j+1) ⟨#[]⟩)else 0):=fun j=>rfl
 have HIS:Hid (∀i j,_):=inF_step line c
 have HIF:Hid (∀i j,inF line c i j= .int .i64 ((if j<i then nAt line c j else 0:Nat):Int)):=fun i j=>rfl
 generalize wordsN line c=ws at*
 obtain⟨N,hN⟩:∃N,min (c+1) (line.size+1)=N:=⟨_,rfl⟩
 rw[hN]at HSN hl2
 have hNc:N≤c+1:=by omega
 have H0:Hid (tab c (fun _=> .int .i64 0)=tab c (inF line c 0)):=by
  show _=_
  unfold tab
  congr 1
 go_enter Tryz.func168,Tryz.ntmps168
 go_wp2_with fail
 refine(HSN.out ()).mono ?_
 generalize w.alloc (.cells (tab c (fun _=> .int .i64 0)) 3)=w1 at*
 rintro e w2 ⟨rfl,rfl⟩
 have N2:=new_below w1 (.cells (Lib.cellsOf ws N) 9)
 have mS:=heap_new w1 (.cells (Lib.cellsOf ws N) 9)
 have m2:=kept N2 (lt_of m1) m1
 have K2:=join_below N1 N2
 have hne:w.heap.size≠w1.heap.size:=by have:=lt_of m1;omega
 rw[H0.out]at m2
 clear m1 N1 N2 HSN H0 hmk
 generalize w1.alloc (.cells (Lib.cellsOf ws N) 9)=w3 at*
 generalize w1.heap.size=gS at*
 have y1:(1:Int)≤(ws.length:Int):=by omega
 have y2:(ws.length:Int)≤(N:Int):=by omega
 obtain⟨aS,haS⟩:∃aS:Addr,(if N=1 then some (⟨gS,0,none⟩:Addr)else some ⟨gS,1,none⟩)=some aS:=by
  by_cases e:N=1
  ·exact⟨_,by rw[if_pos e]⟩
  ·exact⟨_,by rw[if_neg e]⟩
 have hA:2≤ws.length→aS=⟨gS,1,none⟩:=fun h=>by
  rw[if_neg (by omega)]at haS
  exact(Option.some.inj haS).symm
 have HA:Hid (2≤ws.length→aS=⟨gS,1,none⟩):=hA
 clear hA
 obtain⟨n1,hn1⟩:∃n1,ws.length-1=n1:=⟨_,rfl⟩
 go_wp2
 clear haS
 go_loopw [16] (fun i wr=>∃k:Nat,k≤n1∧i= .int .i64 k∧wr.heap[w.heap.size]? =some (.cells (tab c (inF line c k)) 3)∧wr.heap[gS]? =some (.cells (Lib.cellsOf ws N) 9)∧Hid (Below w.heap.size w wr)) (fun i _=>n1-(intOf i).toNat)
 case atStart=>exact⟨0,by omega,rfl,m2,mS,K2⟩
 case round=>
  clear m2 mS K2
  obtain⟨k,hk,rfl,m4,mS4,K4⟩:=hrel
  by_cases hlt:k<n1
  ·have hkw:k+1<ws.length:=by omega
   have hkc:k<c:=by omega
   have haS:=HA.out (by omega)
   have hki:(k:Int)<(n1:Int):=by omega
   have hkI:(k:Int)<(c:Int):=by omega
   have r0:wr.cell? ⟨gS,1+k,none⟩=some (.string ws[k+1]):=by
    rw[cell_at mS4 (1+k),show 1+k=k+1 from by omega]
    exact cellsOf_at hkw
   have hz:ws[k+1].size≤maxLen:=by
    have:=HSZ.out _ (List.getElem_mem hkw)
    unfold maxLen
    omega
   have HV:Hid (nAt line c k=rv ws[k+1]):=by
    show _=_
    rw[HNA.out,if_pos hkw,List.getD_eq_getElem?_getD,List.getElem?_eq_getElem hkw]
    rfl
   have f0:wr.frozen? ⟨w.heap.size,k,none⟩=false:=frozen_at m4 k
   have r1:wr.cell? ⟨w.heap.size,k,none⟩=some (inF line c k k):=row_at m4 k hkc
   have m5:=row_set (f':=inF line c (k+1)) m4 k (.int .i64 ((nAt line c k:Nat):Int)) (fun j _=>HIS.out k j)
   have mS5:=Tk.h_other (i:=k) mS4 (Ne.symm hne) (.int .i64 ((nAt line c k:Nat):Int))
   have K5:=K4.out.setCell (p:=⟨w.heap.size,k,none⟩) (Nat.le_refl _) (.int .i64 ((nAt line c k:Nat):Int))
   rw[HV.out]at m5 mS5 K5
   generalize ws[k+1]=x at*
   subst haS
   by_cases hr:Rd x
   ·have HRD:Hid (∀W,_):=fun W=>Num.implReadDec_yes x W hz hr
    rw[rv_yes hr,show vl x=Math.val x.data.toList from rfl]at m5 mS5 K5
    generalize Math.val x.data.toList=vx at*
    go_wp2_with fail
    refine(HRD.out _).mono ?_
    rintro e w4 ⟨rfl,hw4⟩
    subst hw4
    go_wp2
    go_roundw
    case rel=>exact⟨k+1,by omega,by go_num,m5,mS5,K5⟩
    case measure=>simp[intOf];omega
   ·have HRD:Hid (∀W,_):=fun W=>Num.implReadDec_no x W hz hr
    rw[rv_no hr]at m5 mS5 K5
    go_wp2_with fail
    refine(HRD.out _).mono ?_
    rintro e w4 ⟨rfl,hw4⟩
    subst hw4
    go_wp2
    go_roundw
    case rel=>exact⟨k+1,by omega,by go_num,m5,mS5,K5⟩
    case measure=>simp[intOf];omega
  ·obtain rfl:k=n1:=by omega
   have hG:∀j,j<c→wr.cell? ⟨w.heap.size,j,none⟩=some (.int .i64 ((nAt line c j:Nat):Int)):=by
    intro j hj
    rw[row_at m4 j hj,HIF.out]
    by_cases e:j<k
    ·rw[if_pos e]
    ·rw[if_neg e,HNA.out,if_neg (by omega)]
   have HG:Hid (_):=hG
   have hlt2:=lt_of m4
   clear hG m4 mS4
   go_wp2
   go_ret
   exact⟨⟨w.heap.size,rfl,Nat.le_refl _,hlt2,HG.out⟩,K4.out⟩

end Gt
end Go.Proofs.YtdcpjicgehdmfaaGreatDoor

/- The lines of a ticket's plain text tell the ticket. -/
import Derived.Test.YtcjgkmhpeedhiaaGreatDoorGtShape
namespace Go.Proofs.YtcjgkmhpeedhiaaGreatDoor
namespace Gt
open Go.ChangeShapes Go.WideShapes Go.ChangeAt Go.RowKit
open Tk (Lg Hd okB putT headT legT ws Nums okB_parts putT_succ)
open Num (decS)
set_option linter.unusedSimpArgs false
set_option linter.unusedVariables false

def hZ (t:Hd):List Int:= [t.id,t.cl,t.pr,t.fi,t.la]
def lZ (l:Lg):List Int:= [l.tr,l.dy,l.fr,l.to,l.co,l.se]

def hLine (t:Hd):List UInt8:=lineL (bl headW) (hZ t)
def nLine (nm:ByteArray):List UInt8:= [110,97,109,101,32]++bl nm
def lLine (l:Lg):List UInt8:=lineL (bl legW) (lZ l)

theorem head_bl (t:Hd) (nm:ByteArray):bl (headT t nm)=(hLine t++ [10])++(nLine nm++ [10]):=by
 unfold headT hLine nLine lineL hZ
 rw[bl_append,bl_append,bl_append,bl_append,ws_bl]
 simp[bl,headW]

theorem leg_bl (l:Lg):bl (legT l)=lLine l++ [10]:=by
 unfold legT lLine lineL lZ
 rw[bl_append,bl_append,ws_bl]
 simp[bl,legW]

theorem put_bl (t:Hd) (nm:ByteArray) (ls:List Lg):∀k,k≤ls.length→bl (putT t nm ls k)=(([hLine t,nLine nm]++(ls.take k).map lLine).flatMap fun a=>a++ [10])
 |0,_=>by
  rw[putT,head_bl]
  simp
 |k+1,h=>by
  rw[putT_succ t nm ls k (by omega),bl_append,put_bl t nm ls k (by omega),leg_bl,List.take_succ_eq_append_getElem (by omega),List.map_append,←List.append_assoc,List.flatMap_append]
  simp

theorem name_no {nm:ByteArray} (h:Tk.nameB nm=true):(10:UInt8)∉nLine nm:=by
 unfold nLine
 rw[List.mem_append,not_or]
 refine⟨by decide,?_⟩
 intro hm
 unfold Tk.nameB Tk.nameFrom at h
 rw[Bool.and_eq_true,List.drop_zero,List.all_eq_true]at h
 have:=h.1 10 hm
 rw[decide_eq_true_eq]at this
 have h2:(10:UInt8).toNat=10:=rfl
 omega

theorem ok_name {t:Hd} {nm:ByteArray} {ls:List Lg} (h:okB t nm ls=true):Tk.nameB nm=true:=by
 unfold Tk.okB at h
 simp only[Bool.and_eq_true]at h
 exact h.1.1.2

theorem ln_bl {L:List ByteArray} {M:List (List UInt8)} (h:L.map bl=M) (k:Nat) (x:List UInt8) (hk:M[k]? =some x):bl (ln L k)=x:=by
 subst h
 rw[List.getElem?_map]at hk
 unfold ln
 rw[List.getD_eq_getElem?_getD]
 cases e:L[k]? with
 |none=>rw[e]at hk;cases hk
 |some y=>
  rw[e]at hk
  exact Option.some.inj hk

theorem legsL_at (L:List ByteArray) (n k:Nat) (h:k<(legsL L n).length):(legsL L n)[k]=lgOf (numsL (ln L (k+2))):=by simp[legsL]

theorem shape {s:ByteArray} {t:Hd} {nm:ByteArray} {ls:List Lg} (h:Good s t nm ls):Shape (split 10 s) t nm ls:=by
 obtain⟨hok,hput⟩:=h
 obtain⟨hn,hs40,hl6,hns⟩:=okB_parts t nm ls hok
 have hnm:=name_no (ok_name hok)
 have hM:(split 10 s).map bl= [hLine t,nLine nm]++ls.map lLine++ [[]]:=by
  rw[split_list,←hput,put_bl t nm ls ls.length (Nat.le_refl _),List.take_of_length_le (Nat.le_refl _)]
  apply splG_lines
  intro a ha
  rcases List.mem_append.1 ha with ha|ha
  ·simp only[List.mem_cons,List.not_mem_nil,or_false]at ha
   rcases ha with rfl|rfl
   ·exact line_no _ _ (by decide) hn
   ·exact hnm
  ·obtain⟨l,hl,rfl⟩:=List.mem_map.1 ha
   exact line_no _ _ (by decide) (hns l hl)
 have hlen:(split 10 s).length=ls.length+3:=by
  have:=congrArg List.length hM
  simp at this
  omega
 have b0:=ln_bl hM 0 (hLine t) rfl
 have b1:=ln_bl hM 1 (nLine nm) rfl
 have bk:∀k (hk:k<ls.length),bl (ln (split 10 s) (k+2))=lLine ls[k]:=by
  intro k hk
  refine ln_bl hM (k+2) _ ?_
  rw[List.append_assoc,List.getElem?_append_right (by simp),List.getElem?_append_left (by simp;omega)]
  simp[hk]
 obtain⟨g1,g2⟩:=line_words (ln (split 10 s) 0) headW (hZ t) (by decide) hn b0
 have hsz:(ln (split 10 s) 1).size=5+nm.size:=by
  rw[←bl_length,b1]
  unfold nLine
  rw[List.length_append,bl_length]
  rfl
 have gk:∀k (hk:k<ls.length),NumsOk (ln (split 10 s) (k+2)) legW 6∧numsL (ln (split 10 s) (k+2))=(lZ ls[k]).map Int.toNat:=fun k hk=>line_words _ legW (lZ ls[k]) (by decide) (hns ls[k] (List.getElem_mem hk)) (bk k hk)
 refine⟨hlen,g1,?_,by omega,?_,fun k hk=>(gk k hk).1,?_⟩
 ·rw[g2]
  have e:∀z∈hZ t,((z.toNat:Nat):Int)=z:=fun z hz=>Int.toNat_of_nonneg (hn z hz).1
  unfold hdOf hZ
  simp only[List.map_cons,List.map_nil,List.getD_cons_zero,List.getD_cons_succ]
  rw[e t.id (by simp[hZ]),e t.cl (by simp[hZ]),e t.pr (by simp[hZ]),e t.fi (by simp[hZ]),e t.la (by simp[hZ])]
 ·apply bl_ext
  rw[bl_extract,hsz,b1,List.take_of_length_le (by unfold nLine;rw[List.length_append,bl_length];show 5+_≤_;omega)]
  rfl
 ·apply List.ext_getElem
  ·rw[legsL_length]
  ·intro k h1 h2
   rw[legsL_at,(gk k h2).2]
   have e:∀z∈lZ ls[k],((z.toNat:Nat):Int)=z:=fun z hz=>Int.toNat_of_nonneg (hns ls[k] (List.getElem_mem h2) z hz).1
   unfold lgOf lZ
   simp only[List.map_cons,List.map_nil,List.getD_cons_zero,List.getD_cons_succ]
   rw[e _ (by simp[lZ]),e _ (by simp[lZ]),e _ (by simp[lZ]),e _ (by simp[lZ]),e _ (by simp[lZ]),e _ (by simp[lZ])]

theorem good_one {s:ByteArray} {t t':Hd} {nm nm':ByteArray} {ls ls':List Lg} (h:Good s t nm ls) (h':Good s t' nm' ls'):t=t'∧nm=nm'∧ls=ls':=by
 have a:=shape h
 have b:=shape h'
 have hl:ls.length=ls'.length:=by have h1:=a.len;have h2:=b.len;omega
 exact⟨a.hd.symm.trans b.hd,a.name.symm.trans b.name,by rw[←a.legs,hl,b.legs]⟩

end Gt
end Go.Proofs.YtcjgkmhpeedhiaaGreatDoor

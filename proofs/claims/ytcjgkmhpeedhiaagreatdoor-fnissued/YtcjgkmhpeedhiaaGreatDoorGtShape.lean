/- The lines of a ticket's plain text, and their words: the mathematics. -/
import Derived.Test.YtcjgkmhpeedhiaaGreatDoorGtLegs
namespace Go.Proofs.YtcjgkmhpeedhiaaGreatDoor
namespace Gt
open Go.ChangeShapes Go.WideShapes Go.ChangeAt Go.RowKit
open Tk (Lg Hd okB putT headT legT ws Nums)
open Num (decS)
set_option linter.unusedSimpArgs false
set_option linter.unusedVariables false

abbrev bl (s:ByteArray):List UInt8:=s.data.toList

theorem bl_ext {a b:ByteArray} (h:bl a=bl b):a=b:=Go.WideShapes.bytes_inj h

theorem bl_append (a b:ByteArray):bl (a++b)=bl a++bl b:=by
 unfold bl
 rw[ByteArray.data_append,Array.toList_append]

theorem bl_length (s:ByteArray):(bl s).length=s.size:=Array.length_toList

theorem bl_extract (s:ByteArray) (f i:Nat):bl (s.extract f i)=((bl s).take i).drop f:=by
 unfold bl
 rw[ByteArray.data_extract,Array.toList_extract,List.extract_eq_take_drop]
 rw[List.drop_take]

def splG (c:UInt8):List UInt8→List UInt8→List (List UInt8)
 | [],cur=> [cur]
 |x::l,cur=>if x=c then cur::splG c l []else splG c l (cur++ [x])

theorem splF_list (c:UInt8) (s:ByteArray):∀n i f,i+n=s.size→f≤i→(splF c s n i f).map bl=splG c ((bl s).drop i) (((bl s).take i).drop f)
 |0,i,f,h,hf=>by
  have hl:=bl_length s
  rw[List.drop_eq_nil_of_le (by omega)]
  show[bl (s.extract f s.size)]= [_]
  rw[bl_extract,show i=s.size from by omega]
 |n+1,i,f,h,hf=>by
  have hl:=bl_length s
  have hi:i<(bl s).length:=by omega
  have hb:bt s i=(bl s)[i]:=by
   unfold bt
   rw[List.getD_eq_getElem?_getD,List.getElem?_eq_getElem hi]
   rfl
  rw[List.drop_eq_getElem_cons hi]
  unfold splF splG
  rw[hb]
  by_cases e:(bl s)[i]=c
  ·rw[if_pos e,if_pos e]
   show bl (s.extract f i)::(splF c s n (i+1) (i+1)).map bl=_
   have h0:((bl s).take (i+1)).drop (i+1)= []:=List.drop_eq_nil_of_le (by rw[List.length_take];omega)
   rw[bl_extract,splF_list c s n (i+1) (i+1) (by omega) (Nat.le_refl _),h0]
  ·rw[if_neg e,if_neg e,splF_list c s n (i+1) f (by omega) (by omega)]
   congr 1
   rw[List.take_succ_eq_append_getElem hi,List.drop_append_of_le_length (by rw[List.length_take];omega)]

theorem split_list (c:UInt8) (s:ByteArray):(split c s).map bl=splG c (bl s) []:=by
 have:=splF_list c s s.size 0 0 (by omega) (Nat.le_refl _)
 show(splF c s s.size 0 0).map bl=_
 simpa using this

theorem splG_run (c:UInt8) (a r:List UInt8) (cur:List UInt8) (h:c∉a):splG c (a++c::r) cur=(cur++a)::splG c r []:=by
 induction a generalizing cur with
 |nil=>simp[splG]
 |cons x a ih=>
  rw[List.mem_cons,not_or]at h
  rw[List.cons_append,splG,if_neg (fun e=>h.1 e.symm),ih (cur++ [x]) h.2]
  simp

theorem splG_end (c:UInt8) (a:List UInt8) (cur:List UInt8) (h:c∉a):splG c a cur= [cur++a]:=by
 induction a generalizing cur with
 |nil=>simp[splG]
 |cons x a ih=>
  rw[List.mem_cons,not_or]at h
  rw[splG,if_neg (fun e=>h.1 e.symm),ih (cur++ [x]) h.2]
  simp

theorem splG_lines (c:UInt8) (Ls:List (List UInt8)) (h:∀a∈Ls,c∉a):splG c (Ls.flatMap fun a=>a++ [c]) []=Ls++ [[]]:=by
 induction Ls with
 |nil=>rfl
 |cons a Ls ih=>
  have e:(a::Ls).flatMap (fun a=>a++ [c])=a++c::Ls.flatMap (fun a=>a++ [c]):=by simp
  rw[e,splG_run c a _ [] (h a List.mem_cons_self),ih (fun b hb=>h b (List.mem_cons_of_mem _ hb))]
  rfl

theorem splG_words (c:UInt8) (a:List UInt8) (ds:List (List UInt8)) (ha:c∉a) (hd:∀d∈ds,c∉d):splG c (a++ds.flatMap fun d=>c::d) []=a::ds:=by
 induction ds generalizing a with
 |nil=>simp[splG_end c a [] ha]
 |cons d ds ih=>
  have e:a++(d::ds).flatMap (fun d=>c::d)=a++c::(d++ds.flatMap (fun d=>c::d)):=by simp
  rw[e,splG_run c a _ [] ha,ih d (hd d List.mem_cons_self) (fun b hb=>hd b (List.mem_cons_of_mem _ hb))]
  rfl

theorem dec_all (n:Nat):Math.AllD (Lib.decDigits n):=by
 induction n using Nat.strongRecOn with
 |_ n ih=>
  by_cases h:n<10
  ·rw[Math.dec_small n h]
   have:Math.AllD ([]++ [UInt8.ofNat (48+n)]):=Math.AllD.snoc (fun b hb=>by cases hb) (by rw[UInt8.toNat_ofNat'];omega)
   exact this
  ·rw[Math.dec_big n h]
   exact Math.AllD.snoc (ih (n/10) (by omega)) (by rw[UInt8.toNat_ofNat'];omega)

theorem dec_val' (n:Nat):Math.val (Lib.decDigits n)=n:=by
 induction n using Nat.strongRecOn with
 |_ n ih=>
  by_cases h:n<10
  ·rw[Math.dec_small n h]
   have:Math.val ([]++ [UInt8.ofNat (48+n)])=10*Math.val []+((UInt8.ofNat (48+n)).toNat-48):=Math.val_snoc _ _
   rw[List.nil_append]at this
   rw[this,UInt8.toNat_ofNat']
   show 10*0+_=_
   omega
  ·rw[Math.dec_big n h,Math.val_snoc,ih (n/10) (by omega),UInt8.toNat_ofNat']
   omega

theorem dec_read (n:Nat) (h:n≤999999999):Math.ReadOk (Lib.decDigits n):=by
 refine⟨dec_all n,?_,?_,?_⟩
 ·have:=Math.dec_ne n
  cases hd:Lib.decDigits n with
  |nil=>exact absurd hd this
  |cons a l=>simp
 ·rw[Math.dec_len]
  exact Math.nd_le 8 n (by omega)
 ·by_cases h0:n=0
  ·subst h0
   left
   rw[Math.dec_small 0 (by omega)]
   rfl
  ·exact Or.inr (Math.dec_head n (by omega))

theorem dec_bl (z:Int) (h:0≤z):bl (decS z)=Lib.decDigits z.toNat:=by
 obtain⟨n,rfl⟩:∃n:Nat,z=n:=⟨z.toNat,by omega⟩
 unfold decS bl Lib.itoa
 simp

theorem dec_no (n:Nat) (c:UInt8) (h:c.toNat<48):c∉Lib.decDigits n:=by
 intro hm
 have:=dec_all n c hm
 omega

theorem ws_bl (zs:List Int):bl (ws zs)=zs.flatMap fun z=>32::bl (decS z):=by
 have e:∀(o:ByteArray),bl (zs.foldl (fun o z=>o++(⟨#[32]⟩++decS z)) o)=bl o++zs.flatMap fun z=>32::bl (decS z):=by
  induction zs with
  |nil=>intro o;simp
  |cons z zs ih=>
   intro o
   rw[List.foldl_cons,ih,bl_append,bl_append,List.append_assoc,List.append_assoc]
   rfl
 have:=e ⟨#[]⟩
 exact this

theorem map_bl:∀ {l m:List ByteArray},l.map bl=m.map bl→l=m
 | [],[],_=>rfl
 | [],_::_,h=>by cases h
 |_::_,[],h=>by cases h
 |a::l,b::m,h=>by
  rw[List.map_cons,List.map_cons,List.cons.injEq]at h
  rw[bl_ext h.1,map_bl h.2]

def lineL (wd:List UInt8) (zs:List Int):List UInt8:=wd++zs.flatMap fun z=>32::bl (decS z)

theorem line_no (wd:List UInt8) (zs:List Int) (hw:(10:UInt8)∉wd) (hz:Nums zs):(10:UInt8)∉lineL wd zs:=by
 unfold lineL
 rw[List.mem_append,not_or]
 refine⟨hw,?_⟩
 rw[List.mem_flatMap]
 rintro⟨z,hz1,hm⟩
 rcases List.mem_cons.1 hm with h|h
 ·cases h
 ·rw[dec_bl z (hz z hz1).1]at h
  exact dec_no _ 10 (by decide) h

theorem line_words (x:ByteArray) (wd:ByteArray) (zs:List Int) (hw:(32:UInt8)∉bl wd) (hz:Nums zs) (hx:bl x=lineL (bl wd) zs):NumsOk x wd zs.length∧numsL x=zs.map Int.toNat:=by
 have h1:(split 32 x).map bl=bl wd::zs.map (fun z=>bl (decS z)):=by
  rw[split_list,hx]
  unfold lineL
  have e:(zs.flatMap fun z=>32::bl (decS z))=(zs.map fun z=>bl (decS z)).flatMap fun d=>32::d:=by
   rw[List.flatMap_map]
  rw[e]
  refine splG_words 32 (bl wd) _ hw ?_
  intro d hd hm
  obtain⟨z,hz1,rfl⟩:=List.mem_map.1 hd
  rw[dec_bl z (hz z hz1).1]at hm
  exact dec_no _ 32 (by decide) hm
 obtain⟨y,ys,hy,hy1,hy2⟩:∃y ys,split 32 x=y::ys∧bl y=bl wd∧ys.map bl=zs.map (fun z=>bl (decS z)):=by
  cases hs:split 32 x with
  |nil=>rw[hs]at h1;cases h1
  |cons y ys=>
   rw[hs,List.map_cons,List.cons.injEq]at h1
   exact⟨y,ys,rfl,h1.1,h1.2⟩
 have hys:ys=zs.map decS:=by
  have e2:zs.map (fun z=>bl (decS z))=(zs.map decS).map bl:=by rw[List.map_map];rfl
  rw[e2]at hy2
  exact map_bl hy2
 have hrd:∀z∈zs,Rd (decS z)∧vl (decS z)=z.toNat:=by
  intro z hz1
  have hb:=hz z hz1
  unfold Rd vl
  rw[show(decS z).data.toList=Lib.decDigits z.toNat from dec_bl z hb.1]
  exact⟨dec_read _ (by omega),dec_val' _⟩
 refine⟨⟨?_,?_,?_⟩,?_⟩
 ·rw[hy,List.head?_cons,bl_ext hy1]
 ·rw[hy,hys,List.length_cons,List.length_map]
 ·rw[hy,List.tail_cons,hys]
  intro d hd
  obtain⟨z,hz1,rfl⟩:=List.mem_map.1 hd
  exact(hrd z hz1).1
 ·unfold numsL
  rw[hy,List.tail_cons,hys,List.map_map]
  apply List.map_congr_left
  intro z hz1
  exact(hrd z hz1).2

end Gt
end Go.Proofs.YtcjgkmhpeedhiaaGreatDoor

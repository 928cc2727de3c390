/- The program's guessTicket. -/
import Derived.Test.YtdcpjicgehdmfaaGreatDoorGtIn
import Derived.Test.YtdcpjicgehdmfaaGreatDoorGtLegs
import Derived.Test.YtdcpjicgehdmfaaGreatDoorGtShape
import Derived.Deep.RegionLaw
import Derived.Deep.RegionHeld3
import Derived.Deep.AppendLies
namespace Go.Proofs.YtdcpjicgehdmfaaGreatDoor
namespace Gt
open Go.ChangeShapes Go.WideShapes Go.ChangeAt Go.RowKit
open Pk (own_at own_ge own_below own_form info_of new_below join_below heap_new lt_of kept cell_at heap_old frozen_at)
open Tk (Lg Hd Legs lgV tkV tkB okB putT)
set_option linter.unusedSimpArgs false
set_option linter.unusedVariables false

def ctA (s:ByteArray):ByteArray:=⟨(Lib.cut s.data.toList [10]).1.toArray⟩
def ctR (s:ByteArray):ByteArray:=⟨(Lib.cut s.data.toList [10]).2.1.toArray⟩
def ctB (s:ByteArray):Bool:=(Lib.cut s.data.toList [10]).2.2

theorem ct_size (s:ByteArray):(ctA s).size≤s.size∧(ctR s).size≤s.size∧(0<s.size→(ctR s).size<s.size):=by
 have hl:s.data.toList.length=s.size:=Array.length_toList
 have e:∀l:List UInt8,(⟨l.toArray⟩:ByteArray).size=l.length:=fun l=>by simp[ByteArray.size]
 unfold ctA ctR
 simp only[e]
 generalize s.data.toList=l at*
 unfold Lib.cut
 split
 ·simp only[List.length_take,List.length_drop]
  have h1:([10]:List UInt8).length=1:=rfl
  omega
 ·simp only[List.length_nil]
  omega

theorem below_drewN {B:Nat} {a w:World} (h:Below B a w) (n:Nat):Below B a (w.drewN n):=⟨h.os,h.tape,h.output,h.size,h.block⟩

theorem cut_val (s:ByteArray) (w:World) (hs:s.size≤1048576) (M:ML w):
 Calls Tryz.prog 167 #[.string s,.string ⟨#[10]⟩] w fun e w'=>e= .returned (.tuple #[.string (ctA s),.string (ctR s),.bool (ctB s)])∧Below w.heap.size w w':=by
 obtain⟨m,hm⟩:=M
 refine(Tryz.strings_Cut s ⟨#[10]⟩ m w (by omega) hm).mono ?_
 rintro e w' ⟨rfl,n,rfl⟩
 exact⟨rfl,below_drewN (Below.refl _ _) n⟩

noncomputable def lgI (x:ByteArray):Lg:=⟨(nAt x 6 0:Nat),(nAt x 6 1:Nat),(nAt x 6 2:Nat),(nAt x 6 3:Nat),(nAt x 6 4:Nat),(nAt x 6 5:Nat)⟩

noncomputable def gL:Nat→ByteArray→List Lg
 |0,_=> []
 |n+1,r=>if r.size=0 then[]else lgI (ctA r)::gL n (ctR r)

theorem gL_step {n:Nat} {r:ByteArray} (h:¬r.size=0):gL (n+1) r=lgI (ctA r)::gL n (ctR r):=by rw[gL,if_neg h]

theorem gL_end {n:Nat} {r:ByteArray} (h:r.size=0):gL n r= []:=by
 cases n with
 |zero=>rfl
 |succ n=>rw[gL,if_pos h]

noncomputable def gHd (s:ByteArray):Hd:=⟨(nAt (ctA s) 5 0:Nat),(nAt (ctA s) 5 1:Nat),(nAt (ctA s) 5 2:Nat),(nAt (ctA s) 5 3:Nat),(nAt (ctA s) 5 4:Nat)⟩
def gNm (s:ByteArray):ByteArray:=⟨(Lib.trimPrefix (ctA (ctR s)).data.toList [110,97,109,101,32]).toArray⟩
noncomputable def gLs (s:ByteArray):List Lg:=gL 7 (ctR (ctR s))

theorem own_offv {w:World} {base e z n b i:Nat} {v:Value} {xs:List Value} (h:w.ownsRow base e z v n xs) (hne:v.ownBlock≠some b) (u:Value):(w.setCell ⟨b,i,none⟩ u).ownsRow base e z v n xs:=by
 obtain⟨hl,h2⟩:=h
 refine⟨hl,?_⟩
 rcases h2 with h2|⟨g',cap',cur,hv,hg,hh,h1,h3,h4,h5⟩
 ·exact Or.inl h2
 ·subst hv
  have hne2:g'≠b:=fun e=>hne (by rw[e];rfl)
  exact Or.inr ⟨g',cap',cur,rfl,hg,Tk.h_other hh hne2 u,h1,h3,h4,h5⟩

def szV:Value→Nat
 | .string b=>b.size
 |_=>0

set_option maxRecDepth 100000 in
set_option maxHeartbeats 16000000 in
theorem guess_val (s:ByteArray) (w:World) (hs:s.size≤1048576) (M:ML w):
 Calls Tryz.prog 145 #[.string s] w fun e w'=>(∃a cap,e= .returned (tkV (gHd s) (gNm s) a (gLs s).length cap)∧w'.ownsRow w.heap.size 126 6 (.slice a (gLs s).length cap) (gLs s).length (lcells (gLs s)))∧Below w.heap.size w w':=by
 obtain⟨i0,hi,hz0,hz1,hz2⟩:=info_of Tk.info_leg
 obtain⟨c1,c2,-⟩:=ct_size s
 obtain⟨d1,d2,-⟩:=ct_size (ctR s)
 have HML:Hid (∀W,Below w.heap.size w W→ML W):=fun W L=>M.on L
 have HC1:Hid (∀W,ML W→_):=fun W h=>cut_val s W hs h
 have HC2:Hid (∀W,ML W→_):=fun W h=>cut_val (ctR s) W (by omega) h
 have HNI:Hid (∀W,ML W→_):=fun W h=>numbersIn_val (ctA s) 5 W (by omega) (by omega) (by omega) h
 rw[show((5:Nat):Int)=5 from rfl]at HNI
 have HTP:Hid (∀W,_):=fun W=>Tryz.strings_TrimPrefix (ctA (ctR s)) ⟨#[110,97,109,101,32]⟩ W
 rw[show(⟨(Lib.trimPrefix (ctA (ctR s)).data.toList (⟨#[110,97,109,101,32]⟩:ByteArray).data.toList).toArray⟩:ByteArray)=gNm s from rfl]at HTP
 have HGL:Hid (gLs s=gL 7 (ctR (ctR s))):=rfl
 have HHD:Hid (gHd s=⟨(nAt (ctA s) 5 0:Nat),(nAt (ctA s) 5 1:Nat),(nAt (ctA s) 5 2:Nat),(nAt (ctA s) 5 3:Nat),(nAt (ctA s) 5 4:Nat)⟩):=rfl
 have hr0:(ctR (ctR s)).size≤1048576:=by omega
 generalize gLs s=GL at*
 generalize gHd s=GH at*
 generalize gNm s=nm at*
 generalize ctR (ctR s)=r0 at*
 generalize ctA (ctR s)=nmT at*
 generalize ctB (ctR s)=bb2 at*
 generalize ctR s=r1 at*
 generalize ctB s=bb1 at*
 generalize ctA s=hd at*
 have N0:=new_below w (.cells #[.int .i64 0,.string ⟨#[]⟩,.int .i64 0,.int .i64 0,.int .i64 0,.int .i64 0,.slice none 0 0] 72)
 have m0:=heap_new w (.cells #[.int .i64 0,.string ⟨#[]⟩,.int .i64 0,.int .i64 0,.int .i64 0,.int .i64 0,.slice none 0 0] 72)
 go_enter Tryz.func145,Tryz.ntmps145
 go_wp2_with fail
 generalize w.alloc (.cells #[.int .i64 0,.string ⟨#[]⟩,.int .i64 0,.int .i64 0,.int .i64 0,.int .i64 0,.slice none 0 0] 72)=w0 at*
 refine(HC1.out _ (HML.out _ N0)).mono ?_
 rintro e w1 ⟨rfl,L1⟩
 have m1:=kept L1 (lt_of m0) m0
 have K1:=join_below N0 L1
 go_wp2_with fail
 refine(HC2.out _ (HML.out _ K1)).mono ?_
 rintro e w2 ⟨rfl,L2⟩
 have m2:=kept L2 (lt_of m1) m1
 have K2:=join_below K1 L2
 clear m0 m1 N0 K1 L1 L2 HC1 HC2
 go_wp2_with fail
 refine(HNI.out _ (HML.out _ K2)).mono ?_
 rintro e w3 ⟨⟨gx,rfl,hgx0,hgx,hcx⟩,L3⟩
 have m3:=kept L3 (lt_of m2) m2
 have K3:=join_below K2 L3
 have x0:=hcx 0 (by omega)
 have x1:=hcx 1 (by omega)
 have x2:=hcx 2 (by omega)
 have x3:=hcx 3 (by omega)
 have x4:=hcx 4 (by omega)
 clear m2 K2 L3 hcx HNI
 generalize nAt hd 5 0=n0 at*
 generalize nAt hd 5 1=n1 at*
 generalize nAt hd 5 2=n2 at*
 generalize nAt hd 5 3=n3 at*
 generalize nAt hd 5 4=n4 at*
 have e0:=World.new_ne w3 ⟨gx,0,none⟩ x0
 go_wp2
 go_region_held3 (fun w'=>w'.cell? ⟨gx,0,none⟩=some (.int .i64 (n0:Int))∧w'.cell? ⟨gx,1,none⟩=some (.int .i64 (n1:Int))∧w'.cell? ⟨gx,2,none⟩=some (.int .i64 (n2:Int))∧w'.cell? ⟨gx,3,none⟩=some (.int .i64 (n3:Int))∧w'.cell? ⟨gx,4,none⟩=some (.int .i64 (n4:Int))) (go_keep) (first|(go_at_call 169;(with_reducible refine(HTP.out _).mono ?_);rintro e xT ⟨rfl,rfl⟩))
 all_goals
  have mT:=heap_new w3 (.cells #[.int .i64 (n0:Int),.string nm,.int .i64 (n1:Int),.int .i64 (n2:Int),.int .i64 (n3:Int),.int .i64 (n4:Int),.slice none 0 0] 72)
  have NT:=new_below w3 (.cells #[.int .i64 (n0:Int),.string nm,.int .i64 (n1:Int),.int .i64 (n2:Int),.int .i64 (n3:Int),.int .i64 (n4:Int),.slice none 0 0] 72)
  have m4:=kept NT (lt_of m3) m3
  have K4:=join_below K3 NT
  have hTR:w3.heap.size≠w.heap.size:=by have:=lt_of m3;omega
  have hTge:w.heap.size≤w3.heap.size:=K3.size
  clear m3 K3 NT x0 x1 x2 x3 x4 e0 hgx hgx0
  generalize w3.alloc (.cells #[.int .i64 (n0:Int),.string nm,.int .i64 (n1:Int),.int .i64 (n2:Int),.int .i64 (n3:Int),.int .i64 (n4:Int),.slice none 0 0] 72)=W3 at*
  generalize w3.heap.size=T at*
  go_wp2
  go_loopw [4] (fun v wr=>∃(n:Nat) (r:ByteArray) (done:List Lg) (a:Option Addr) (lc:Nat),v= .string r∧done.length+n=7∧r.size≤1048576∧Hid (GL=done++gL n r)∧wr.heap[w.heap.size]? =some (.cells #[.int .i64 0,.string ⟨#[]⟩,.int .i64 0,.int .i64 0,.int .i64 0,.int .i64 0,.slice none 0 0] 72)∧wr.heap[T]? =some (.cells #[.int .i64 (n0:Int),.string nm,.int .i64 (n1:Int),.int .i64 (n2:Int),.int .i64 (n3:Int),.int .i64 (n4:Int),.slice a done.length lc] 72)∧wr.ownsRow w.heap.size 126 6 (.slice a done.length lc) done.length (lcells done)∧Hid (Below w.heap.size w wr)) (fun v _=>szV v)
  case atStart=>exact⟨7,r0,[],none,0,rfl,rfl,hr0,HGL,m4,mT,⟨rfl,Or.inl ⟨rfl,rfl⟩⟩,K4.drew⟩
  case round=>
   clear m4 mT K4 HGL hr0
   obtain⟨n,r,done,la,lc,rfl,hdn,hr,HG,m4,mT4,O4,K4⟩:=hrel
   have t6:wr.cell? ⟨T,6,none⟩=some (.slice la done.length lc):=cell_at mT4 6
   by_cases hr0:r.size=0
   ·obtain rfl:r=⟨#[]⟩:=by
     apply bl_ext
     rw[List.eq_nil_of_length_eq_zero (l:=bl r) (by rw[bl_length];exact hr0)]
    rw[gL_end hr0,List.append_nil]at HG
    have a0:wr.cell? ⟨w.heap.size,0,none⟩=some (.int .i64 0):=cell_at m4 0
    have a1:wr.cell? ⟨w.heap.size,1,none⟩=some (.string ⟨#[]⟩):=cell_at m4 1
    have a2:wr.cell? ⟨w.heap.size,2,none⟩=some (.int .i64 0):=cell_at m4 2
    have a3:wr.cell? ⟨w.heap.size,3,none⟩=some (.int .i64 0):=cell_at m4 3
    have a4:wr.cell? ⟨w.heap.size,4,none⟩=some (.int .i64 0):=cell_at m4 4
    have a5:wr.cell? ⟨w.heap.size,5,none⟩=some (.int .i64 0):=cell_at m4 5
    have a6:wr.cell? ⟨w.heap.size,6,none⟩=some (.slice none 0 0):=cell_at m4 6
    have f0:wr.frozen? ⟨w.heap.size,0,none⟩=false:=frozen_at m4 0
    have f1:wr.frozen? ⟨w.heap.size,1,none⟩=false:=frozen_at m4 1
    have f2:wr.frozen? ⟨w.heap.size,2,none⟩=false:=frozen_at m4 2
    have f3:wr.frozen? ⟨w.heap.size,3,none⟩=false:=frozen_at m4 3
    have f4:wr.frozen? ⟨w.heap.size,4,none⟩=false:=frozen_at m4 4
    have f5:wr.frozen? ⟨w.heap.size,5,none⟩=false:=frozen_at m4 5
    have f6:wr.frozen? ⟨w.heap.size,6,none⟩=false:=frozen_at m4 6
    have b0:wr.cell? ⟨T,0,none⟩=some (.int .i64 (n0:Int)):=cell_at mT4 0
    have b1:wr.cell? ⟨T,1,none⟩=some (.string nm):=cell_at mT4 1
    have b2:wr.cell? ⟨T,2,none⟩=some (.int .i64 (n1:Int)):=cell_at mT4 2
    have b3:wr.cell? ⟨T,3,none⟩=some (.int .i64 (n2:Int)):=cell_at mT4 3
    have b4:wr.cell? ⟨T,4,none⟩=some (.int .i64 (n3:Int)):=cell_at mT4 4
    have b5:wr.cell? ⟨T,5,none⟩=some (.int .i64 (n4:Int)):=cell_at mT4 5
    have b6:wr.cell? ⟨T,6,none⟩=some (.slice la done.length lc):=cell_at mT4 6
    obtain rfl:GL=done:=HG
    have OE:Hid (wr.ownsRow w.heap.size 126 6 (.slice la GL.length lc) GL.length (lcells GL)):=O4
    have aR:(Value.slice la GL.length lc).ownBlock≠some w.heap.size:=Pk.own_ne' O4 m4 (by decide)
    go_wp2
    refine bodyPost_ret (v:=tkV ⟨(n0:Int),(n1:Int),(n2:Int),(n3:Int),(n4:Int)⟩ nm la GL.length lc) (by simp[results,Tryz.results145,go_sem,a0,a1,a2,a3,a4,a5,a6]) rfl ?_
    refine⟨⟨la,lc,by rw[HHD.out],?_⟩,?_⟩
    ·exact own_offv (own_offv (own_offv (own_offv (own_offv (own_offv (own_offv OE.out aR _) aR _) aR _) aR _) aR _) aR _) aR _
    ·(repeat' (first|apply Below.setCell|exact K4.out))<;>first|(simp;done)|(simp;omega)
   ·have hz3:¬r.toList= []:=fun h=>hr0 (by have h2:=congrArg List.length h;rw[ByteArray.toList_eq]at h2;rw[←bl_length];exact h2)
    have hz4:(r.toList== [])=false:=beq_eq_false_iff_ne.2 hz3
    have hz5:¬r=⟨#[]⟩:=fun h=>hr0 (by rw[h];rfl)
    by_cases hn:n=0
    ·have hd7:¬(done.length:Int)≤6:=by omega
     subst hn
     rw[show gL 0 r= []from rfl,List.append_nil]at HG
     have a0:wr.cell? ⟨w.heap.size,0,none⟩=some (.int .i64 0):=cell_at m4 0
     have a1:wr.cell? ⟨w.heap.size,1,none⟩=some (.string ⟨#[]⟩):=cell_at m4 1
     have a2:wr.cell? ⟨w.heap.size,2,none⟩=some (.int .i64 0):=cell_at m4 2
     have a3:wr.cell? ⟨w.heap.size,3,none⟩=some (.int .i64 0):=cell_at m4 3
     have a4:wr.cell? ⟨w.heap.size,4,none⟩=some (.int .i64 0):=cell_at m4 4
     have a5:wr.cell? ⟨w.heap.size,5,none⟩=some (.int .i64 0):=cell_at m4 5
     have a6:wr.cell? ⟨w.heap.size,6,none⟩=some (.slice none 0 0):=cell_at m4 6
     have f0:wr.frozen? ⟨w.heap.size,0,none⟩=false:=frozen_at m4 0
     have f1:wr.frozen? ⟨w.heap.size,1,none⟩=false:=frozen_at m4 1
     have f2:wr.frozen? ⟨w.heap.size,2,none⟩=false:=frozen_at m4 2
     have f3:wr.frozen? ⟨w.heap.size,3,none⟩=false:=frozen_at m4 3
     have f4:wr.frozen? ⟨w.heap.size,4,none⟩=false:=frozen_at m4 4
     have f5:wr.frozen? ⟨w.heap.size,5,none⟩=false:=frozen_at m4 5
     have f6:wr.frozen? ⟨w.heap.size,6,none⟩=false:=frozen_at m4 6
     have b0:wr.cell? ⟨T,0,none⟩=some (.int .i64 (n0:Int)):=cell_at mT4 0
     have b1:wr.cell? ⟨T,1,none⟩=some (.string nm):=cell_at mT4 1
     have b2:wr.cell? ⟨T,2,none⟩=some (.int .i64 (n1:Int)):=cell_at mT4 2
     have b3:wr.cell? ⟨T,3,none⟩=some (.int .i64 (n2:Int)):=cell_at mT4 3
     have b4:wr.cell? ⟨T,4,none⟩=some (.int .i64 (n3:Int)):=cell_at mT4 4
     have b5:wr.cell? ⟨T,5,none⟩=some (.int .i64 (n4:Int)):=cell_at mT4 5
     have b6:wr.cell? ⟨T,6,none⟩=some (.slice la done.length lc):=cell_at mT4 6
     obtain rfl:GL=done:=HG
     have OE:Hid (wr.ownsRow w.heap.size 126 6 (.slice la GL.length lc) GL.length (lcells GL)):=O4
     have aR:(Value.slice la GL.length lc).ownBlock≠some w.heap.size:=Pk.own_ne' O4 m4 (by decide)
     go_wp2
     refine bodyPost_ret (v:=tkV ⟨(n0:Int),(n1:Int),(n2:Int),(n3:Int),(n4:Int)⟩ nm la GL.length lc) (by simp[results,Tryz.results145,go_sem,a0,a1,a2,a3,a4,a5,a6]) rfl ?_
     refine⟨⟨la,lc,by rw[HHD.out],?_⟩,?_⟩
     ·exact own_offv (own_offv (own_offv (own_offv (own_offv (own_offv (own_offv OE.out aR _) aR _) aR _) aR _) aR _) aR _) aR _
     ·(repeat' (first|apply Below.setCell|exact K4.out))<;>first|(simp;done)|(simp;omega)
    ·obtain⟨n',rfl⟩:∃n',n=n'+1:=⟨n-1,by omega⟩
     have hd7:(done.length:Int)≤6:=by omega
     rw[gL_step hr0]at HG
     obtain⟨c3,c4,c5⟩:=ct_size r
     have c6:=c5 (by omega)
     have HC3:Hid (∀W,ML W→_):=fun W h=>cut_val r W hr h
     have HN6:Hid (∀W,ML W→_):=fun W h=>numbersIn_val (ctA r) 6 W (by omega) (by omega) (by omega) h
     rw[show((6:Nat):Int)=6 from rfl]at HN6
     have HLI:Hid (lgI (ctA r)=⟨(nAt (ctA r) 6 0:Nat),(nAt (ctA r) 6 1:Nat),(nAt (ctA r) 6 2:Nat),(nAt (ctA r) 6 3:Nat),(nAt (ctA r) 6 4:Nat),(nAt (ctA r) 6 5:Nat)⟩):=rfl
     rw[HLI.out]at HG
     generalize ctB r=bb at*
     generalize ctR r=r2 at*
     generalize ctA r=xl at*
     go_wp2_with fail
     refine(HC3.out _ (HML.out _ K4.out)).mono ?_
     rintro e w4 ⟨rfl,L4⟩
     have m5':=kept L4 (lt_of m4) m4
     have mT5':=kept L4 (lt_of mT4) mT4
     have O5':=own_below O4 L4 (Nat.le_refl _)
     have K5':=join_below K4.out L4
     clear m4 mT4 O4 K4 L4 t6 HC3
     go_wp2_with fail
     refine(HN6.out _ (HML.out _ K5')).mono ?_
     rintro e w5 ⟨⟨hx,rfl,hwx,hgx6,hcx6⟩,L5⟩
     have m5:=kept L5 (lt_of m5') m5'
     have mT5:=kept L5 (lt_of mT5') mT5'
     have O5:=own_below O5' L5 (Nat.le_refl _)
     have K5:=join_below K5' L5
     have hTw:T<w4.heap.size:=lt_of mT5'
     have HLT:Hid (∀k',(Value.slice la done.length lc).ownBlock=some k'→k'<w4.heap.size):=fun k' h=>(O5'.lt k' h).2
     have x0:=hcx6 0 (by omega)
     have x1:=hcx6 1 (by omega)
     have x2:=hcx6 2 (by omega)
     have x3:=hcx6 3 (by omega)
     have x4:=hcx6 4 (by omega)
     have x5:=hcx6 5 (by omega)
     clear m5' mT5' O5' K5' L5 HN6 HLI hcx6
     generalize nAt xl 6 0=p0 at*
     generalize nAt xl 6 1=p1 at*
     generalize nAt xl 6 2=p2 at*
     generalize nAt xl 6 3=p3 at*
     generalize nAt xl 6 4=p4 at*
     generalize nAt xl 6 5=p5 at*
     have tx:w5.cell? ⟨T,6,none⟩=some (.slice la done.length lc):=cell_at mT5 6
     have txA:(w5.alloc (.cells #[.int .i64 (p0:Int),.int .i64 (p1:Int),.int .i64 (p2:Int),.int .i64 (p3:Int),.int .i64 (p4:Int),.int .i64 (p5:Int)] 126)).cell? ⟨T,6,none⟩=some (.slice la done.length lc):=cell_at (heap_old mT5 _) 6
     have hTx:T≠hx:=by omega
     have aT:(Value.slice la done.length lc).ownBlock≠some T:=Pk.own_ne' O5 mT5 (by decide)
     have aX:(Value.slice la done.length lc).ownBlock≠some hx:=fun h=>by have:=HLT.out hx h;omega
     have aR:(Value.slice la done.length lc).ownBlock≠some w.heap.size:=Pk.own_ne' O5 m5 (by decide)
     have htl:T<w5.heap.size:=lt_of mT5
     have hkm:done.length+1≤maxLen:=by unfold maxLen;omega
     have hkb:(done.length+1)*48≤140737488355328:=by omega
     have hbs:w.heap.size≤w5.heap.size:=K5.size
     have HG2:Hid (GL=(done++ [⟨p0,p1,p2,p3,p4,p5⟩])++gL n' r2):=by
      show _=_
      rw[HG.out,List.append_assoc]
      rfl
     go_wp2
     refine wp_region_held_drew (S:=(fun w'=>w'.cell? ⟨hx,0,none⟩=some (.int .i64 (p0:Int))∧w'.cell? ⟨hx,1,none⟩=some (.int .i64 (p1:Int))∧w'.cell? ⟨hx,2,none⟩=some (.int .i64 (p2:Int))∧w'.cell? ⟨hx,3,none⟩=some (.int .i64 (p3:Int))∧w'.cell? ⟨hx,4,none⟩=some (.int .i64 (p4:Int))∧w'.cell? ⟨hx,5,none⟩=some (.int .i64 (p5:Int)))) (by kernel_rfl) ?_ (fun hHeld=> ?_)
     ·exact⟨x0,x1,x2,x3,x4,x5⟩
     refine wpAnyH_take (i:=0) (v:= ?_) rfl (by kernel_rfl) (by kernel_rfl) (by kernel_rfl) (fun _ _ _ h=>h) (Or.inl ⟨by rfl,?_⟩) (by assumption) ?_
     rotate_left 1
     ·(intro wS hSw;(try dsimp only at hSw);go_simp;try (with_reducible rfl))
     (try simp only[Act.put,List.setIfInBounds_toArray,List.set_cons_zero,List.set_cons_succ])
     refine wpAnyH_take (i:=2) (v:= ?_) rfl (by kernel_rfl) (by kernel_rfl) (by kernel_rfl) (fun _ _ _ h=>h) (Or.inl ⟨by rfl,?_⟩) (by assumption) ?_
     rotate_left 1
     ·(intro wS hSw;(try dsimp only at hSw);go_simp;try (with_reducible rfl))
     (try simp only[Act.put,List.setIfInBounds_toArray,List.set_cons_zero,List.set_cons_succ])
     refine wpAnyH_take (i:=3) (v:= ?_) rfl (by kernel_rfl) (by kernel_rfl) (by kernel_rfl) (fun _ _ _ h=>h) (Or.inl ⟨by rfl,?_⟩) (by assumption) ?_
     rotate_left 1
     ·(intro wS hSw;(try dsimp only at hSw);go_simp;try (with_reducible rfl))
     (try simp only[Act.put,List.setIfInBounds_toArray,List.set_cons_zero,List.set_cons_succ])
     refine wpAnyH_take (i:=4) (v:= ?_) rfl (by kernel_rfl) (by kernel_rfl) (by kernel_rfl) (fun _ _ _ h=>h) (Or.inl ⟨by rfl,?_⟩) (by assumption) ?_
     rotate_left 1
     ·(intro wS hSw;(try dsimp only at hSw);go_simp;try (with_reducible rfl))
     (try simp only[Act.put,List.setIfInBounds_toArray,List.set_cons_zero,List.set_cons_succ])
     refine wpAnyH_take (i:=5) (v:= ?_) rfl (by kernel_rfl) (by kernel_rfl) (by kernel_rfl) (fun _ _ _ h=>h) (Or.inl ⟨by rfl,?_⟩) (by assumption) ?_
     rotate_left 1
     ·(intro wS hSw;(try dsimp only at hSw);go_simp;try (with_reducible rfl))
     (try simp only[Act.put,List.setIfInBounds_toArray,List.set_cons_zero,List.set_cons_succ])
     refine wpAnyH_take (i:=6) (v:= ?_) rfl (by kernel_rfl) (by kernel_rfl) (by kernel_rfl) (fun _ _ _ h=>h) (Or.inl ⟨by rfl,?_⟩) (by assumption) ?_
     rotate_left 1
     ·(intro wS hSw;(try dsimp only at hSw);go_simp;try (with_reducible rfl))
     (try simp only[Act.put,List.setIfInBounds_toArray,List.set_cons_zero,List.set_cons_succ])
     refine wpAnyH_take (i:=7) (v:= ?_) rfl (by kernel_rfl) (by kernel_rfl) (by kernel_rfl) (fun _ _ _ h=>h) (Or.inl ⟨by rfl,?_⟩) (by assumption) ?_
     rotate_left 1
     ·(intro wS hSw;(try dsimp only at hSw);go_simp;try (with_reducible rfl))
     (try simp only[Act.put,List.setIfInBounds_toArray,List.set_cons_zero,List.set_cons_succ])
     refine wpAnyH_take (i:=8) (v:= ?_) rfl (by kernel_rfl) (by kernel_rfl) (by kernel_rfl) (fun _ _ _ h=>h) (Or.inl ⟨by rfl,?_⟩) (by assumption) ?_
     rotate_left 1
     ·(intro wS hSw;(try dsimp only at hSw);go_simp;try (with_reducible rfl))
     (try simp only[Act.put,List.setIfInBounds_toArray,List.set_cons_zero,List.set_cons_succ])
     refine wpAnyH_take (i:=9) (v:= ?_) rfl (by kernel_rfl) (by kernel_rfl) (by kernel_rfl) (fun _ _ _ h=>h) (Or.inl ⟨by rfl,?_⟩) (by assumption) ?_
     rotate_left 1
     ·(intro wS hSw;(try dsimp only at hSw);go_simp;try (with_reducible rfl))
     (try simp only[Act.put,List.setIfInBounds_toArray,List.set_cons_zero,List.set_cons_succ])
     refine wpAnyH_take (i:=10) (v:= ?_) rfl (by kernel_rfl) (by kernel_rfl) (by kernel_rfl) (fun _ _ _ h=>h) (Or.inl ⟨by rfl,?_⟩) (by assumption) ?_
     rotate_left 1
     ·(intro wS hSw;(try dsimp only at hSw);go_simp;try (with_reducible rfl))
     (try simp only[Act.put,List.setIfInBounds_toArray,List.set_cons_zero,List.set_cons_succ])
     refine wpAnyH_take (i:=11) (v:= ?_) rfl (by kernel_rfl) (by kernel_rfl) (by kernel_rfl) (fun _ _ _ h=>h) (Or.inl ⟨by rfl,?_⟩) (by assumption) ?_
     rotate_left 1
     ·(intro wS hSw;(try dsimp only at hSw);go_simp;try (with_reducible rfl))
     (try simp only[Act.put,List.setIfInBounds_toArray,List.set_cons_zero,List.set_cons_succ])
     refine wpAnyH_take (i:=12) (v:= ?_) rfl (by kernel_rfl) (by kernel_rfl) (by kernel_rfl) (fun _ _ _ h=>h) (Or.inl ⟨by rfl,?_⟩) (by assumption) ?_
     rotate_left 1
     ·(intro wS hSw;(try dsimp only at hSw);go_simp;try (with_reducible rfl))
     (try simp only[Act.put,List.setIfInBounds_toArray,List.set_cons_zero,List.set_cons_succ])
     refine wpAnyH_take (i:=13) (v:= ?_) rfl (by kernel_rfl) (by kernel_rfl) (by kernel_rfl) (fun _ _ _ h=>h) (Or.inl ⟨by rfl,?_⟩) (by assumption) ?_
     rotate_left 1
     ·(intro wS hSw;(try dsimp only at hSw);go_simp;try (with_reducible rfl))
     (try simp only[Act.put,List.setIfInBounds_toArray,List.set_cons_zero,List.set_cons_succ])
     refine wpAnyH_take (i:=14) (v:= ?_) rfl (by kernel_rfl) (by kernel_rfl) (by kernel_rfl) (fun _ _ _ h=>h) (Or.inl ⟨by rfl,?_⟩) (by assumption) ?_
     rotate_left 1
     ·(intro wS hSw;(try dsimp only at hSw);go_simp;try (with_reducible rfl))
     (try simp only[Act.put,List.setIfInBounds_toArray,List.set_cons_zero,List.set_cons_succ])
     refine wpAnyH_take (i:=15) (v:= ?_) rfl (by kernel_rfl) (by kernel_rfl) (by kernel_rfl) (fun _ _ _ h=>h) (Or.inl ⟨by rfl,?_⟩) (by assumption) ?_
     rotate_left 1
     ·(intro wS hSw;(try dsimp only at hSw);go_simp;try (with_reducible rfl))
     (try simp only[Act.put,List.setIfInBounds_toArray,List.set_cons_zero,List.set_cons_succ])
     refine wpAnyH_take (i:=16) (v:= ?_) rfl (by kernel_rfl) (by kernel_rfl) (by kernel_rfl) (fun _ _ _ h=>h) (Or.inl ⟨by rfl,?_⟩) (by assumption) ?_
     rotate_left 1
     ·(intro wS hSw;(try dsimp only at hSw);go_simp;try (with_reducible rfl))
     (try simp only[Act.put,List.setIfInBounds_toArray,List.set_cons_zero,List.set_cons_succ])
     refine wpAnyH_take (i:=17) (v:= ?_) rfl (by kernel_rfl) (by kernel_rfl) (by kernel_rfl) (fun _ _ _ h=>h) (Or.inl ⟨by rfl,?_⟩) (by assumption) ?_
     rotate_left 1
     ·(intro wS hSw;(try dsimp only at hSw);go_simp;try (with_reducible rfl))
     (try simp only[Act.put,List.setIfInBounds_toArray,List.set_cons_zero,List.set_cons_succ])
     refine wpAnyH_take (i:=18) (v:= ?_) rfl (by kernel_rfl) (by kernel_rfl) (by kernel_rfl) (fun _ _ _ h=>h) (Or.inl ⟨by rfl,?_⟩) (by assumption) ?_
     rotate_left 1
     ·(intro wS hSw;(try dsimp only at hSw);go_simp;try (with_reducible rfl))
     (try simp only[Act.put,List.setIfInBounds_toArray,List.set_cons_zero,List.set_cons_succ])
     refine wpAnyH_take (i:=19) (v:= ?_) rfl (by kernel_rfl) (by kernel_rfl) (by kernel_rfl) (fun _ _ _ h=>h) (Or.inl ⟨by rfl,?_⟩) (by assumption) ?_
     rotate_left 1
     ·(intro wS hSw;(try dsimp only at hSw);go_simp;try (with_reducible rfl))
     (try simp only[Act.put,List.setIfInBounds_toArray,List.set_cons_zero,List.set_cons_succ])
     refine wpAnyH_take (i:=20) (v:= ?_) rfl (by kernel_rfl) (by kernel_rfl) (by kernel_rfl) (fun _ _ _ h=>h) (Or.inl ⟨by rfl,?_⟩) (by assumption) ?_
     rotate_left 1
     ·(intro wS hSw;(try dsimp only at hSw);go_simp;try (with_reducible rfl))
     (try simp only[Act.put,List.setIfInBounds_toArray,List.set_cons_zero,List.set_cons_succ])
     have yy0:(w5.alloc (.cells #[.int .i64 (p0:Int),.int .i64 (p1:Int),.int .i64 (p2:Int),.int .i64 (p3:Int),.int .i64 (p4:Int),.int .i64 (p5:Int)] 126)).cell? ⟨hx,0,none⟩=some (.int .i64 (p0:Int)):=by rw[(new_below w5 _).cell (p:=⟨hx,0,none⟩) hgx6];exact x0
     have yy1:(w5.alloc (.cells #[.int .i64 (p0:Int),.int .i64 (p1:Int),.int .i64 (p2:Int),.int .i64 (p3:Int),.int .i64 (p4:Int),.int .i64 (p5:Int)] 126)).cell? ⟨hx,1,none⟩=some (.int .i64 (p1:Int)):=by rw[(new_below w5 _).cell (p:=⟨hx,1,none⟩) hgx6];exact x1
     have yy2:(w5.alloc (.cells #[.int .i64 (p0:Int),.int .i64 (p1:Int),.int .i64 (p2:Int),.int .i64 (p3:Int),.int .i64 (p4:Int),.int .i64 (p5:Int)] 126)).cell? ⟨hx,2,none⟩=some (.int .i64 (p2:Int)):=by rw[(new_below w5 _).cell (p:=⟨hx,2,none⟩) hgx6];exact x2
     have yy3:(w5.alloc (.cells #[.int .i64 (p0:Int),.int .i64 (p1:Int),.int .i64 (p2:Int),.int .i64 (p3:Int),.int .i64 (p4:Int),.int .i64 (p5:Int)] 126)).cell? ⟨hx,3,none⟩=some (.int .i64 (p3:Int)):=by rw[(new_below w5 _).cell (p:=⟨hx,3,none⟩) hgx6];exact x3
     have yy4:(w5.alloc (.cells #[.int .i64 (p0:Int),.int .i64 (p1:Int),.int .i64 (p2:Int),.int .i64 (p3:Int),.int .i64 (p4:Int),.int .i64 (p5:Int)] 126)).cell? ⟨hx,4,none⟩=some (.int .i64 (p4:Int)):=by rw[(new_below w5 _).cell (p:=⟨hx,4,none⟩) hgx6];exact x4
     have yy5:(w5.alloc (.cells #[.int .i64 (p0:Int),.int .i64 (p1:Int),.int .i64 (p2:Int),.int .i64 (p3:Int),.int .i64 (p4:Int),.int .i64 (p5:Int)] 126)).cell? ⟨hx,5,none⟩=some (.int .i64 (p5:Int)):=by rw[(new_below w5 _).cell (p:=⟨hx,5,none⟩) hgx6];exact x5
     refine wpAnyH_ready (rs:= [1,21]) (by kernel_rfl) (by simp) ?_
     refine AllReadyH.cons rfl (fun K hK=> ?_) ?_
     ·go_simp
      refine hK.out _ _ ?_ (fun hHeld=> ?_)
      ·exact⟨x0,x1,x2,x3,x4,x5⟩
      clear hK K
      (try simp only[Act.put,List.setIfInBounds_toArray,List.set_cons_zero,List.set_cons_succ])
      refine wpAnyH_ready (rs:= [21]) (by kernel_rfl) (by simp) ?_
      refine AllReadyH.cons rfl (fun K hK=> ?_) AllReadyH.nil
      go_simp
      refine hK.out _ _ ?_ (fun hHeld=> ?_)
      ·exact⟨yy0,yy1,yy2,yy3,yy4,yy5⟩
      clear hK K
      (try simp only[Act.put,List.setIfInBounds_toArray,List.set_cons_zero,List.set_cons_succ])
      refine wpAnyH_ready (rs:= [22]) (by kernel_rfl) (by simp) ?_
      refine AllReadyH.cons rfl (fun K hK=> ?_) AllReadyH.nil
      refine step_append_lies _ (by rfl) _ _ _ (by rfl) w.heap.size 126 i0 _ 6 48 Tryz.underlying70 hi hz0 hz1 hz2 rfl (by omega) (.slice la done.length lc) done.length (lcells done) (by rfl) ((O5.alloc _).drew) ⟨w5.heap.size,0,none⟩ 1 1 (lc1 ⟨p0,p1,p2,p3,p4,p5⟩) (by rfl) (by rfl) (World.news_of_block (cs:= #[.int .i64 (p0:Int),.int .i64 (p1:Int),.int .i64 (p2:Int),.int .i64 (p3:Int),.int .i64 (p4:Int),.int .i64 (p5:Int)]) (t:=126) (fr:=(0,0)) (heap_alloc_new w5 _)) (by simp[lc1,Value.oneCell']) (by omega) hkm hkb (by simp;omega) (w5.heap.size+1) (by simp) ?_
      intro gg cap6 w6 hown1 hgrow hat hlt
      have mT6:w6.heap[T]? =some (.cells #[.int .i64 (n0:Int),.string nm,.int .i64 (n1:Int),.int .i64 (n2:Int),.int .i64 (n3:Int),.int .i64 (n4:Int),.slice la done.length lc] 72):=(by rw[hgrow.block T (by simp;omega) (Ne.symm aT)];exact heap_old mT5 _)
      have tf6:w6.frozen? ⟨T,6,none⟩=false:=frozen_at mT6 6
      have tx6:w6.cell? ⟨T,6,none⟩=some (.slice la done.length lc):=cell_at mT6 6
      have q0:w6.cell? ⟨hx,0,none⟩=some (.int .i64 (p0:Int)):=(by rw[hgrow.cell_far _ (by simp;omega) (Ne.symm aX)];exact yy0)
      have q1:w6.cell? ⟨hx,1,none⟩=some (.int .i64 (p1:Int)):=(by rw[hgrow.cell_far _ (by simp;omega) (Ne.symm aX)];exact yy1)
      have q2:w6.cell? ⟨hx,2,none⟩=some (.int .i64 (p2:Int)):=(by rw[hgrow.cell_far _ (by simp;omega) (Ne.symm aX)];exact yy2)
      have q3:w6.cell? ⟨hx,3,none⟩=some (.int .i64 (p3:Int)):=(by rw[hgrow.cell_far _ (by simp;omega) (Ne.symm aX)];exact yy3)
      have q4:w6.cell? ⟨hx,4,none⟩=some (.int .i64 (p4:Int)):=(by rw[hgrow.cell_far _ (by simp;omega) (Ne.symm aX)];exact yy4)
      have q5:w6.cell? ⟨hx,5,none⟩=some (.int .i64 (p5:Int)):=(by rw[hgrow.cell_far _ (by simp;omega) (Ne.symm aX)];exact yy5)
      refine hK.out _ _ ?_ (fun hHeld=> ?_)
      ·exact⟨q0,q1,q2,q3,q4,q5⟩
      clear hK K
      (try simp only[Act.put,List.setIfInBounds_toArray,List.set_cons_zero,List.set_cons_succ])
      refine wpAnyH_take (i:=23) (v:= ?_) rfl (by kernel_rfl) (by kernel_rfl) (by kernel_rfl) (fun _ _ _ h=>h) (Or.inl ⟨by rfl,?_⟩) (by assumption) ?_
      rotate_left 1
      ·(intro wS hSw;(try dsimp only at hSw);go_simp;try (with_reducible rfl))
      (try simp only[Act.put,List.setIfInBounds_toArray,List.set_cons_zero,List.set_cons_succ])
      refine wpAnyH_ready (rs:= [24]) (by kernel_rfl) (by simp) ?_
      refine AllReadyH.cons rfl (fun K hK=> ?_) AllReadyH.nil
      go_simp
      refine hK.out _ _ ?_ (fun hHeld=> ?_)
      ·exact⟨by rw[Tk.cell_other (Ne.symm hTx)];exact q0,by rw[Tk.cell_other (Ne.symm hTx)];exact q1,by rw[Tk.cell_other (Ne.symm hTx)];exact q2,by rw[Tk.cell_other (Ne.symm hTx)];exact q3,by rw[Tk.cell_other (Ne.symm hTx)];exact q4,by rw[Tk.cell_other (Ne.symm hTx)];exact q5⟩
      clear hK K
      (try simp only[Act.put,List.setIfInBounds_toArray,List.set_cons_zero,List.set_cons_succ])
      refine wpAnyH_done (by kernel_rfl) ?_ _
      have hgT:gg≠T:=by
       rintro rfl
       rcases hat with h|h
       ·exact aT h
       ·omega
      have mR6:w6.heap[w.heap.size]? =some (.cells #[.int .i64 0,.string ⟨#[]⟩,.int .i64 0,.int .i64 0,.int .i64 0,.int .i64 0,.slice none 0 0] 72):=(by rw[hgrow.block w.heap.size (by have:=lt_of m5;simp;omega) (Ne.symm aR)];exact heap_old m5 _)
      have mR7:=Tk.h_other (i:=6) mR6 (Ne.symm hTR) (.slice (some ⟨gg,0,none⟩) (done.length+1) cap6)
      have mT7:=Tk.h_set (i:=6) mT6 (.slice (some ⟨gg,0,none⟩) (done.length+1) cap6)
      have O7:=own_off (b:=T) (i:=6) hown1 hgT (.slice (some ⟨gg,0,none⟩) (done.length+1) cap6)
      rw[lcells_snoc]at O7
      have hdl:done.length+1=(done++ [(⟨p0,p1,p2,p3,p4,p5⟩:Lg)]).length:=by simp
      have K6:Below w.heap.size w w6:=(K5.alloc hbs _).drew.grown hgrow (by simp;omega) (fun m h=>own_ge O5 m h)
      have K7:=K6.setCell (p:=⟨T,6,none⟩) (by show w.heap.size≤T;omega) (.slice (some ⟨gg,0,none⟩) (done.length+1) cap6)
      go_wp2
      go_roundw
      case rel=>exact⟨n',r2,done++ [⟨p0,p1,p2,p3,p4,p5⟩],some ⟨gg,0,none⟩,cap6,rfl,by simp;omega,by omega,HG2,mR7,by rw[←hdl];exact mT7,by rw[←hdl];exact O7,K7⟩
      case measure=>show r2.size<r.size;omega
     refine AllReadyH.cons rfl (fun K hK=> ?_) AllReadyH.nil
     go_simp
     refine hK.out _ _ ?_ (fun hHeld=> ?_)
     ·exact⟨yy0,yy1,yy2,yy3,yy4,yy5⟩
     clear hK K
     (try simp only[Act.put,List.setIfInBounds_toArray,List.set_cons_zero,List.set_cons_succ])
     refine wpAnyH_ready (rs:= [1]) (by kernel_rfl) (by simp) ?_
     refine AllReadyH.cons rfl (fun K hK=> ?_) AllReadyH.nil
     go_simp
     refine hK.out _ _ ?_ (fun hHeld=> ?_)
     ·exact⟨yy0,yy1,yy2,yy3,yy4,yy5⟩
     clear hK K
     (try simp only[Act.put,List.setIfInBounds_toArray,List.set_cons_zero,List.set_cons_succ])
     refine wpAnyH_ready (rs:= [22]) (by kernel_rfl) (by simp) ?_
     refine AllReadyH.cons rfl (fun K hK=> ?_) AllReadyH.nil
     refine step_append_lies _ (by rfl) _ _ _ (by rfl) w.heap.size 126 i0 _ 6 48 Tryz.underlying70 hi hz0 hz1 hz2 rfl (by omega) (.slice la done.length lc) done.length (lcells done) (by rfl) ((O5.alloc _).drew) ⟨w5.heap.size,0,none⟩ 1 1 (lc1 ⟨p0,p1,p2,p3,p4,p5⟩) (by rfl) (by rfl) (World.news_of_block (cs:= #[.int .i64 (p0:Int),.int .i64 (p1:Int),.int .i64 (p2:Int),.int .i64 (p3:Int),.int .i64 (p4:Int),.int .i64 (p5:Int)]) (t:=126) (fr:=(0,0)) (heap_alloc_new w5 _)) (by simp[lc1,Value.oneCell']) (by omega) hkm hkb (by simp;omega) (w5.heap.size+1) (by simp) ?_
     intro gg cap6 w6 hown1 hgrow hat hlt
     have mT6:w6.heap[T]? =some (.cells #[.int .i64 (n0:Int),.string nm,.int .i64 (n1:Int),.int .i64 (n2:Int),.int .i64 (n3:Int),.int .i64 (n4:Int),.slice la done.length lc] 72):=(by rw[hgrow.block T (by simp;omega) (Ne.symm aT)];exact heap_old mT5 _)
     have tf6:w6.frozen? ⟨T,6,none⟩=false:=frozen_at mT6 6
     have tx6:w6.cell? ⟨T,6,none⟩=some (.slice la done.length lc):=cell_at mT6 6
     have q0:w6.cell? ⟨hx,0,none⟩=some (.int .i64 (p0:Int)):=(by rw[hgrow.cell_far _ (by simp;omega) (Ne.symm aX)];exact yy0)
     have q1:w6.cell? ⟨hx,1,none⟩=some (.int .i64 (p1:Int)):=(by rw[hgrow.cell_far _ (by simp;omega) (Ne.symm aX)];exact yy1)
     have q2:w6.cell? ⟨hx,2,none⟩=some (.int .i64 (p2:Int)):=(by rw[hgrow.cell_far _ (by simp;omega) (Ne.symm aX)];exact yy2)
     have q3:w6.cell? ⟨hx,3,none⟩=some (.int .i64 (p3:Int)):=(by rw[hgrow.cell_far _ (by simp;omega) (Ne.symm aX)];exact yy3)
     have q4:w6.cell? ⟨hx,4,none⟩=some (.int .i64 (p4:Int)):=(by rw[hgrow.cell_far _ (by simp;omega) (Ne.symm aX)];exact yy4)
     have q5:w6.cell? ⟨hx,5,none⟩=some (.int .i64 (p5:Int)):=(by rw[hgrow.cell_far _ (by simp;omega) (Ne.symm aX)];exact yy5)
     refine hK.out _ _ ?_ (fun hHeld=> ?_)
     ·exact⟨q0,q1,q2,q3,q4,q5⟩
     clear hK K
     (try simp only[Act.put,List.setIfInBounds_toArray,List.set_cons_zero,List.set_cons_succ])
     refine wpAnyH_take (i:=23) (v:= ?_) rfl (by kernel_rfl) (by kernel_rfl) (by kernel_rfl) (fun _ _ _ h=>h) (Or.inl ⟨by rfl,?_⟩) (by assumption) ?_
     rotate_left 1
     ·(intro wS hSw;(try dsimp only at hSw);go_simp;try (with_reducible rfl))
     (try simp only[Act.put,List.setIfInBounds_toArray,List.set_cons_zero,List.set_cons_succ])
     refine wpAnyH_ready (rs:= [24]) (by kernel_rfl) (by simp) ?_
     refine AllReadyH.cons rfl (fun K hK=> ?_) AllReadyH.nil
     go_simp
     refine hK.out _ _ ?_ (fun hHeld=> ?_)
     ·exact⟨by rw[Tk.cell_other (Ne.symm hTx)];exact q0,by rw[Tk.cell_other (Ne.symm hTx)];exact q1,by rw[Tk.cell_other (Ne.symm hTx)];exact q2,by rw[Tk.cell_other (Ne.symm hTx)];exact q3,by rw[Tk.cell_other (Ne.symm hTx)];exact q4,by rw[Tk.cell_other (Ne.symm hTx)];exact q5⟩
     clear hK K
     (try simp only[Act.put,List.setIfInBounds_toArray,List.set_cons_zero,List.set_cons_succ])
     refine wpAnyH_done (by kernel_rfl) ?_ _
     have hgT:gg≠T:=by
      rintro rfl
      rcases hat with h|h
      ·exact aT h
      ·omega
     have mR6:w6.heap[w.heap.size]? =some (.cells #[.int .i64 0,.string ⟨#[]⟩,.int .i64 0,.int .i64 0,.int .i64 0,.int .i64 0,.slice none 0 0] 72):=(by rw[hgrow.block w.heap.size (by have:=lt_of m5;simp;omega) (Ne.symm aR)];exact heap_old m5 _)
     have mR7:=Tk.h_other (i:=6) mR6 (Ne.symm hTR) (.slice (some ⟨gg,0,none⟩) (done.length+1) cap6)
     have mT7:=Tk.h_set (i:=6) mT6 (.slice (some ⟨gg,0,none⟩) (done.length+1) cap6)
     have O7:=own_off (b:=T) (i:=6) hown1 hgT (.slice (some ⟨gg,0,none⟩) (done.length+1) cap6)
     rw[lcells_snoc]at O7
     have hdl:done.length+1=(done++ [(⟨p0,p1,p2,p3,p4,p5⟩:Lg)]).length:=by simp
     have K6:Below w.heap.size w w6:=(K5.alloc hbs _).drew.grown hgrow (by simp;omega) (fun m h=>own_ge O5 m h)
     have K7:=K6.setCell (p:=⟨T,6,none⟩) (by show w.heap.size≤T;omega) (.slice (some ⟨gg,0,none⟩) (done.length+1) cap6)
     go_wp2
     go_roundw
     case rel=>exact⟨n',r2,done++ [⟨p0,p1,p2,p3,p4,p5⟩],some ⟨gg,0,none⟩,cap6,rfl,by simp;omega,by omega,HG2,mR7,by rw[←hdl];exact mT7,by rw[←hdl];exact O7,K7⟩
     case measure=>show r2.size<r.size;omega

end Gt
end Go.Proofs.YtdcpjicgehdmfaaGreatDoor

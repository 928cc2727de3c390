/- Texts laid into one, in their order: GtGuess, GtPure, GtImpl, TkMark, GtMark, GtOne, FrBound, SignEq, SignEq2, SignVerify, RdEnd, IsIss, FrCut, FrJoin, UnRefuse, UnBitI, UnNumI, UnBt, UnSymI, UnLeast, UnCopyI, UnRestI, UnJump, UnBlkI, UnCatch, UnUnpI. -/
import Derived.Test.YtcjgkmhpeedhiaaGreatDoorManyBFnIssued
import Derived.Test.YtcjgkmhpeedhiaaGreatDoorGtLegs
import Derived.Test.YtcjgkmhpeedhiaaGreatDoorGtShape
import Derived.Deep.RegionLaw
import Derived.Deep.RegionHeld3
import Derived.Deep.AppendLies
import Derived.Test.YtcjgkmhpeedhiaaGreatDoorGtShape2
import Derived.Test.YtcjgkmhpeedhiaaGreatDoorTkLegs
import Derived.Test.YtcjgkmhpeedhiaaGreatDoorGtSpec
import Derived.Shelf.Vars
import Derived.Test.YtcjgkmhpeedhiaaGreatDoorManyAFnIssued
import Derived.Test.YtcjgkmhpeedhiaaGreatDoorSignVer
import Derived.Test.YtcjgkmhpeedhiaaGreatDoorNum
import Derived.Test.YtcjgkmhpeedhiaaGreatDoorPkRow
import Derived.Deep.RegionWith
import Derived.WalkMore
import Derived.ScopeJumps
import Derived.Defers
import Derived.Recover
import Derived.Laws.Pointers
/- The program's guessTicket. -/
namespace Go.Proofs.YtcjgkmhpeedhiaaGreatDoor
namespace Gt
open Go.ChangeShapes Go.WideShapes Go.ChangeAt Go.RowKit
open Pk (own_at own_ge own_below own_form info_of new_below join_below heap_new lt_of kept cell_at heap_old frozen_at)
open Tk (Lg Hd Legs lgV tkV tkB okB putT)
set_option linter.unusedSimpArgs false
set_option linter.unusedVariables false

def ctA (s:ByteArray):ByteArray:=⟨(Lib.cut s.data.toList [10]).1.toArray⟩
def ctR (s:ByteArray):ByteArray:=⟨(Lib.cut s.data.toList [10]).2.1.toArray⟩
def ctB (s:ByteArray):Bool:=(Lib.cut s.data.toList [10]).2.2

theorem ct_size (s:ByteArray):(ctA s).size≤s.size∧(ctR s).size≤s.size∧(0<s.size→(ctR s).size<s.size):=by
 have hl:s.data.toList.length=s.size:=Array.length_toList
 have e:∀l:List UInt8,(⟨l.toArray⟩:ByteArray).size=l.length:=fun l=>by simp[ByteArray.size]
 unfold ctA ctR
 simp only[e]
 generalize s.data.toList=l at*
 unfold Lib.cut
 split
 ·simp only[List.length_take,List.length_drop]
  have h1:([10]:List UInt8).length=1:=rfl
  omega
 ·simp only[List.length_nil]
  omega

theorem below_drewN {B:Nat} {a w:World} (h:Below B a w) (n:Nat):Below B a (w.drewN n):=⟨h.os,h.tape,h.output,h.size,h.block⟩

theorem cut_val (s:ByteArray) (w:World) (hs:s.size≤1048576) (M:ML w):
 Calls Tryz.prog 108 #[.string s,.string ⟨#[10]⟩] w fun e w'=>e= .returned (.tuple #[.string (ctA s),.string (ctR s),.bool (ctB s)])∧Below w.heap.size w w':=by
 obtain⟨m,hm⟩:=M
 refine(Tryz.strings_Cut s ⟨#[10]⟩ m w (by omega) hm).mono ?_
 rintro e w' ⟨rfl,n,rfl⟩
 exact⟨rfl,below_drewN (Below.refl _ _) n⟩

noncomputable def lgI (x:ByteArray):Lg:=⟨(nAt x 6 0:Nat),(nAt x 6 1:Nat),(nAt x 6 2:Nat),(nAt x 6 3:Nat),(nAt x 6 4:Nat),(nAt x 6 5:Nat)⟩

noncomputable def gL:Nat→ByteArray→List Lg
 |0,_=> []
 |n+1,r=>if r.size=0 then[]else lgI (ctA r)::gL n (ctR r)

theorem gL_step {n:Nat} {r:ByteArray} (h:¬r.size=0):gL (n+1) r=lgI (ctA r)::gL n (ctR r):=by rw[gL,if_neg h]

theorem gL_end {n:Nat} {r:ByteArray} (h:r.size=0):gL n r= []:=by
 cases n with
 |zero=>rfl
 |succ n=>rw[gL,if_pos h]

noncomputable def gHd (s:ByteArray):Hd:=⟨(nAt (ctA s) 5 0:Nat),(nAt (ctA s) 5 1:Nat),(nAt (ctA s) 5 2:Nat),(nAt (ctA s) 5 3:Nat),(nAt (ctA s) 5 4:Nat)⟩
def gNm (s:ByteArray):ByteArray:=⟨(Lib.trimPrefix (ctA (ctR s)).data.toList [110,97,109,101,32]).toArray⟩
noncomputable def gLs (s:ByteArray):List Lg:=gL 7 (ctR (ctR s))

theorem own_offv {w:World} {base e z n b i:Nat} {v:Value} {xs:List Value} (h:w.ownsRow base e z v n xs) (hne:v.ownBlock≠some b) (u:Value):(w.setCell ⟨b,i,none⟩ u).ownsRow base e z v n xs:=by
 obtain⟨hl,h2⟩:=h
 refine⟨hl,?_⟩
 rcases h2 with h2|⟨g',cap',cur,hv,hg,hh,h1,h3,h4,h5⟩
 ·exact Or.inl h2
 ·subst hv
  have hne2:g'≠b:=fun e=>hne (by rw[e];rfl)
  exact Or.inr ⟨g',cap',cur,rfl,hg,Tk.h_other hh hne2 u,h1,h3,h4,h5⟩

def szV:Value→Nat
 | .string b=>b.size
 |_=>0

set_option maxRecDepth 100000 in
set_option maxHeartbeats 16000000 in
theorem guess_val (s:ByteArray) (w:World) (hs:s.size≤1048576) (M:ML w):
 Calls Tryz.prog 67 #[.string s] w fun e w'=>(∃a cap,e= .returned (tkV (gHd s) (gNm s) a (gLs s).length cap)∧w'.ownsRow w.heap.size 64 6 (.slice a (gLs s).length cap) (gLs s).length (lcells (gLs s)))∧Below w.heap.size w w':=by
 obtain⟨i0,hi,hz0,hz1,hz2⟩:=info_of Tk.info_leg
 obtain⟨c1,c2,-⟩:=ct_size s
 obtain⟨d1,d2,-⟩:=ct_size (ctR s)
 have HML:Hid (∀W,Below w.heap.size w W→ML W):=fun W L=>M.on L
 have HC1:Hid (∀W,ML W→_):=fun W h=>cut_val s W hs h
 have HC2:Hid (∀W,ML W→_):=fun W h=>cut_val (ctR s) W (by omega) h
 have HNI:Hid (∀W,ML W→_):=fun W h=>numbersIn_val (ctA s) 5 W (by omega) (by omega) (by omega) h
 rw[show((5:Nat):Int)=5 from rfl]at HNI
 have HTP:Hid (∀W,_):=fun W=>Tryz.strings_TrimPrefix (ctA (ctR s)) ⟨#[110,97,109,101,32]⟩ W
 rw[show(⟨(Lib.trimPrefix (ctA (ctR s)).data.toList (⟨#[110,97,109,101,32]⟩:ByteArray).data.toList).toArray⟩:ByteArray)=gNm s from rfl]at HTP
 have HGL:Hid (gLs s=gL 7 (ctR (ctR s))):=rfl
 have HHD:Hid (gHd s=⟨(nAt (ctA s) 5 0:Nat),(nAt (ctA s) 5 1:Nat),(nAt (ctA s) 5 2:Nat),(nAt (ctA s) 5 3:Nat),(nAt (ctA s) 5 4:Nat)⟩):=rfl
 have hr0:(ctR (ctR s)).size≤1048576:=by omega
 generalize gLs s=GL at*
 generalize gHd s=GH at*
 generalize gNm s=nm at*
 generalize ctR (ctR s)=r0 at*
 generalize ctA (ctR s)=nmT at*
 generalize ctB (ctR s)=bb2 at*
 generalize ctR s=r1 at*
 generalize ctB s=bb1 at*
 generalize ctA s=hd at*
 have N0:=new_below w (.cells #[.int .i64 0,.string ⟨#[]⟩,.int .i64 0,.int .i64 0,.int .i64 0,.int .i64 0,.slice none 0 0] 28)
 have m0:=heap_new w (.cells #[.int .i64 0,.string ⟨#[]⟩,.int .i64 0,.int .i64 0,.int .i64 0,.int .i64 0,.slice none 0 0] 28)
 go_enter Tryz.func67,Tryz.ntmps67
 go_wp2_with fail
 generalize w.alloc (.cells #[.int .i64 0,.string ⟨#[]⟩,.int .i64 0,.int .i64 0,.int .i64 0,.int .i64 0,.slice none 0 0] 28)=w0 at*
 refine(HC1.out _ (HML.out _ N0)).mono ?_
 rintro e w1 ⟨rfl,L1⟩
 have m1:=kept L1 (lt_of m0) m0
 have K1:=join_below N0 L1
 go_wp2_with fail
 refine(HC2.out _ (HML.out _ K1)).mono ?_
 rintro e w2 ⟨rfl,L2⟩
 have m2:=kept L2 (lt_of m1) m1
 have K2:=join_below K1 L2
 clear m0 m1 N0 K1 L1 L2 HC1 HC2
 go_wp2_with fail
 refine(HNI.out _ (HML.out _ K2)).mono ?_
 rintro e w3 ⟨⟨gx,rfl,hgx0,hgx,hcx⟩,L3⟩
 have m3:=kept L3 (lt_of m2) m2
 have K3:=join_below K2 L3
 have x0:=hcx 0 (by omega)
 have x1:=hcx 1 (by omega)
 have x2:=hcx 2 (by omega)
 have x3:=hcx 3 (by omega)
 have x4:=hcx 4 (by omega)
 clear m2 K2 L3 hcx HNI
 generalize nAt hd 5 0=n0 at*
 generalize nAt hd 5 1=n1 at*
 generalize nAt hd 5 2=n2 at*
 generalize nAt hd 5 3=n3 at*
 generalize nAt hd 5 4=n4 at*
 have e0:=World.new_ne w3 ⟨gx,0,none⟩ x0
 go_wp2
 go_region_held3 (fun w'=>w'.cell? ⟨gx,0,none⟩=some (.int .i64 (n0:Int))∧w'.cell? ⟨gx,1,none⟩=some (.int .i64 (n1:Int))∧w'.cell? ⟨gx,2,none⟩=some (.int .i64 (n2:Int))∧w'.cell? ⟨gx,3,none⟩=some (.int .i64 (n3:Int))∧w'.cell? ⟨gx,4,none⟩=some (.int .i64 (n4:Int))) (go_keep) (first|(go_at_call 110;(with_reducible refine(HTP.out _).mono ?_);rintro e xT ⟨rfl,rfl⟩))
 all_goals
  have mT:=heap_new w3 (.cells #[.int .i64 (n0:Int),.string nm,.int .i64 (n1:Int),.int .i64 (n2:Int),.int .i64 (n3:Int),.int .i64 (n4:Int),.slice none 0 0] 28)
  have NT:=new_below w3 (.cells #[.int .i64 (n0:Int),.string nm,.int .i64 (n1:Int),.int .i64 (n2:Int),.int .i64 (n3:Int),.int .i64 (n4:Int),.slice none 0 0] 28)
  have m4:=kept NT (lt_of m3) m3
  have K4:=join_below K3 NT
  have hTR:w3.heap.size≠w.heap.size:=by have:=lt_of m3;omega
  have hTge:w.heap.size≤w3.heap.size:=K3.size
  clear m3 K3 NT x0 x1 x2 x3 x4 e0 hgx hgx0
  generalize w3.alloc (.cells #[.int .i64 (n0:Int),.string nm,.int .i64 (n1:Int),.int .i64 (n2:Int),.int .i64 (n3:Int),.int .i64 (n4:Int),.slice none 0 0] 28)=W3 at*
  generalize w3.heap.size=T at*
  go_wp2
  go_loopw [4] (fun v wr=>∃(n:Nat) (r:ByteArray) (done:List Lg) (a:Option Addr) (lc:Nat),v= .string r∧done.length+n=7∧r.size≤1048576∧Hid (GL=done++gL n r)∧wr.heap[w.heap.size]? =some (.cells #[.int .i64 0,.string ⟨#[]⟩,.int .i64 0,.int .i64 0,.int .i64 0,.int .i64 0,.slice none 0 0] 28)∧wr.heap[T]? =some (.cells #[.int .i64 (n0:Int),.string nm,.int .i64 (n1:Int),.int .i64 (n2:Int),.int .i64 (n3:Int),.int .i64 (n4:Int),.slice a done.length lc] 28)∧wr.ownsRow w.heap.size 64 6 (.slice a done.length lc) done.length (lcells done)∧Hid (Below w.heap.size w wr)) (fun v _=>szV v)
  case atStart=>exact⟨7,r0,[],none,0,rfl,rfl,hr0,HGL,m4,mT,⟨rfl,Or.inl ⟨rfl,rfl⟩⟩,K4.drew⟩
  case round=>
   clear m4 mT K4 HGL hr0
   obtain⟨n,r,done,la,lc,rfl,hdn,hr,HG,m4,mT4,O4,K4⟩:=hrel
   have t6:wr.cell? ⟨T,6,none⟩=some (.slice la done.length lc):=cell_at mT4 6
   by_cases hr0:r.size=0
   ·obtain rfl:r=⟨#[]⟩:=by
     apply bl_ext
     rw[List.eq_nil_of_length_eq_zero (l:=bl r) (by rw[bl_length];exact hr0)]
    rw[gL_end hr0,List.append_nil]at HG
    have a0:wr.cell? ⟨w.heap.size,0,none⟩=some (.int .i64 0):=cell_at m4 0
    have a1:wr.cell? ⟨w.heap.size,1,none⟩=some (.string ⟨#[]⟩):=cell_at m4 1
    have a2:wr.cell? ⟨w.heap.size,2,none⟩=some (.int .i64 0):=cell_at m4 2
    have a3:wr.cell? ⟨w.heap.size,3,none⟩=some (.int .i64 0):=cell_at m4 3
    have a4:wr.cell? ⟨w.heap.size,4,none⟩=some (.int .i64 0):=cell_at m4 4
    have a5:wr.cell? ⟨w.heap.size,5,none⟩=some (.int .i64 0):=cell_at m4 5
    have a6:wr.cell? ⟨w.heap.size,6,none⟩=some (.slice none 0 0):=cell_at m4 6
    have f0:wr.frozen? ⟨w.heap.size,0,none⟩=false:=frozen_at m4 0
    have f1:wr.frozen? ⟨w.heap.size,1,none⟩=false:=frozen_at m4 1
    have f2:wr.frozen? ⟨w.heap.size,2,none⟩=false:=frozen_at m4 2
    have f3:wr.frozen? ⟨w.heap.size,3,none⟩=false:=frozen_at m4 3
    have f4:wr.frozen? ⟨w.heap.size,4,none⟩=false:=frozen_at m4 4
    have f5:wr.frozen? ⟨w.heap.size,5,none⟩=false:=frozen_at m4 5
    have f6:wr.frozen? ⟨w.heap.size,6,none⟩=false:=frozen_at m4 6
    have b0:wr.cell? ⟨T,0,none⟩=some (.int .i64 (n0:Int)):=cell_at mT4 0
    have b1:wr.cell? ⟨T,1,none⟩=some (.string nm):=cell_at mT4 1
    have b2:wr.cell? ⟨T,2,none⟩=some (.int .i64 (n1:Int)):=cell_at mT4 2
    have b3:wr.cell? ⟨T,3,none⟩=some (.int .i64 (n2:Int)):=cell_at mT4 3
    have b4:wr.cell? ⟨T,4,none⟩=some (.int .i64 (n3:Int)):=cell_at mT4 4
    have b5:wr.cell? ⟨T,5,none⟩=some (.int .i64 (n4:Int)):=cell_at mT4 5
    have b6:wr.cell? ⟨T,6,none⟩=some (.slice la done.length lc):=cell_at mT4 6
    obtain rfl:GL=done:=HG
    have OE:Hid (wr.ownsRow w.heap.size 64 6 (.slice la GL.length lc) GL.length (lcells GL)):=O4
    have aR:(Value.slice la GL.length lc).ownBlock≠some w.heap.size:=Pk.own_ne' O4 m4 (by decide)
    go_wp2
    refine bodyPost_ret (v:=tkV ⟨(n0:Int),(n1:Int),(n2:Int),(n3:Int),(n4:Int)⟩ nm la GL.length lc) (by simp[results,Tryz.results67,go_sem,a0,a1,a2,a3,a4,a5,a6]) rfl ?_
    refine⟨⟨la,lc,by rw[HHD.out],?_⟩,?_⟩
    ·exact own_offv (own_offv (own_offv (own_offv (own_offv (own_offv (own_offv OE.out aR _) aR _) aR _) aR _) aR _) aR _) aR _
    ·(repeat' (first|apply Below.setCell|exact K4.out))<;>first|(simp;done)|(simp;omega)
   ·have hz3:¬r.toList= []:=fun h=>hr0 (by have h2:=congrArg List.length h;rw[ByteArray.toList_eq]at h2;rw[←bl_length];exact h2)
    have hz4:(r.toList== [])=false:=beq_eq_false_iff_ne.2 hz3
    have hz5:¬r=⟨#[]⟩:=fun h=>hr0 (by rw[h];rfl)
    by_cases hn:n=0
    ·have hd7:¬(done.length:Int)≤6:=by omega
     subst hn
     rw[show gL 0 r= []from rfl,List.append_nil]at HG
     have a0:wr.cell? ⟨w.heap.size,0,none⟩=some (.int .i64 0):=cell_at m4 0
     have a1:wr.cell? ⟨w.heap.size,1,none⟩=some (.string ⟨#[]⟩):=cell_at m4 1
     have a2:wr.cell? ⟨w.heap.size,2,none⟩=some (.int .i64 0):=cell_at m4 2
     have a3:wr.cell? ⟨w.heap.size,3,none⟩=some (.int .i64 0):=cell_at m4 3
     have a4:wr.cell? ⟨w.heap.size,4,none⟩=some (.int .i64 0):=cell_at m4 4
     have a5:wr.cell? ⟨w.heap.size,5,none⟩=some (.int .i64 0):=cell_at m4 5
     have a6:wr.cell? ⟨w.heap.size,6,none⟩=some (.slice none 0 0):=cell_at m4 6
     have f0:wr.frozen? ⟨w.heap.size,0,none⟩=false:=frozen_at m4 0
     have f1:wr.frozen? ⟨w.heap.size,1,none⟩=false:=frozen_at m4 1
     have f2:wr.frozen? ⟨w.heap.size,2,none⟩=false:=frozen_at m4 2
     have f3:wr.frozen? ⟨w.heap.size,3,none⟩=false:=frozen_at m4 3
     have f4:wr.frozen? ⟨w.heap.size,4,none⟩=false:=frozen_at m4 4
     have f5:wr.frozen? ⟨w.heap.size,5,none⟩=false:=frozen_at m4 5
     have f6:wr.frozen? ⟨w.heap.size,6,none⟩=false:=frozen_at m4 6
     have b0:wr.cell? ⟨T,0,none⟩=some (.int .i64 (n0:Int)):=cell_at mT4 0
     have b1:wr.cell? ⟨T,1,none⟩=some (.string nm):=cell_at mT4 1
     have b2:wr.cell? ⟨T,2,none⟩=some (.int .i64 (n1:Int)):=cell_at mT4 2
     have b3:wr.cell? ⟨T,3,none⟩=some (.int .i64 (n2:Int)):=cell_at mT4 3
     have b4:wr.cell? ⟨T,4,none⟩=some (.int .i64 (n3:Int)):=cell_at mT4 4
     have b5:wr.cell? ⟨T,5,none⟩=some (.int .i64 (n4:Int)):=cell_at mT4 5
     have b6:wr.cell? ⟨T,6,none⟩=some (.slice la done.length lc):=cell_at mT4 6
     obtain rfl:GL=done:=HG
     have OE:Hid (wr.ownsRow w.heap.size 64 6 (.slice la GL.length lc) GL.length (lcells GL)):=O4
     have aR:(Value.slice la GL.length lc).ownBlock≠some w.heap.size:=Pk.own_ne' O4 m4 (by decide)
     go_wp2
     refine bodyPost_ret (v:=tkV ⟨(n0:Int),(n1:Int),(n2:Int),(n3:Int),(n4:Int)⟩ nm la GL.length lc) (by simp[results,Tryz.results67,go_sem,a0,a1,a2,a3,a4,a5,a6]) rfl ?_
     refine⟨⟨la,lc,by rw[HHD.out],?_⟩,?_⟩
     ·exact own_offv (own_offv (own_offv (own_offv (own_offv (own_offv (own_offv OE.out aR _) aR _) aR _) aR _) aR _) aR _) aR _
     ·(repeat' (first|apply Below.setCell|exact K4.out))<;>first|(simp;done)|(simp;omega)
    ·obtain⟨n',rfl⟩:∃n',n=n'+1:=⟨n-1,by omega⟩
     have hd7:(done.length:Int)≤6:=by omega
     rw[gL_step hr0]at HG
     obtain⟨c3,c4,c5⟩:=ct_size r
     have c6:=c5 (by omega)
     have HC3:Hid (∀W,ML W→_):=fun W h=>cut_val r W hr h
     have HN6:Hid (∀W,ML W→_):=fun W h=>numbersIn_val (ctA r) 6 W (by omega) (by omega) (by omega) h
     rw[show((6:Nat):Int)=6 from rfl]at HN6
     have HLI:Hid (lgI (ctA r)=⟨(nAt (ctA r) 6 0:Nat),(nAt (ctA r) 6 1:Nat),(nAt (ctA r) 6 2:Nat),(nAt (ctA r) 6 3:Nat),(nAt (ctA r) 6 4:Nat),(nAt (ctA r) 6 5:Nat)⟩):=rfl
     rw[HLI.out]at HG
     generalize ctB r=bb at*
     generalize ctR r=r2 at*
     generalize ctA r=xl at*
     go_wp2_with fail
     refine(HC3.out _ (HML.out _ K4.out)).mono ?_
     rintro e w4 ⟨rfl,L4⟩
     have m5':=kept L4 (lt_of m4) m4
     have mT5':=kept L4 (lt_of mT4) mT4
     have O5':=own_below O4 L4 (Nat.le_refl _)
     have K5':=join_below K4.out L4
     clear m4 mT4 O4 K4 L4 t6 HC3
     go_wp2_with fail
     refine(HN6.out _ (HML.out _ K5')).mono ?_
     rintro e w5 ⟨⟨hx,rfl,hwx,hgx6,hcx6⟩,L5⟩
     have m5:=kept L5 (lt_of m5') m5'
     have mT5:=kept L5 (lt_of mT5') mT5'
     have O5:=own_below O5' L5 (Nat.le_refl _)
     have K5:=join_below K5' L5
     have hTw:T<w4.heap.size:=lt_of mT5'
     have HLT:Hid (∀k',(Value.slice la done.length lc).ownBlock=some k'→k'<w4.heap.size):=fun k' h=>(O5'.lt k' h).2
     have x0:=hcx6 0 (by omega)
     have x1:=hcx6 1 (by omega)
     have x2:=hcx6 2 (by omega)
     have x3:=hcx6 3 (by omega)
     have x4:=hcx6 4 (by omega)
     have x5:=hcx6 5 (by omega)
     clear m5' mT5' O5' K5' L5 HN6 HLI hcx6
     generalize nAt xl 6 0=p0 at*
     generalize nAt xl 6 1=p1 at*
     generalize nAt xl 6 2=p2 at*
     generalize nAt xl 6 3=p3 at*
     generalize nAt xl 6 4=p4 at*
     generalize nAt xl 6 5=p5 at*
     have tx:w5.cell? ⟨T,6,none⟩=some (.slice la done.length lc):=cell_at mT5 6
     have txA:(w5.alloc (.cells #[.int .i64 (p0:Int),.int .i64 (p1:Int),.int .i64 (p2:Int),.int .i64 (p3:Int),.int .i64 (p4:Int),.int .i64 (p5:Int)] 64)).cell? ⟨T,6,none⟩=some (.slice la done.length lc):=cell_at (heap_old mT5 _) 6
     have hTx:T≠hx:=by omega
     have aT:(Value.slice la done.length lc).ownBlock≠some T:=Pk.own_ne' O5 mT5 (by decide)
     have aX:(Value.slice la done.length lc).ownBlock≠some hx:=fun h=>by have:=HLT.out hx h;omega
     have aR:(Value.slice la done.length lc).ownBlock≠some w.heap.size:=Pk.own_ne' O5 m5 (by decide)
     have htl:T<w5.heap.size:=lt_of mT5
     have hkm:done.length+1≤maxLen:=by unfold maxLen;omega
     have hkb:(done.length+1)*48≤140737488355328:=by omega
     have hbs:w.heap.size≤w5.heap.size:=K5.size
     have HG2:Hid (GL=(done++ [⟨p0,p1,p2,p3,p4,p5⟩])++gL n' r2):=by
      show _=_
      rw[HG.out,List.append_assoc]
      rfl
     go_wp2
     refine wp_region_held_drew (S:=(fun w'=>w'.cell? ⟨hx,0,none⟩=some (.int .i64 (p0:Int))∧w'.cell? ⟨hx,1,none⟩=some (.int .i64 (p1:Int))∧w'.cell? ⟨hx,2,none⟩=some (.int .i64 (p2:Int))∧w'.cell? ⟨hx,3,none⟩=some (.int .i64 (p3:Int))∧w'.cell? ⟨hx,4,none⟩=some (.int .i64 (p4:Int))∧w'.cell? ⟨hx,5,none⟩=some (.int .i64 (p5:Int)))) (by kernel_rfl) ?_ (fun hHeld=> ?_)
     ·exact⟨x0,x1,x2,x3,x4,x5⟩
     refine wpAnyH_take (i:=0) (v:= ?_) rfl (by kernel_rfl) (by kernel_rfl) (by kernel_rfl) (fun _ _ _ h=>h) (Or.inl ⟨by rfl,?_⟩) (by assumption) ?_
     rotate_left 1
     ·(intro wS hSw;(try dsimp only at hSw);go_simp;try (with_reducible rfl))
     (try simp only[Act.put,List.setIfInBounds_toArray,List.set_cons_zero,List.set_cons_succ])
     refine wpAnyH_take (i:=2) (v:= ?_) rfl (by kernel_rfl) (by kernel_rfl) (by kernel_rfl) (fun _ _ _ h=>h) (Or.inl ⟨by rfl,?_⟩) (by assumption) ?_
     rotate_left 1
     ·(intro wS hSw;(try dsimp only at hSw);go_simp;try (with_reducible rfl))
     (try simp only[Act.put,List.setIfInBounds_toArray,List.set_cons_zero,List.set_cons_succ])
     refine wpAnyH_take (i:=3) (v:= ?_) rfl (by kernel_rfl) (by kernel_rfl) (by kernel_rfl) (fun _ _ _ h=>h) (Or.inl ⟨by rfl,?_⟩) (by assumption) ?_
     rotate_left 1
     ·(intro wS hSw;(try dsimp only at hSw);go_simp;try (with_reducible rfl))
     (try simp only[Act.put,List.setIfInBounds_toArray,List.set_cons_zero,List.set_cons_succ])
     refine wpAnyH_take (i:=4) (v:= ?_) rfl (by kernel_rfl) (by kernel_rfl) (by kernel_rfl) (fun _ _ _ h=>h) (Or.inl ⟨by rfl,?_⟩) (by assumption) ?_
     rotate_left 1
     ·(intro wS hSw;(try dsimp only at hSw);go_simp;try (with_reducible rfl))
     (try simp only[Act.put,List.setIfInBounds_toArray,List.set_cons_zero,List.set_cons_succ])
     refine wpAnyH_take (i:=5) (v:= ?_) rfl (by kernel_rfl) (by kernel_rfl) (by kernel_rfl) (fun _ _ _ h=>h) (Or.inl ⟨by rfl,?_⟩) (by assumption) ?_
     rotate_left 1
     ·(intro wS hSw;(try dsimp only at hSw);go_simp;try (with_reducible rfl))
     (try simp only[Act.put,List.setIfInBounds_toArray,List.set_cons_zero,List.set_cons_succ])
     refine wpAnyH_take (i:=6) (v:= ?_) rfl (by kernel_rfl) (by kernel_rfl) (by kernel_rfl) (fun _ _ _ h=>h) (Or.inl ⟨by rfl,?_⟩) (by assumption) ?_
     rotate_left 1
     ·(intro wS hSw;(try dsimp only at hSw);go_simp;try (with_reducible rfl))
     (try simp only[Act.put,List.setIfInBounds_toArray,List.set_cons_zero,List.set_cons_succ])
     refine wpAnyH_take (i:=7) (v:= ?_) rfl (by kernel_rfl) (by kernel_rfl) (by kernel_rfl) (fun _ _ _ h=>h) (Or.inl ⟨by rfl,?_⟩) (by assumption) ?_
     rotate_left 1
     ·(intro wS hSw;(try dsimp only at hSw);go_simp;try (with_reducible rfl))
     (try simp only[Act.put,List.setIfInBounds_toArray,List.set_cons_zero,List.set_cons_succ])
     refine wpAnyH_take (i:=8) (v:= ?_) rfl (by kernel_rfl) (by kernel_rfl) (by kernel_rfl) (fun _ _ _ h=>h) (Or.inl ⟨by rfl,?_⟩) (by assumption) ?_
     rotate_left 1
     ·(intro wS hSw;(try dsimp only at hSw);go_simp;try (with_reducible rfl))
     (try simp only[Act.put,List.setIfInBounds_toArray,List.set_cons_zero,List.set_cons_succ])
     refine wpAnyH_take (i:=9) (v:= ?_) rfl (by kernel_rfl) (by kernel_rfl) (by kernel_rfl) (fun _ _ _ h=>h) (Or.inl ⟨by rfl,?_⟩) (by assumption) ?_
     rotate_left 1
     ·(intro wS hSw;(try dsimp only at hSw);go_simp;try (with_reducible rfl))
     (try simp only[Act.put,List.setIfInBounds_toArray,List.set_cons_zero,List.set_cons_succ])
     refine wpAnyH_take (i:=10) (v:= ?_) rfl (by kernel_rfl) (by kernel_rfl) (by kernel_rfl) (fun _ _ _ h=>h) (Or.inl ⟨by rfl,?_⟩) (by assumption) ?_
     rotate_left 1
     ·(intro wS hSw;(try dsimp only at hSw);go_simp;try (with_reducible rfl))
     (try simp only[Act.put,List.setIfInBounds_toArray,List.set_cons_zero,List.set_cons_succ])
     refine wpAnyH_take (i:=11) (v:= ?_) rfl (by kernel_rfl) (by kernel_rfl) (by kernel_rfl) (fun _ _ _ h=>h) (Or.inl ⟨by rfl,?_⟩) (by assumption) ?_
     rotate_left 1
     ·(intro wS hSw;(try dsimp only at hSw);go_simp;try (with_reducible rfl))
     (try simp only[Act.put,List.setIfInBounds_toArray,List.set_cons_zero,List.set_cons_succ])
     refine wpAnyH_take (i:=12) (v:= ?_) rfl (by kernel_rfl) (by kernel_rfl) (by kernel_rfl) (fun _ _ _ h=>h) (Or.inl ⟨by rfl,?_⟩) (by assumption) ?_
     rotate_left 1
     ·(intro wS hSw;(try dsimp only at hSw);go_simp;try (with_reducible rfl))
     (try simp only[Act.put,List.setIfInBounds_toArray,List.set_cons_zero,List.set_cons_succ])
     refine wpAnyH_take (i:=13) (v:= ?_) rfl (by kernel_rfl) (by kernel_rfl) (by kernel_rfl) (fun _ _ _ h=>h) (Or.inl ⟨by rfl,?_⟩) (by assumption) ?_
     rotate_left 1
     ·(intro wS hSw;(try dsimp only at hSw);go_simp;try (with_reducible rfl))
     (try simp only[Act.put,List.setIfInBounds_toArray,List.set_cons_zero,List.set_cons_succ])
     refine wpAnyH_take (i:=14) (v:= ?_) rfl (by kernel_rfl) (by kernel_rfl) (by kernel_rfl) (fun _ _ _ h=>h) (Or.inl ⟨by rfl,?_⟩) (by assumption) ?_
     rotate_left 1
     ·(intro wS hSw;(try dsimp only at hSw);go_simp;try (with_reducible rfl))
     (try simp only[Act.put,List.setIfInBounds_toArray,List.set_cons_zero,List.set_cons_succ])
     refine wpAnyH_take (i:=15) (v:= ?_) rfl (by kernel_rfl) (by kernel_rfl) (by kernel_rfl) (fun _ _ _ h=>h) (Or.inl ⟨by rfl,?_⟩) (by assumption) ?_
     rotate_left 1
     ·(intro wS hSw;(try dsimp only at hSw);go_simp;try (with_reducible rfl))
     (try simp only[Act.put,List.setIfInBounds_toArray,List.set_cons_zero,List.set_cons_succ])
     refine wpAnyH_take (i:=16) (v:= ?_) rfl (by kernel_rfl) (by kernel_rfl) (by kernel_rfl) (fun _ _ _ h=>h) (Or.inl ⟨by rfl,?_⟩) (by assumption) ?_
     rotate_left 1
     ·(intro wS hSw;(try dsimp only at hSw);go_simp;try (with_reducible rfl))
     (try simp only[Act.put,List.setIfInBounds_toArray,List.set_cons_zero,List.set_cons_succ])
     refine wpAnyH_take (i:=17) (v:= ?_) rfl (by kernel_rfl) (by kernel_rfl) (by kernel_rfl) (fun _ _ _ h=>h) (Or.inl ⟨by rfl,?_⟩) (by assumption) ?_
     rotate_left 1
     ·(intro wS hSw;(try dsimp only at hSw);go_simp;try (with_reducible rfl))
     (try simp only[Act.put,List.setIfInBounds_toArray,List.set_cons_zero,List.set_cons_succ])
     refine wpAnyH_take (i:=18) (v:= ?_) rfl (by kernel_rfl) (by kernel_rfl) (by kernel_rfl) (fun _ _ _ h=>h) (Or.inl ⟨by rfl,?_⟩) (by assumption) ?_
     rotate_left 1
     ·(intro wS hSw;(try dsimp only at hSw);go_simp;try (with_reducible rfl))
     (try simp only[Act.put,List.setIfInBounds_toArray,List.set_cons_zero,List.set_cons_succ])
     refine wpAnyH_take (i:=19) (v:= ?_) rfl (by kernel_rfl) (by kernel_rfl) (by kernel_rfl) (fun _ _ _ h=>h) (Or.inl ⟨by rfl,?_⟩) (by assumption) ?_
     rotate_left 1
     ·(intro wS hSw;(try dsimp only at hSw);go_simp;try (with_reducible rfl))
     (try simp only[Act.put,List.setIfInBounds_toArray,List.set_cons_zero,List.set_cons_succ])
     refine wpAnyH_take (i:=20) (v:= ?_) rfl (by kernel_rfl) (by kernel_rfl) (by kernel_rfl) (fun _ _ _ h=>h) (Or.inl ⟨by rfl,?_⟩) (by assumption) ?_
     rotate_left 1
     ·(intro wS hSw;(try dsimp only at hSw);go_simp;try (with_reducible rfl))
     (try simp only[Act.put,List.setIfInBounds_toArray,List.set_cons_zero,List.set_cons_succ])
     have yy0:(w5.alloc (.cells #[.int .i64 (p0:Int),.int .i64 (p1:Int),.int .i64 (p2:Int),.int .i64 (p3:Int),.int .i64 (p4:Int),.int .i64 (p5:Int)] 64)).cell? ⟨hx,0,none⟩=some (.int .i64 (p0:Int)):=by rw[(new_below w5 _).cell (p:=⟨hx,0,none⟩) hgx6];exact x0
     have yy1:(w5.alloc (.cells #[.int .i64 (p0:Int),.int .i64 (p1:Int),.int .i64 (p2:Int),.int .i64 (p3:Int),.int .i64 (p4:Int),.int .i64 (p5:Int)] 64)).cell? ⟨hx,1,none⟩=some (.int .i64 (p1:Int)):=by rw[(new_below w5 _).cell (p:=⟨hx,1,none⟩) hgx6];exact x1
     have yy2:(w5.alloc (.cells #[.int .i64 (p0:Int),.int .i64 (p1:Int),.int .i64 (p2:Int),.int .i64 (p3:Int),.int .i64 (p4:Int),.int .i64 (p5:Int)] 64)).cell? ⟨hx,2,none⟩=some (.int .i64 (p2:Int)):=by rw[(new_below w5 _).cell (p:=⟨hx,2,none⟩) hgx6];exact x2
     have yy3:(w5.alloc (.cells #[.int .i64 (p0:Int),.int .i64 (p1:Int),.int .i64 (p2:Int),.int .i64 (p3:Int),.int .i64 (p4:Int),.int .i64 (p5:Int)] 64)).cell? ⟨hx,3,none⟩=some (.int .i64 (p3:Int)):=by rw[(new_below w5 _).cell (p:=⟨hx,3,none⟩) hgx6];exact x3
     have yy4:(w5.alloc (.cells #[.int .i64 (p0:Int),.int .i64 (p1:Int),.int .i64 (p2:Int),.int .i64 (p3:Int),.int .i64 (p4:Int),.int .i64 (p5:Int)] 64)).cell? ⟨hx,4,none⟩=some (.int .i64 (p4:Int)):=by rw[(new_below w5 _).cell (p:=⟨hx,4,none⟩) hgx6];exact x4
     have yy5:(w5.alloc (.cells #[.int .i64 (p0:Int),.int .i64 (p1:Int),.int .i64 (p2:Int),.int .i64 (p3:Int),.int .i64 (p4:Int),.int .i64 (p5:Int)] 64)).cell? ⟨hx,5,none⟩=some (.int .i64 (p5:Int)):=by rw[(new_below w5 _).cell (p:=⟨hx,5,none⟩) hgx6];exact x5
     refine wpAnyH_ready (rs:= [1,21]) (by kernel_rfl) (by simp) ?_
     refine AllReadyH.cons rfl (fun K hK=> ?_) ?_
     ·go_simp
      refine hK.out _ _ ?_ (fun hHeld=> ?_)
      ·exact⟨x0,x1,x2,x3,x4,x5⟩
      clear hK K
      (try simp only[Act.put,List.setIfInBounds_toArray,List.set_cons_zero,List.set_cons_succ])
      refine wpAnyH_ready (rs:= [21]) (by kernel_rfl) (by simp) ?_
      refine AllReadyH.cons rfl (fun K hK=> ?_) AllReadyH.nil
      go_simp
      refine hK.out _ _ ?_ (fun hHeld=> ?_)
      ·exact⟨yy0,yy1,yy2,yy3,yy4,yy5⟩
      clear hK K
      (try simp only[Act.put,List.setIfInBounds_toArray,List.set_cons_zero,List.set_cons_succ])
      refine wpAnyH_ready (rs:= [22]) (by kernel_rfl) (by simp) ?_
      refine AllReadyH.cons rfl (fun K hK=> ?_) AllReadyH.nil
      refine step_append_lies _ (by rfl) _ _ _ (by rfl) w.heap.size 64 i0 _ 6 48 Tryz.underlying26 hi hz0 hz1 hz2 rfl (by omega) (.slice la done.length lc) done.length (lcells done) (by rfl) ((O5.alloc _).drew) ⟨w5.heap.size,0,none⟩ 1 1 (lc1 ⟨p0,p1,p2,p3,p4,p5⟩) (by rfl) (by rfl) (World.news_of_block (cs:= #[.int .i64 (p0:Int),.int .i64 (p1:Int),.int .i64 (p2:Int),.int .i64 (p3:Int),.int .i64 (p4:Int),.int .i64 (p5:Int)]) (t:=64) (fr:=(0,0)) (heap_alloc_new w5 _)) (by simp[lc1,Value.oneCell']) (by omega) hkm hkb (by simp;omega) (w5.heap.size+1) (by simp) ?_
      intro gg cap6 w6 hown1 hgrow hat hlt
      have mT6:w6.heap[T]? =some (.cells #[.int .i64 (n0:Int),.string nm,.int .i64 (n1:Int),.int .i64 (n2:Int),.int .i64 (n3:Int),.int .i64 (n4:Int),.slice la done.length lc] 28):=(by rw[hgrow.block T (by simp;omega) (Ne.symm aT)];exact heap_old mT5 _)
      have tf6:w6.frozen? ⟨T,6,none⟩=false:=frozen_at mT6 6
      have tx6:w6.cell? ⟨T,6,none⟩=some (.slice la done.length lc):=cell_at mT6 6
      have q0:w6.cell? ⟨hx,0,none⟩=some (.int .i64 (p0:Int)):=(by rw[hgrow.cell_far _ (by simp;omega) (Ne.symm aX)];exact yy0)
      have q1:w6.cell? ⟨hx,1,none⟩=some (.int .i64 (p1:Int)):=(by rw[hgrow.cell_far _ (by simp;omega) (Ne.symm aX)];exact yy1)
      have q2:w6.cell? ⟨hx,2,none⟩=some (.int .i64 (p2:Int)):=(by rw[hgrow.cell_far _ (by simp;omega) (Ne.symm aX)];exact yy2)
      have q3:w6.cell? ⟨hx,3,none⟩=some (.int .i64 (p3:Int)):=(by rw[hgrow.cell_far _ (by simp;omega) (Ne.symm aX)];exact yy3)
      have q4:w6.cell? ⟨hx,4,none⟩=some (.int .i64 (p4:Int)):=(by rw[hgrow.cell_far _ (by simp;omega) (Ne.symm aX)];exact yy4)
      have q5:w6.cell? ⟨hx,5,none⟩=some (.int .i64 (p5:Int)):=(by rw[hgrow.cell_far _ (by simp;omega) (Ne.symm aX)];exact yy5)
      refine hK.out _ _ ?_ (fun hHeld=> ?_)
      ·exact⟨q0,q1,q2,q3,q4,q5⟩
      clear hK K
      (try simp only[Act.put,List.setIfInBounds_toArray,List.set_cons_zero,List.set_cons_succ])
      refine wpAnyH_take (i:=23) (v:= ?_) rfl (by kernel_rfl) (by kernel_rfl) (by kernel_rfl) (fun _ _ _ h=>h) (Or.inl ⟨by rfl,?_⟩) (by assumption) ?_
      rotate_left 1
      ·(intro wS hSw;(try dsimp only at hSw);go_simp;try (with_reducible rfl))
      (try simp only[Act.put,List.setIfInBounds_toArray,List.set_cons_zero,List.set_cons_succ])
      refine wpAnyH_ready (rs:= [24]) (by kernel_rfl) (by simp) ?_
      refine AllReadyH.cons rfl (fun K hK=> ?_) AllReadyH.nil
      go_simp
      refine hK.out _ _ ?_ (fun hHeld=> ?_)
      ·exact⟨by rw[Tk.cell_other (Ne.symm hTx)];exact q0,by rw[Tk.cell_other (Ne.symm hTx)];exact q1,by rw[Tk.cell_other (Ne.symm hTx)];exact q2,by rw[Tk.cell_other (Ne.symm hTx)];exact q3,by rw[Tk.cell_other (Ne.symm hTx)];exact q4,by rw[Tk.cell_other (Ne.symm hTx)];exact q5⟩
      clear hK K
      (try simp only[Act.put,List.setIfInBounds_toArray,List.set_cons_zero,List.set_cons_succ])
      refine wpAnyH_done (by kernel_rfl) ?_ _
      have hgT:gg≠T:=by
       rintro rfl
       rcases hat with h|h
       ·exact aT h
       ·omega
      have mR6:w6.heap[w.heap.size]? =some (.cells #[.int .i64 0,.string ⟨#[]⟩,.int .i64 0,.int .i64 0,.int .i64 0,.int .i64 0,.slice none 0 0] 28):=(by rw[hgrow.block w.heap.size (by have:=lt_of m5;simp;omega) (Ne.symm aR)];exact heap_old m5 _)
      have mR7:=Tk.h_other (i:=6) mR6 (Ne.symm hTR) (.slice (some ⟨gg,0,none⟩) (done.length+1) cap6)
      have mT7:=Tk.h_set (i:=6) mT6 (.slice (some ⟨gg,0,none⟩) (done.length+1) cap6)
      have O7:=own_off (b:=T) (i:=6) hown1 hgT (.slice (some ⟨gg,0,none⟩) (done.length+1) cap6)
      rw[lcells_snoc]at O7
      have hdl:done.length+1=(done++ [(⟨p0,p1,p2,p3,p4,p5⟩:Lg)]).length:=by simp
      have K6:Below w.heap.size w w6:=(K5.alloc hbs _).drew.grown hgrow (by simp;omega) (fun m h=>own_ge O5 m h)
      have K7:=K6.setCell (p:=⟨T,6,none⟩) (by show w.heap.size≤T;omega) (.slice (some ⟨gg,0,none⟩) (done.length+1) cap6)
      go_wp2
      go_roundw
      case rel=>exact⟨n',r2,done++ [⟨p0,p1,p2,p3,p4,p5⟩],some ⟨gg,0,none⟩,cap6,rfl,by simp;omega,by omega,HG2,mR7,by rw[←hdl];exact mT7,by rw[←hdl];exact O7,K7⟩
      case measure=>show r2.size<r.size;omega
     refine AllReadyH.cons rfl (fun K hK=> ?_) AllReadyH.nil
     go_simp
     refine hK.out _ _ ?_ (fun hHeld=> ?_)
     ·exact⟨yy0,yy1,yy2,yy3,yy4,yy5⟩
     clear hK K
     (try simp only[Act.put,List.setIfInBounds_toArray,List.set_cons_zero,List.set_cons_succ])
     refine wpAnyH_ready (rs:= [1]) (by kernel_rfl) (by simp) ?_
     refine AllReadyH.cons rfl (fun K hK=> ?_) AllReadyH.nil
     go_simp
     refine hK.out _ _ ?_ (fun hHeld=> ?_)
     ·exact⟨yy0,yy1,yy2,yy3,yy4,yy5⟩
     clear hK K
     (try simp only[Act.put,List.setIfInBounds_toArray,List.set_cons_zero,List.set_cons_succ])
     refine wpAnyH_ready (rs:= [22]) (by kernel_rfl) (by simp) ?_
     refine AllReadyH.cons rfl (fun K hK=> ?_) AllReadyH.nil
     refine step_append_lies _ (by rfl) _ _ _ (by rfl) w.heap.size 64 i0 _ 6 48 Tryz.underlying26 hi hz0 hz1 hz2 rfl (by omega) (.slice la done.length lc) done.length (lcells done) (by rfl) ((O5.alloc _).drew) ⟨w5.heap.size,0,none⟩ 1 1 (lc1 ⟨p0,p1,p2,p3,p4,p5⟩) (by rfl) (by rfl) (World.news_of_block (cs:= #[.int .i64 (p0:Int),.int .i64 (p1:Int),.int .i64 (p2:Int),.int .i64 (p3:Int),.int .i64 (p4:Int),.int .i64 (p5:Int)]) (t:=64) (fr:=(0,0)) (heap_alloc_new w5 _)) (by simp[lc1,Value.oneCell']) (by omega) hkm hkb (by simp;omega) (w5.heap.size+1) (by simp) ?_
     intro gg cap6 w6 hown1 hgrow hat hlt
     have mT6:w6.heap[T]? =some (.cells #[.int .i64 (n0:Int),.string nm,.int .i64 (n1:Int),.int .i64 (n2:Int),.int .i64 (n3:Int),.int .i64 (n4:Int),.slice la done.length lc] 28):=(by rw[hgrow.block T (by simp;omega) (Ne.symm aT)];exact heap_old mT5 _)
     have tf6:w6.frozen? ⟨T,6,none⟩=false:=frozen_at mT6 6
     have tx6:w6.cell? ⟨T,6,none⟩=some (.slice la done.length lc):=cell_at mT6 6
     have q0:w6.cell? ⟨hx,0,none⟩=some (.int .i64 (p0:Int)):=(by rw[hgrow.cell_far _ (by simp;omega) (Ne.symm aX)];exact yy0)
     have q1:w6.cell? ⟨hx,1,none⟩=some (.int .i64 (p1:Int)):=(by rw[hgrow.cell_far _ (by simp;omega) (Ne.symm aX)];exact yy1)
     have q2:w6.cell? ⟨hx,2,none⟩=some (.int .i64 (p2:Int)):=(by rw[hgrow.cell_far _ (by simp;omega) (Ne.symm aX)];exact yy2)
     have q3:w6.cell? ⟨hx,3,none⟩=some (.int .i64 (p3:Int)):=(by rw[hgrow.cell_far _ (by simp;omega) (Ne.symm aX)];exact yy3)
     have q4:w6.cell? ⟨hx,4,none⟩=some (.int .i64 (p4:Int)):=(by rw[hgrow.cell_far _ (by simp;omega) (Ne.symm aX)];exact yy4)
     have q5:w6.cell? ⟨hx,5,none⟩=some (.int .i64 (p5:Int)):=(by rw[hgrow.cell_far _ (by simp;omega) (Ne.symm aX)];exact yy5)
     refine hK.out _ _ ?_ (fun hHeld=> ?_)
     ·exact⟨q0,q1,q2,q3,q4,q5⟩
     clear hK K
     (try simp only[Act.put,List.setIfInBounds_toArray,List.set_cons_zero,List.set_cons_succ])
     refine wpAnyH_take (i:=23) (v:= ?_) rfl (by kernel_rfl) (by kernel_rfl) (by kernel_rfl) (fun _ _ _ h=>h) (Or.inl ⟨by rfl,?_⟩) (by assumption) ?_
     rotate_left 1
     ·(intro wS hSw;(try dsimp only at hSw);go_simp;try (with_reducible rfl))
     (try simp only[Act.put,List.setIfInBounds_toArray,List.set_cons_zero,List.set_cons_succ])
     refine wpAnyH_ready (rs:= [24]) (by kernel_rfl) (by simp) ?_
     refine AllReadyH.cons rfl (fun K hK=> ?_) AllReadyH.nil
     go_simp
     refine hK.out _ _ ?_ (fun hHeld=> ?_)
     ·exact⟨by rw[Tk.cell_other (Ne.symm hTx)];exact q0,by rw[Tk.cell_other (Ne.symm hTx)];exact q1,by rw[Tk.cell_other (Ne.symm hTx)];exact q2,by rw[Tk.cell_other (Ne.symm hTx)];exact q3,by rw[Tk.cell_other (Ne.symm hTx)];exact q4,by rw[Tk.cell_other (Ne.symm hTx)];exact q5⟩
     clear hK K
     (try simp only[Act.put,List.setIfInBounds_toArray,List.set_cons_zero,List.set_cons_succ])
     refine wpAnyH_done (by kernel_rfl) ?_ _
     have hgT:gg≠T:=by
      rintro rfl
      rcases hat with h|h
      ·exact aT h
      ·omega
     have mR6:w6.heap[w.heap.size]? =some (.cells #[.int .i64 0,.string ⟨#[]⟩,.int .i64 0,.int .i64 0,.int .i64 0,.int .i64 0,.slice none 0 0] 28):=(by rw[hgrow.block w.heap.size (by have:=lt_of m5;simp;omega) (Ne.symm aR)];exact heap_old m5 _)
     have mR7:=Tk.h_other (i:=6) mR6 (Ne.symm hTR) (.slice (some ⟨gg,0,none⟩) (done.length+1) cap6)
     have mT7:=Tk.h_set (i:=6) mT6 (.slice (some ⟨gg,0,none⟩) (done.length+1) cap6)
     have O7:=own_off (b:=T) (i:=6) hown1 hgT (.slice (some ⟨gg,0,none⟩) (done.length+1) cap6)
     rw[lcells_snoc]at O7
     have hdl:done.length+1=(done++ [(⟨p0,p1,p2,p3,p4,p5⟩:Lg)]).length:=by simp
     have K6:Below w.heap.size w w6:=(K5.alloc hbs _).drew.grown hgrow (by simp;omega) (fun m h=>own_ge O5 m h)
     have K7:=K6.setCell (p:=⟨T,6,none⟩) (by show w.heap.size≤T;omega) (.slice (some ⟨gg,0,none⟩) (done.length+1) cap6)
     go_wp2
     go_roundw
     case rel=>exact⟨n',r2,done++ [⟨p0,p1,p2,p3,p4,p5⟩],some ⟨gg,0,none⟩,cap6,rfl,by simp;omega,by omega,HG2,mR7,by rw[←hdl];exact mT7,by rw[←hdl];exact O7,K7⟩
     case measure=>show r2.size<r.size;omega

end Gt
end Go.Proofs.YtcjgkmhpeedhiaaGreatDoor

/- What guessTicket guesses of a ticket's plain text is the ticket: the mathematics. -/
namespace Go.Proofs.YtcjgkmhpeedhiaaGreatDoor
namespace Gt
open Go.ChangeShapes Go.WideShapes Go.ChangeAt Go.RowKit
open Tk (Lg Hd okB putT Nums okB_parts)
open Num (decS)
set_option linter.unusedSimpArgs false
set_option linter.unusedVariables false

theorem index_one (c:UInt8):∀(a r:List UInt8),c∉a→Lib.index (a++c::r) [c]=(a.length:Int)
 | [],r,_=>by
   rw[List.nil_append,Lib.index,if_pos (by simp[List.isPrefixOf])]
   rfl
 |x::a,r,h=>by
  rw[List.mem_cons,not_or]at h
  rw[List.cons_append,Lib.index,if_neg (by simp[List.isPrefixOf];exact h.1),index_one c a r h.2]
  rw[if_neg (by simp),List.length_cons]
  omega

theorem cut_at (a r:List UInt8) (h:(10:UInt8)∉a):Lib.cut (a++10::r) [10]=(a,r,true):=by
 unfold Lib.cut
 rw[index_one 10 a r h,if_pos (by omega),Int.toNat_natCast]
 have e:([10]:List UInt8).length=1:=rfl
 rw[e,List.take_left,List.drop_append,List.drop_eq_nil_of_le (by omega)]
 simp

theorem ct_at {s:ByteArray} {a r:List UInt8} (hs:bl s=a++10::r) (h:(10:UInt8)∉a):bl (ctA s)=a∧bl (ctR s)=r:=by
 unfold ctA ctR
 rw[show s.data.toList=a++10::r from hs,cut_at a r h]
 exact⟨rfl,rfl⟩

theorem splitK_words (a:List UInt8) (ds:List (List UInt8)) (ha:(32:UInt8)∉a) (hd:∀d∈ds,(32:UInt8)∉d):Lib.splitK [32] 0 ds.length (a++ds.flatMap fun d=>32::d)=a::ds:=by
 induction ds generalizing a with
 |nil=>simp[Lib.splitK]
 |cons d ds ih=>
  have e:a++(d::ds).flatMap (fun d=>32::d)=a++32::(d++ds.flatMap (fun d=>32::d)):=by simp
  rw[e,List.length_cons,Lib.splitK,index_one 32 a _ ha,if_neg (by simp),Int.toNat_natCast]
  have e1:([32]:List UInt8).length=1:=rfl
  rw[Nat.add_zero,List.take_left,e1,List.drop_append,List.drop_eq_nil_of_le (by omega)]
  have e2:a.length+1-a.length=1:=by omega
  rw[e2,List.nil_append,List.drop_succ_cons,List.drop_zero,ih d (hd d List.mem_cons_self) (fun b hb=>hd b (List.mem_cons_of_mem _ hb))]

theorem flat_length (zs:List Int):zs.length≤(zs.flatMap fun z=>32::bl (decS z)).length:=by
 induction zs with
 |nil=>simp
 |cons z zs ih=>
  rw[List.flatMap_cons,List.length_append,List.length_cons,List.length_cons]
  omega

theorem nAt_line {x wd:ByteArray} {zs:List Int} (hw:(32:UInt8)∉bl wd) (hz:Nums zs) (hx:bl x=lineL (bl wd) zs) (j:Nat) (hj:j<zs.length):(nAt x zs.length j:Int)=zs[j]:=by
 have hsz:zs.length≤x.size:=by
  rw[←bl_length,hx]
  unfold lineL
  rw[List.length_append]
  have:=flat_length zs
  omega
 have h1:(wordsN x zs.length).map bl=bl wd::zs.map (fun z=>bl (decS z)):=by
  have h2:=Lib.splitB_data ⟨#[32]⟩ 0 (min (zs.length+1) (x.size+1)-1) x
  have h3:(wordsN x zs.length).map bl=Lib.splitK [32] 0 (min (zs.length+1) (x.size+1)-1) (bl x):=h2
  rw[h3,show min (zs.length+1) (x.size+1)-1=(zs.map fun z=>bl (decS z)).length from by rw[List.length_map];omega,hx]
  unfold lineL
  have e:(zs.flatMap fun z=>32::bl (decS z))=(zs.map fun z=>bl (decS z)).flatMap fun d=>32::d:=by rw[List.flatMap_map]
  rw[e]
  refine splitK_words (bl wd) _ hw ?_
  intro d hd hm
  obtain⟨z,hz1,rfl⟩:=List.mem_map.1 hd
  rw[dec_bl z (hz z hz1).1]at hm
  exact dec_no _ 32 (by decide) hm
 have hlen:(wordsN x zs.length).length=zs.length+1:=by
  have:=congrArg List.length h1
  simpa using this
 have hw1:(wordsN x zs.length).getD (j+1) ⟨#[]⟩=decS zs[j]:=by
  apply bl_ext
  have h4:((wordsN x zs.length).map bl)[j+1]? =some (bl (decS zs[j])):=by
   rw[h1,List.getElem?_cons_succ,List.getElem?_map,List.getElem?_eq_getElem hj]
   rfl
  rw[List.getElem?_map]at h4
  rw[List.getD_eq_getElem?_getD]
  cases e:(wordsN x zs.length)[j+1]? with
  |none=>rw[e]at h4;cases h4
  |some y=>rw[e]at h4;exact Option.some.inj h4
 have hb:=hz zs[j] (List.getElem_mem hj)
 have hrd:Rd (decS zs[j])∧vl (decS zs[j])=zs[j].toNat:=by
  unfold Rd vl
  rw[show(decS zs[j]).data.toList=Lib.decDigits zs[j].toNat from dec_bl _ hb.1]
  exact⟨dec_read _ (by omega),dec_val' _⟩
 unfold nAt
 rw[if_pos (by omega),hw1,rv_yes hrd.1,hrd.2]
 omega

theorem lgI_line {x:ByteArray} {l:Lg} (hz:Nums (lZ l)) (hx:bl x=lLine l):lgI x=l:=by
 have h:=fun j (hj:j<6)=>nAt_line (wd:=legW) (zs:=lZ l) (by decide) hz hx j hj
 unfold lgI
 have h0:=h 0 (by omega)
 have h1:=h 1 (by omega)
 have h2:=h 2 (by omega)
 have h3:=h 3 (by omega)
 have h4:=h 4 (by omega)
 have h5:=h 5 (by omega)
 rw[show(lZ l).length=6 from rfl]at h0 h1 h2 h3 h4 h5
 rw[h0,h1,h2,h3,h4,h5]
 rfl

theorem gL_lines:∀(ls:List Lg) (n:Nat) (r:ByteArray),ls.length≤n→(∀l∈ls,Nums (lZ l))→bl r=(ls.map lLine).flatMap (fun a=>a++ [10])→gL n r=ls
 | [],n,r,_,_,hr=>gL_end (by rw[←bl_length,hr];rfl)
 |l::ls,n,r,hn,hz,hr=>by
  obtain⟨n',rfl⟩:∃n',n=n'+1:=⟨n-1,by simp at hn;omega⟩
  have hr2:bl r=lLine l++10::(ls.map lLine).flatMap (fun a=>a++ [10]):=by rw[hr];simp
  have hno:(10:UInt8)∉lLine l:=line_no _ _ (by decide) (hz l List.mem_cons_self)
  obtain⟨a1,a2⟩:=ct_at hr2 hno
  have hne:¬r.size=0:=by
   rw[←bl_length,hr2,List.length_append,List.length_cons]
   omega
  rw[gL_step hne,lgI_line (hz l List.mem_cons_self) a1,gL_lines ls n' (ctR r) (by simp at hn;omega) (fun x hx=>hz x (List.mem_cons_of_mem _ hx)) a2]

theorem guess_good {s:ByteArray} {t:Hd} {nm:ByteArray} {ls:List Lg} (h:Good s t nm ls):gHd s=t∧gNm s=nm∧gLs s=ls:=by
 obtain⟨hok,hput⟩:=h
 obtain⟨hn,hs40,hl6,hns⟩:=okB_parts t nm ls hok
 have hnm:=name_no (ok_name hok)
 have hb:bl s=hLine t++10::(nLine nm++10::(ls.map lLine).flatMap (fun a=>a++ [10])):=by
  rw[←hput,put_bl t nm ls ls.length (Nat.le_refl _),List.take_of_length_le (Nat.le_refl _)]
  simp
 obtain⟨a1,a2⟩:=ct_at hb (line_no _ _ (by decide) hn)
 obtain⟨b1,b2⟩:=ct_at a2 hnm
 refine⟨?_,?_,?_⟩
 ·have h:=fun j (hj:j<5)=>nAt_line (wd:=headW) (zs:=hZ t) (by decide) hn a1 j hj
  have h0:=h 0 (by omega)
  have h1:=h 1 (by omega)
  have h2:=h 2 (by omega)
  have h3:=h 3 (by omega)
  have h4:=h 4 (by omega)
  rw[show(hZ t).length=5 from rfl]at h0 h1 h2 h3 h4
  unfold gHd
  rw[h0,h1,h2,h3,h4]
  rfl
 ·apply bl_ext
  unfold gNm
  rw[show(ctA (ctR s)).data.toList=nLine nm from b1]
  unfold Lib.trimPrefix Lib.hasPrefix nLine
  rw[if_pos (by simp[List.isPrefixOf])]
  rfl
 ·exact gL_lines ls 7 _ (by omega) hns b2

end Gt
end Go.Proofs.YtcjgkmhpeedhiaaGreatDoor

/- The program's GetTicket. -/
namespace Go.Proofs.YtcjgkmhpeedhiaaGreatDoor
namespace Gt
open Go.ChangeShapes Go.WideShapes Go.ChangeAt Go.RowKit
open Pk (own_at own_ge own_below own_form info_of new_below join_below heap_new lt_of kept cell_at heap_old frozen_at)
open Tk (Lg Hd Legs lgV tkV tkB okB putT putS p2V)
set_option linter.unusedSimpArgs false
set_option linter.unusedVariables false

theorem clone_val (s:ByteArray) (w:World) (hs:s.size≤1048576):
 Calls Tryz.prog 68 #[.string s] w fun e w'=>e= .returned (.string s)∧Below w.heap.size w w':=by
 have HC:Hid (∀W,_):=fun W=>Tryz.stringslite_Clone s W (by omega)
 go_enter Tryz.func68,Tryz.ntmps68
 go_wp2_with fail
 refine(HC.out _).mono ?_
 rintro e w1 ⟨rfl,L1⟩
 go_wp2
 go_ret
 exact⟨rfl,L1⟩

theorem gNm_size (s:ByteArray):(gNm s).size≤s.size:=by
 have e:∀l:List UInt8,(⟨l.toArray⟩:ByteArray).size=l.length:=fun l=>by simp[ByteArray.size]
 obtain⟨-,c2,-⟩:=ct_size s
 obtain⟨d1,-,-⟩:=ct_size (ctR s)
 have hl:(ctA (ctR s)).data.toList.length=(ctA (ctR s)).size:=Array.length_toList
 unfold gNm
 rw[e]
 unfold Lib.trimPrefix
 split
 ·rw[List.length_drop]
  omega
 ·omega

theorem gL_length:∀n r,(gL n r).length≤n
 |0,_=>Nat.le_refl _
 |n+1,r=>by
  rw[gL]
  split
  ·simp
  ·have:=gL_length n (ctR r)
   rw[List.length_cons]
   omega

set_option maxRecDepth 100000 in
set_option maxHeartbeats 4000000 in
theorem implGet_val (s:ByteArray) (w:World) (hs:s.size≤1048576) (M:ML w) (Tn:Num.Tens w):
 Calls Tryz.prog 28 #[.string s] w fun e w'=>GetEnd s w.heap.size e w'∧Below w.heap.size w w':=by
 have N0:=new_below w (.cells #[.int .i64 0,.string ⟨#[]⟩,.int .i64 0,.int .i64 0,.int .i64 0,.int .i64 0,.slice none 0 0] 28)
 have m0:=heap_new w (.cells #[.int .i64 0,.string ⟨#[]⟩,.int .i64 0,.int .i64 0,.int .i64 0,.int .i64 0,.slice none 0 0] 28)
 have HGV:Hid (∀W,ML W→_):=fun W h=>guess_val s W hs h
 have HUN:Hid (∀t nm ls,Good s t nm ls→gHd s=t∧gNm s=nm∧gLs s=ls):=fun t nm ls h=>guess_good h
 have hnz:(gNm s).size≤1048576:=Nat.le_trans (gNm_size s) hs
 have hl7:(gLs s).length≤7:=gL_length 7 _
 have HPV:Hid (∀W (a:Option Addr) (lc:Nat),Legs W a (gLs s)→Num.Tens W→_):=fun W a lc h1 h2=>Tk.implPut_val (gHd s) (gNm s) a (gLs s) lc W (by unfold maxLen;omega) (by omega) h1 h2
 have HCL:Hid (∀W,_):=fun W=>clone_val (gNm s) W hnz
 generalize gHd s=t at*
 generalize gNm s=nm at*
 generalize gLs s=ls at*
 go_enter Tryz.func28,Tryz.ntmps28
 go_wp2_with fail
 generalize w.alloc (.cells #[.int .i64 0,.string ⟨#[]⟩,.int .i64 0,.int .i64 0,.int .i64 0,.int .i64 0,.slice none 0 0] 28)=w0 at*
 refine(HGV.out _ (M.on N0)).mono ?_
 rintro e w1 ⟨⟨a,lc,rfl,O1⟩,L1⟩
 have m1:=kept L1 (lt_of m0) m0
 have K1:=join_below N0 L1
 have NT:=new_below w1 (.cells #[.int .i64 t.id,.string nm,.int .i64 t.cl,.int .i64 t.pr,.int .i64 t.fi,.int .i64 t.la,.slice a ls.length lc] 28)
 have mT:=heap_new w1 (.cells #[.int .i64 t.id,.string nm,.int .i64 t.cl,.int .i64 t.pr,.int .i64 t.fi,.int .i64 t.la,.slice a ls.length lc] 28)
 have m2:=kept NT (lt_of m1) m1
 have K2:=join_below K1 NT
 have O2:=own_below O1 NT (Nat.le_refl _)
 have O3:=own_base O2 (show w.heap.size≤w0.heap.size from N0.size)
 have hTR:w1.heap.size≠w.heap.size:=by have:=lt_of m1;omega
 have hTge:w.heap.size≤w1.heap.size:=by have:=lt_of m1;omega
 obtain⟨a2,lc2,e2,I2⟩:=own_legs O3
 simp only[Value.slice.injEq,true_and]at e2
 obtain⟨rfl,rfl⟩:=e2
 clear N0 m0 L1 m1 K1 NT O1 O2 HGV
 unfold Tk.tkV at HPV
 have t0:(w1.alloc (.cells #[.int .i64 t.id,.string nm,.int .i64 t.cl,.int .i64 t.pr,.int .i64 t.fi,.int .i64 t.la,.slice a ls.length lc] 28)).cell? ⟨w1.heap.size,0,none⟩=some (.int .i64 t.id):=cell_at mT 0
 have t1:(w1.alloc (.cells #[.int .i64 t.id,.string nm,.int .i64 t.cl,.int .i64 t.pr,.int .i64 t.fi,.int .i64 t.la,.slice a ls.length lc] 28)).cell? ⟨w1.heap.size,1,none⟩=some (.string nm):=cell_at mT 1
 have t2:(w1.alloc (.cells #[.int .i64 t.id,.string nm,.int .i64 t.cl,.int .i64 t.pr,.int .i64 t.fi,.int .i64 t.la,.slice a ls.length lc] 28)).cell? ⟨w1.heap.size,2,none⟩=some (.int .i64 t.cl):=cell_at mT 2
 have t3:(w1.alloc (.cells #[.int .i64 t.id,.string nm,.int .i64 t.cl,.int .i64 t.pr,.int .i64 t.fi,.int .i64 t.la,.slice a ls.length lc] 28)).cell? ⟨w1.heap.size,3,none⟩=some (.int .i64 t.pr):=cell_at mT 3
 have t4:(w1.alloc (.cells #[.int .i64 t.id,.string nm,.int .i64 t.cl,.int .i64 t.pr,.int .i64 t.fi,.int .i64 t.la,.slice a ls.length lc] 28)).cell? ⟨w1.heap.size,4,none⟩=some (.int .i64 t.fi):=cell_at mT 4
 have t5:(w1.alloc (.cells #[.int .i64 t.id,.string nm,.int .i64 t.cl,.int .i64 t.pr,.int .i64 t.fi,.int .i64 t.la,.slice a ls.length lc] 28)).cell? ⟨w1.heap.size,5,none⟩=some (.int .i64 t.la):=cell_at mT 5
 have t6:(w1.alloc (.cells #[.int .i64 t.id,.string nm,.int .i64 t.cl,.int .i64 t.pr,.int .i64 t.fi,.int .i64 t.la,.slice a ls.length lc] 28)).cell? ⟨w1.heap.size,6,none⟩=some (.slice a ls.length lc):=cell_at mT 6
 go_wp2_with fail
 generalize w1.alloc (.cells #[.int .i64 t.id,.string nm,.int .i64 t.cl,.int .i64 t.pr,.int .i64 t.fi,.int .i64 t.la,.slice a ls.length lc] 28)=w2 at*
 generalize w1.heap.size=T at*
 have HPU:Hid (∀_:Unit,_):=fun _=>HPV.out w2 a lc I2 (Tn.on K2)
 by_cases hok:okB t nm ls=true
 ·by_cases hpt:putT t nm ls ls.length=s
  ·rw[Tk.putS_yes t nm ls hok,hpt,hok]at HPU
   have hg:Good s t nm ls:=⟨hok,hpt⟩
   have HG:Hid (Good s t nm ls):=hg
   refine(HPU.out ()).mono ?_
   rintro e w3 ⟨rfl,L3⟩
   have m3:=kept L3 (lt_of m2) m2
   have mT3:=kept L3 (lt_of mT) mT
   have O4:=own_below O3 L3 (Nat.le_refl _)
   have K3:=join_below K2 L3
   clear HPU HPV m2 mT O3 I2 K2 L3 hg hok hpt t0 t1 t2 t3 t4 t5 t6
   have n1:w3.cell? ⟨T,1,none⟩=some (.string nm):=cell_at mT3 1
   go_wp2_with fail
   refine(HCL.out _).mono ?_
   rintro e w4 ⟨rfl,L4⟩
   have m4:=kept L4 (lt_of m3) m3
   have mT4:=kept L4 (lt_of mT3) mT3
   have O5:=own_below O4 L4 (Nat.le_refl _)
   have K4:=join_below K3 L4
   have mT5:=Tk.h_set (i:=1) mT4 (.string nm)
   have m5:=Tk.h_other (i:=1) m4 (Ne.symm hTR) (.string nm)
   have f1:w4.frozen? ⟨T,1,none⟩=false:=frozen_at mT4 1
   have n2:w4.cell? ⟨T,1,none⟩=some (.string nm):=cell_at mT4 1
   have aT:(Value.slice a ls.length lc).ownBlock≠some T:=Pk.own_ne' O5 mT4 (by decide)
   have aR:(Value.slice a ls.length lc).ownBlock≠some w.heap.size:=Pk.own_ne' O5 m4 (by decide)
   have O6:(w4.setCell ⟨T,1,none⟩ (.string nm)).ownsRow w.heap.size 64 6 (.slice a ls.length lc) ls.length (lcells ls):=own_offv O5 aT _
   have K5:=K4.setCell (p:=⟨T,1,none⟩) (by show w.heap.size≤T;exact hTge) (.string nm)
   clear m3 mT3 O4 K3 L4 HCL n1
   have b0:(w4.setCell ⟨T,1,none⟩ (.string nm)).cell? ⟨T,0,none⟩=some (.int .i64 t.id):=cell_at mT5 0
   have b1:(w4.setCell ⟨T,1,none⟩ (.string nm)).cell? ⟨T,1,none⟩=some (.string nm):=cell_at mT5 1
   have b2:(w4.setCell ⟨T,1,none⟩ (.string nm)).cell? ⟨T,2,none⟩=some (.int .i64 t.cl):=cell_at mT5 2
   have b3:(w4.setCell ⟨T,1,none⟩ (.string nm)).cell? ⟨T,3,none⟩=some (.int .i64 t.pr):=cell_at mT5 3
   have b4:(w4.setCell ⟨T,1,none⟩ (.string nm)).cell? ⟨T,4,none⟩=some (.int .i64 t.fi):=cell_at mT5 4
   have b5:(w4.setCell ⟨T,1,none⟩ (.string nm)).cell? ⟨T,5,none⟩=some (.int .i64 t.la):=cell_at mT5 5
   have b6:(w4.setCell ⟨T,1,none⟩ (.string nm)).cell? ⟨T,6,none⟩=some (.slice a ls.length lc):=cell_at mT5 6
   have a0:(w4.setCell ⟨T,1,none⟩ (.string nm)).cell? ⟨w.heap.size,0,none⟩=some (.int .i64 0):=cell_at m5 0
   have a1:(w4.setCell ⟨T,1,none⟩ (.string nm)).cell? ⟨w.heap.size,1,none⟩=some (.string ⟨#[]⟩):=cell_at m5 1
   have a2:(w4.setCell ⟨T,1,none⟩ (.string nm)).cell? ⟨w.heap.size,2,none⟩=some (.int .i64 0):=cell_at m5 2
   have a3:(w4.setCell ⟨T,1,none⟩ (.string nm)).cell? ⟨w.heap.size,3,none⟩=some (.int .i64 0):=cell_at m5 3
   have a4:(w4.setCell ⟨T,1,none⟩ (.string nm)).cell? ⟨w.heap.size,4,none⟩=some (.int .i64 0):=cell_at m5 4
   have a5:(w4.setCell ⟨T,1,none⟩ (.string nm)).cell? ⟨w.heap.size,5,none⟩=some (.int .i64 0):=cell_at m5 5
   have a6:(w4.setCell ⟨T,1,none⟩ (.string nm)).cell? ⟨w.heap.size,6,none⟩=some (.slice none 0 0):=cell_at m5 6
   have r0:(w4.setCell ⟨T,1,none⟩ (.string nm)).frozen? ⟨w.heap.size,0,none⟩=false:=frozen_at m5 0
   have r1:(w4.setCell ⟨T,1,none⟩ (.string nm)).frozen? ⟨w.heap.size,1,none⟩=false:=frozen_at m5 1
   have r2:(w4.setCell ⟨T,1,none⟩ (.string nm)).frozen? ⟨w.heap.size,2,none⟩=false:=frozen_at m5 2
   have r3:(w4.setCell ⟨T,1,none⟩ (.string nm)).frozen? ⟨w.heap.size,3,none⟩=false:=frozen_at m5 3
   have r4:(w4.setCell ⟨T,1,none⟩ (.string nm)).frozen? ⟨w.heap.size,4,none⟩=false:=frozen_at m5 4
   have r5:(w4.setCell ⟨T,1,none⟩ (.string nm)).frozen? ⟨w.heap.size,5,none⟩=false:=frozen_at m5 5
   have r6:(w4.setCell ⟨T,1,none⟩ (.string nm)).frozen? ⟨w.heap.size,6,none⟩=false:=frozen_at m5 6
   go_wp2
   refine bodyPost_ret (v:= .tuple #[tkV t nm a ls.length lc,.bool true]) (by simp[results,Tryz.results28,go_sem,a0,a1,a2,a3,a4,a5,a6]) rfl ?_
   refine⟨Or.inl ⟨t,nm,ls,a,lc,HG.out,rfl,?_⟩,?_⟩
   ·exact own_offv (own_offv (own_offv (own_offv (own_offv (own_offv (own_offv O6 aR _) aR _) aR _) aR _) aR _) aR _) aR _
   ·(repeat' (first|apply Below.setCell|exact K4))<;>first|(simp;done)|(simp;omega)
  ·rw[Tk.putS_yes t nm ls hok,hok]at HPU
   have HNG:Hid (∀t2 nm2 ls2,¬Good s t2 nm2 ls2):=fun t2 nm2 ls2 h=>by obtain⟨rfl,rfl,rfl⟩:=HUN.out t2 nm2 ls2 h;exact hpt h.2
   generalize putT t nm ls ls.length=pt at*
   have z1:¬pt.toList=s.toList:=fun e=>hpt (Go.WideShapes.bytes_inj (by rw[←ByteArray.toList_eq,←ByteArray.toList_eq];exact e))
   have z2:(pt.toList==s.toList)=false:=beq_eq_false_iff_ne.2 z1
   refine(HPU.out ()).mono ?_
   rintro e w3 ⟨rfl,L3⟩
   have m3:=kept L3 (lt_of m2) m2
   have K3:=join_below K2 L3
   have a0:w3.cell? ⟨w.heap.size,0,none⟩=some (.int .i64 0):=cell_at m3 0
   have a1:w3.cell? ⟨w.heap.size,1,none⟩=some (.string ⟨#[]⟩):=cell_at m3 1
   have a2:w3.cell? ⟨w.heap.size,2,none⟩=some (.int .i64 0):=cell_at m3 2
   have a3:w3.cell? ⟨w.heap.size,3,none⟩=some (.int .i64 0):=cell_at m3 3
   have a4:w3.cell? ⟨w.heap.size,4,none⟩=some (.int .i64 0):=cell_at m3 4
   have a5:w3.cell? ⟨w.heap.size,5,none⟩=some (.int .i64 0):=cell_at m3 5
   have a6:w3.cell? ⟨w.heap.size,6,none⟩=some (.slice none 0 0):=cell_at m3 6
   have r0:w3.frozen? ⟨w.heap.size,0,none⟩=false:=frozen_at m3 0
   have r1:w3.frozen? ⟨w.heap.size,1,none⟩=false:=frozen_at m3 1
   have r2:w3.frozen? ⟨w.heap.size,2,none⟩=false:=frozen_at m3 2
   have r3:w3.frozen? ⟨w.heap.size,3,none⟩=false:=frozen_at m3 3
   have r4:w3.frozen? ⟨w.heap.size,4,none⟩=false:=frozen_at m3 4
   have r5:w3.frozen? ⟨w.heap.size,5,none⟩=false:=frozen_at m3 5
   have r6:w3.frozen? ⟨w.heap.size,6,none⟩=false:=frozen_at m3 6
   go_wp2
   refine bodyPost_ret (v:= .tuple #[tkV ⟨0,0,0,0,0⟩ ⟨#[]⟩ none 0 0,.bool false]) (by simp[results,Tryz.results28,go_sem,a0,a1,a2,a3,a4,a5,a6]) rfl ?_
   refine⟨Or.inr ⟨HNG.out,rfl⟩,?_⟩
   (repeat' (first|apply Below.setCell|exact K3))<;>first|(simp;done)|(simp;omega)
 ·have hok8:okB t nm ls=false:=Bool.eq_false_iff.2 hok
  rw[Tk.putS_no t nm ls hok8,hok8]at HPU
  have HNG:Hid (∀t2 nm2 ls2,¬Good s t2 nm2 ls2):=fun t2 nm2 ls2 h=>by obtain⟨rfl,rfl,rfl⟩:=HUN.out t2 nm2 ls2 h;exact hok h.1
  refine(HPU.out ()).mono ?_
  rintro e w3 ⟨rfl,L3⟩
  have m3:=kept L3 (lt_of m2) m2
  have K3:=join_below K2 L3
  have a0:w3.cell? ⟨w.heap.size,0,none⟩=some (.int .i64 0):=cell_at m3 0
  have a1:w3.cell? ⟨w.heap.size,1,none⟩=some (.string ⟨#[]⟩):=cell_at m3 1
  have a2:w3.cell? ⟨w.heap.size,2,none⟩=some (.int .i64 0):=cell_at m3 2
  have a3:w3.cell? ⟨w.heap.size,3,none⟩=some (.int .i64 0):=cell_at m3 3
  have a4:w3.cell? ⟨w.heap.size,4,none⟩=some (.int .i64 0):=cell_at m3 4
  have a5:w3.cell? ⟨w.heap.size,5,none⟩=some (.int .i64 0):=cell_at m3 5
  have a6:w3.cell? ⟨w.heap.size,6,none⟩=some (.slice none 0 0):=cell_at m3 6
  have r0:w3.frozen? ⟨w.heap.size,0,none⟩=false:=frozen_at m3 0
  have r1:w3.frozen? ⟨w.heap.size,1,none⟩=false:=frozen_at m3 1
  have r2:w3.frozen? ⟨w.heap.size,2,none⟩=false:=frozen_at m3 2
  have r3:w3.frozen? ⟨w.heap.size,3,none⟩=false:=frozen_at m3 3
  have r4:w3.frozen? ⟨w.heap.size,4,none⟩=false:=frozen_at m3 4
  have r5:w3.frozen? ⟨w.heap.size,5,none⟩=false:=frozen_at m3 5
  have r6:w3.frozen? ⟨w.heap.size,6,none⟩=false:=frozen_at m3 6
  go_wp2
  refine bodyPost_ret (v:= .tuple #[tkV ⟨0,0,0,0,0⟩ ⟨#[]⟩ none 0 0,.bool false]) (by simp[results,Tryz.results28,go_sem,a0,a1,a2,a3,a4,a5,a6]) rfl ?_
  refine⟨Or.inr ⟨HNG.out,rfl⟩,?_⟩
  (repeat' (first|apply Below.setCell|exact K3))<;>first|(simp;done)|(simp;omega)

end Gt
end Go.Proofs.YtcjgkmhpeedhiaaGreatDoor

/- Contracts of the laws' own helpers over legs that a function has been given or has made: marked, held against the marks. -/
namespace Go.Proofs.YtcjgkmhpeedhiaaGreatDoor
namespace Tk
open Go.ChangeShapes Go.WideShapes Go.ChangeAt Go.RowKit
open Pk (new_below join_below cell_at heap_new frozen_at lt_of kept heap_old Drawn info_of Room)
set_option linter.unusedSimpArgs false
set_option linter.unusedVariables false

structure Band (lo hi:Nat) (w w':World):Prop where
 os:w'.os=w.os
 tape:w'.tape=w.tape
 output:w'.output=w.output
 size:w'.heap.size=w.heap.size
 block:∀b,b<lo∨hi≤b→w'.heap[b]? =w.heap[b]?

theorem Band.refl (lo hi:Nat) (w:World):Band lo hi w w:=⟨rfl,rfl,rfl,rfl,fun _ _=>rfl⟩

theorem Band.trans {lo hi:Nat} {a b c:World} (h:Band lo hi a b) (k:Band lo hi b c):Band lo hi a c:=
 ⟨k.os.trans h.os,k.tape.trans h.tape,k.output.trans h.output,k.size.trans h.size,fun i hi=>(k.block i hi).trans (h.block i hi)⟩

theorem Band.set {lo hi:Nat} {a w:World} (h:Band lo hi a w) {g i:Nat} (h1:lo≤g) (h2:g<hi) (u:Value):Band lo hi a (w.setCell ⟨g,i,none⟩ u):=by
 have L:=(Below.refl 0 w).setCell (p:=⟨g,i,none⟩) (Nat.zero_le _) u
 refine⟨L.os.trans h.os,L.tape.trans h.tape,L.output.trans h.output,by rw[World.size_setCell];exact h.size,fun b hb=> ?_⟩
 rw[Below.heap_setCell w ⟨g,i,none⟩ u b (by show b≠g;omega)]
 exact h.block b hb

theorem Band.below {lo hi:Nat} {w w':World} (h:Band lo hi w w'):Below lo w w':=⟨h.os,h.tape,h.output,Nat.le_of_eq h.size.symm,fun k hk=>h.block k (Or.inl hk)⟩

theorem Legs.band {lo hi:Nat} {w w1:World} {a:Option Addr} {ps:List Lg} (h:Legs w a ps) (L:Band lo hi w w1) (ha:∀b o,a=some ⟨b,o,none⟩→ps≠ []→b<lo∨hi≤b):Legs w1 a ps:=by
 rcases h with h|⟨b,o,rfl,hlt,hc⟩
 ·exact Or.inl h
 ·by_cases hz:ps= []
  ·exact Or.inl hz
  ·have hb:=L.block b (ha b o rfl hz)
   exact Or.inr ⟨b,o,rfl,by rw[L.size];exact hlt,fun i hi=>by rw[World.cell?_of_block (a:=⟨b,o+i*6,none⟩) hb,World.cell?_of_block (a:=⟨b,o+i*6+1,none⟩) hb,World.cell?_of_block (a:=⟨b,o+i*6+2,none⟩) hb,World.cell?_of_block (a:=⟨b,o+i*6+3,none⟩) hb,World.cell?_of_block (a:=⟨b,o+i*6+4,none⟩) hb,World.cell?_of_block (a:=⟨b,o+i*6+5,none⟩) hb];exact hc i hi⟩

theorem Room.band {lo hi:Nat} {w w1:World} {g m:Nat} (h:Room w g m) (L:Band lo hi w w1) (hg:g<lo∨hi≤g):Room w1 g m:=by
 intro j hj
 rw[World.cell?_of_block (a:=⟨g,j,none⟩) (L.block g hg),World.frozen?_of_block (a:=⟨g,j,none⟩) (L.block g hg)]
 exact h j hj

def Marked (w:World) (g n:Nat):Prop:=∀i,i<n→w.cell? ⟨g,i*6,none⟩=some (.int .i64 (1+6*(i:Int)))∧w.cell? ⟨g,i*6+1,none⟩=some (.int .i64 (1+6*(i:Int)+1))∧w.cell? ⟨g,i*6+2,none⟩=some (.int .i64 (1+6*(i:Int)+2))∧w.cell? ⟨g,i*6+3,none⟩=some (.int .i64 (1+6*(i:Int)+3))∧w.cell? ⟨g,i*6+4,none⟩=some (.int .i64 (1+6*(i:Int)+4))∧w.cell? ⟨g,i*6+5,none⟩=some (.int .i64 (1+6*(i:Int)+5))

theorem Marked.on {w w1:World} {g n B:Nat} (h:Marked w g n) (L:Below B w w1) (hg:g<B):Marked w1 g n:=by
 intro i hi
 rw[L.cell (p:=⟨g,i*6,none⟩) hg,L.cell (p:=⟨g,i*6+1,none⟩) hg,L.cell (p:=⟨g,i*6+2,none⟩) hg,L.cell (p:=⟨g,i*6+3,none⟩) hg,L.cell (p:=⟨g,i*6+4,none⟩) hg,L.cell (p:=⟨g,i*6+5,none⟩) hg]
 exact h i hi

theorem Marked.step {w:World} {g n k:Nat} (h:Marked w g k) (R:Room w g (n*6)) (hk:k<n):Marked ((((((w.setCell ⟨g,k*6,none⟩ (.int .i64 (1+6*(k:Int)))).setCell ⟨g,k*6+1,none⟩ (.int .i64 (1+6*(k:Int)+1))).setCell ⟨g,k*6+2,none⟩ (.int .i64 (1+6*(k:Int)+2))).setCell ⟨g,k*6+3,none⟩ (.int .i64 (1+6*(k:Int)+3))).setCell ⟨g,k*6+4,none⟩ (.int .i64 (1+6*(k:Int)+4))).setCell ⟨g,k*6+5,none⟩ (.int .i64 (1+6*(k:Int)+5))) g (k+1):=by
 intro i hi
 by_cases e:i=k
 ·subst e
  obtain⟨⟨v0,e0⟩,-⟩:=R (i*6) (by omega)
  obtain⟨⟨v1,e1⟩,-⟩:=R (i*6+1) (by omega)
  obtain⟨⟨v2,e2⟩,-⟩:=R (i*6+2) (by omega)
  obtain⟨⟨v3,e3⟩,-⟩:=R (i*6+3) (by omega)
  obtain⟨⟨v4,e4⟩,-⟩:=R (i*6+4) (by omega)
  obtain⟨⟨v5,e5⟩,-⟩:=R (i*6+5) (by omega)
  rw[set_cell (set_cell (set_cell (set_cell (set_cell (set_cell e0))))),set_cell (set_cell (set_cell (set_cell (set_cell (set_cell e1))))),set_cell (set_cell (set_cell (set_cell (set_cell (set_cell e2))))),set_cell (set_cell (set_cell (set_cell (set_cell (set_cell e3))))),set_cell (set_cell (set_cell (set_cell (set_cell (set_cell e4))))),set_cell (set_cell (set_cell (set_cell (set_cell (set_cell e5)))))]
  simp
 ·obtain⟨e0,e1,e2,e3,e4,e5⟩:=h i (by omega)
  rw[set_cell (set_cell (set_cell (set_cell (set_cell (set_cell e0))))),set_cell (set_cell (set_cell (set_cell (set_cell (set_cell e1))))),set_cell (set_cell (set_cell (set_cell (set_cell (set_cell e2))))),set_cell (set_cell (set_cell (set_cell (set_cell (set_cell e3))))),set_cell (set_cell (set_cell (set_cell (set_cell (set_cell e4))))),set_cell (set_cell (set_cell (set_cell (set_cell (set_cell e5)))))]
  rw[if_neg (by omega),if_neg (by omega),if_neg (by omega),if_neg (by omega),if_neg (by omega),if_neg (by omega),if_neg (by omega),if_neg (by omega),if_neg (by omega),if_neg (by omega),if_neg (by omega),if_neg (by omega),if_neg (by omega),if_neg (by omega),if_neg (by omega),if_neg (by omega),if_neg (by omega),if_neg (by omega),if_neg (by omega),if_neg (by omega),if_neg (by omega),if_neg (by omega),if_neg (by omega),if_neg (by omega),if_neg (by omega),if_neg (by omega),if_neg (by omega),if_neg (by omega),if_neg (by omega),if_neg (by omega),if_neg (by omega),if_neg (by omega),if_neg (by omega),if_neg (by omega),if_neg (by omega),if_neg (by omega)]
  exact⟨rfl,rfl,rfl,rfl,rfl,rfl⟩

end Tk
end Go.Proofs.YtcjgkmhpeedhiaaGreatDoor

/- A ticket that a function has made, marked and held against the marks. -/
namespace Go.Proofs.YtcjgkmhpeedhiaaGreatDoor
namespace Gt
open Go.ChangeShapes Go.WideShapes Go.ChangeAt Go.RowKit
open Pk (own_at own_ge own_below own_form new_below join_below heap_new lt_of kept cell_at heap_old frozen_at Room)
open Tk (Lg Hd Legs tkV tkB Marked Band)
set_option linter.unusedSimpArgs false
set_option linter.unusedVariables false

structure But (g:Nat) (w w':World):Prop where
 os:w'.os=w.os
 tape:w'.tape=w.tape
 output:w'.output=w.output
 size:w.heap.size≤w'.heap.size
 block:∀b,b<w.heap.size→b≠g→w'.heap[b]? =w.heap[b]?

theorem But.below {g B:Nat} {a w w':World} (h:But g w w') (L:Below B a w) (hB:B≤w.heap.size) (hg:B≤g):Below B a w':=
 ⟨h.os.trans L.os,h.tape.trans L.tape,h.output.trans L.output,Nat.le_trans L.size h.size,fun k hk=>(h.block k (Nat.lt_of_lt_of_le hk hB) (by omega)).trans (L.block k hk)⟩

theorem But.keep {g b:Nat} {w w':World} {x:Obj} (h:But g w w') (m:w.heap[b]? =some x) (hne:b≠g):w'.heap[b]? =some x:=(h.block b (lt_of m) hne).trans m

theorem But.own {g:Nat} {w w':World} {base e z n:Nat} {v:Value} {xs:List Value} (h:But g w w') (O:w.ownsRow base e z v n xs) (hne:v.ownBlock≠some g):w'.ownsRow base e z v n xs:=by
 obtain⟨hl,h2⟩:=O
 refine⟨hl,?_⟩
 rcases h2 with h2|⟨g',cap',cur,hv,hg,hh,h1,h3,h4,h5⟩
 ·exact Or.inl h2
 ·subst hv
  have hne2:g'≠g:=fun e=>hne (by rw[e];rfl)
  exact Or.inr ⟨g',cap',cur,rfl,hg,h.keep hh hne2,h1,h3,h4,h5⟩

end Gt
end Go.Proofs.YtcjgkmhpeedhiaaGreatDoor

/- What GetTicket answers, of the program and of its model, is one thing. -/
namespace Go.Proofs.YtcjgkmhpeedhiaaGreatDoor
namespace Gt
open Go.ChangeShapes Go.WideShapes Go.ChangeAt Go.RowKit
open Pk (own_at own_ge own_below own_form new_below join_below heap_new lt_of kept cell_at heap_old frozen_at Room)
open Tk (Lg Hd Legs tkV tkB Marked okB_parts)
set_option linter.unusedSimpArgs false
set_option linter.unusedVariables false

def GetIs (t:Hd) (nm:ByteArray) (ls:List Lg) (ok:Bool) (base:Nat) (e:Ending) (w:World):Prop:=
 ∃a cap,e= .returned (.tuple #[tkV t nm a ls.length cap,.bool ok])∧w.ownsRow base 64 6 (.slice a ls.length cap) ls.length (lcells ls)

theorem specGet_is {s:ByteArray} {t:Hd} {nm:ByteArray} {ls:List Lg} {ok:Bool} (hs:s.size≤1048576) (H:∀base e w,GetEnd s base e w→GetIs t nm ls ok base e w) (w:World):
 Calls Tryz.prog 34 #[.string s] w fun e w'=>GetIs t nm ls ok w.heap.size e w'∧Below w.heap.size w w':=
 (specGet_val s w hs (fun _ _ _ h=>shape h)).mono fun e w' h=>⟨H _ _ _ h.1,h.2⟩

theorem implGet_is {s:ByteArray} {t:Hd} {nm:ByteArray} {ls:List Lg} {ok:Bool} (hs:s.size≤1048576) (H:∀base e w,GetEnd s base e w→GetIs t nm ls ok base e w) (w:World) (M:ML w) (Tn:Num.Tens w):
 Calls Tryz.prog 28 #[.string s] w fun e w'=>GetIs t nm ls ok w.heap.size e w'∧Below w.heap.size w w':=
 (implGet_val s w hs M Tn).mono fun e w' h=>⟨H _ _ _ h.1,h.2⟩

theorem ml_of {w:World} (h:w.ShapedOpen Tryz.prog):ML w:=
 cell_of_shapedOpen_int (zero:= #[.int .i64 0]) (t:=3) h (of_decide_eq_true (by kernel_rfl)) (by kernel_rfl) rfl (by kernel_rfl) (by kernel_rfl) Tryz.underlying3

end Gt
end Go.Proofs.YtcjgkmhpeedhiaaGreatDoor

/- The bound of what is unpacked, and of a frame's text. -/
namespace Go.Proofs.YtcjgkmhpeedhiaaGreatDoor
namespace Fr
open Math (fixFrom symLen symAt p1 bk p2' dd nn unpC unpT body storedC storedT lowAt)
set_option linter.unusedVariables false

theorem fix_len (v:ByteArray) (f:Nat):∀(a:Nat) (out o:List UInt8) (z:Nat),out.length≤3000→fixFrom v f a out=(0,o,z)→o.length≤3000:=by
 induction f with
 |zero=>intro a out o z _ h;rw[fixFrom]at h;simp at h
 |succ f ih=>
  intro a out o z hout h
  by_cases h1:8*v.size<a+symLen v a
  ·rw[Math.fix_cut h1]at h;simp at h
  by_cases h2:symAt v a=256
  ·rw[Math.fix_end h1 h2]at h
   simp only[Prod.mk.injEq,true_and]at h
   obtain⟨rfl,rfl⟩:=h
   exact hout
  by_cases h3:symAt v a<256
  ·by_cases h4:3000<out.length+1
   ·rw[Math.fix_full h1 h3 h4]at h;simp at h
   ·rw[Math.fix_byte h1 h3 h4]at h
    exact ih _ _ _ _ (by rw[List.length_append,List.length_singleton];omega) h
  by_cases h4:285<symAt v a
  ·rw[Math.fix_sym h1 h4]at h;simp at h
  by_cases h5:8*v.size<p1 v a+5
  ·rw[Math.fix_cut2 h1 (by omega) (by omega) h5]at h;simp at h
  by_cases h6:29<bk v a
  ·rw[Math.fix_sym2 h1 (by omega) (by omega) h5 h6]at h;simp at h
  by_cases h7:8*v.size<p2' v a
  ·rw[Math.fix_cut3 h1 (by omega) (by omega) h5 h6 h7]at h;simp at h
  by_cases h8:out.length<dd v a
  ·rw[Math.fix_back h1 (by omega) (by omega) h5 h6 h7 h8]at h;simp at h
  by_cases h9:3000<out.length+nn v a
  ·rw[Math.fix_long h1 (by omega) (by omega) h5 h6 h7 h8 h9]at h;simp at h
  rw[Math.fix_copy h1 (by omega) (by omega) h5 h6 h7 h8 h9]at h
  exact ih _ _ _ _ (by rw[Math.copyN_length];omega) h

theorem unp_is (v:ByteArray) (h:unpC v=0):¬6000<v.size∧1≤v.size∧¬(Math.bitAt v 0=0∨1<lowAt v 1 2)∧(body v).1=0∧Math.rst v 8 (body v).2.2=0:=by
 unfold unpC at h
 by_cases h1:6000<v.size
 ·rw[if_pos h1]at h;omega
 rw[if_neg h1]at h
 by_cases h2:v.size=0
 ·rw[if_pos h2]at h;omega
 rw[if_neg h2]at h
 by_cases h3:Math.bitAt v 0=0∨1<lowAt v 1 2
 ·rw[if_pos h3]at h;omega
 rw[if_neg h3]at h
 by_cases h4:(body v).1≠0
 ·rw[if_pos h4]at h;omega
 rw[if_neg h4]at h
 exact⟨h1,by omega,h3,by omega,h⟩

theorem stored_ok (v:ByteArray) (h:storedC v=0):5≤v.size∧lowAt v 8 16+lowAt v 24 16=65535∧lowAt v 8 16≤3000∧lowAt v 8 16+5≤v.size:=by
 unfold storedC at h
 by_cases h1:v.size<5
 ·rw[if_pos h1]at h;omega
 rw[if_neg h1]at h
 by_cases h2:lowAt v 8 16+lowAt v 24 16≠65535
 ·rw[if_pos h2]at h;omega
 rw[if_neg h2]at h
 by_cases h3:3000<lowAt v 8 16
 ·rw[if_pos h3]at h;omega
 rw[if_neg h3]at h
 by_cases h4:v.size<lowAt v 8 16+5
 ·rw[if_pos h4]at h;omega
 omega

theorem unp_bound (u:ByteArray):(unpT u).size≤3000:=by
 by_cases h:unpC u=0
 ·obtain⟨-,-,-,h4,-⟩:=unp_is u h
  rw[Math.unpT_yes h]
  show(body u).2.1.toArray.size≤3000
  rw[List.size_toArray]
  by_cases hk:lowAt u 1 2=1
  ·have e:body u=fixFrom u (8*u.size+1) 3 []:=by unfold body;rw[if_pos hk]
   have ho:fixFrom u (8*u.size+1) 3 []=(0,(body u).2.1,(body u).2.2):=by rw[←e,←h4]
   exact fix_len u _ _ _ _ _ (by simp) ho
  ·have e:body u=(storedC u,(storedT u).data.toList,40+8*lowAt u 8 16):=by unfold body;rw[if_neg hk]
   have hc:storedC u=0:=by rw[e]at h4;exact h4
   obtain⟨s1,s2,s3,s4⟩:=stored_ok u hc
   rw[e]
   show(storedT u).data.toList.length≤3000
   unfold storedT
   rw[if_pos hc,Array.length_toList]
   show(u.extract 5 (5+lowAt u 8 16)).size≤3000
   rw[ByteArray.size_extract]
   omega
 ·rw[Math.unpT_no h]
  exact Nat.zero_le _

theorem fP_bound (s:ByteArray):(fP s).size≤3000:=by
 by_cases h:fC s=0
 ·rw[(f_yes h).2.2.2];exact unp_bound _
 ·rw[(f_no h).2.2.2];exact Nat.zero_le _

end Fr
end Go.Proofs.YtcjgkmhpeedhiaaGreatDoor

/- Contracts of the program's functions of chapter 2: the equation of a mark. -/
namespace Go.Proofs.YtcjgkmhpeedhiaaGreatDoor
namespace Num
open Go.ChangeShapes Go.WideShapes Go.ChangeAt Go.RowKit
set_option linter.unusedSimpArgs false
set_option linter.unusedVariables false

abbrev ev (p q g o h r s:Int):Value:= .agg #[.int .i64 p,.int .i64 q,.int .i64 g,.int .i64 o,.int .i64 h,.int .i64 r,.int .i64 s]

abbrev eb (p q g o h r s:Int):Obj:= .cells #[.int .i64 p,.int .i64 q,.int .i64 g,.int .i64 o,.int .i64 h,.int .i64 r,.int .i64 s] 73

theorem lies_op {p q o:Int} (h2:2≤o∧o≤p-1) (b:Bool) (h:(powV o q p==1)=b):liesV p q o=b:=by
 rw[liesV,h,decide_eq_true (show 1≤o by omega),decide_eq_true (show o<p by omega)]
 rfl

set_option maxHeartbeats 2000000 in
theorem equationOf_no (p q g o r s:Int) (t:ByteArray) (w:World) (ht:t.size≤maxLen) (hn:verOk p q g o r s t=false) (E1:Errs.ErrAt 1 w) (E2:Errs.ErrAt 3 w) (E3:Errs.ErrAt 4 w) (E4:Errs.ErrAt 5 w):
 Calls Tryz.prog 37 #[pv p q g,.int .i64 o,.string t,mv r s] w fun e w'=>(∃a,e= .returned (.tuple #[ev 0 0 0 0 0 0 0,.iface 217 (.pointer (some a))]))∧Below w.heap.size w w':=by
 unfold maxLen at ht
 obtain⟨L0,b1,b2,b3⟩:=three w (pb p q g) (mb r s) (eb 0 0 0 0 0 0 0)
 rcases ver_cases p q g o r s t with⟨h1,hv⟩|⟨h1,h2,hv⟩|⟨h1,h2,h3,hv⟩|⟨h1,h2,h3,h4,hv⟩|⟨h1,h2,h3,h4,h5,hv⟩|⟨h1,h2,h3,h4,h5,h6,hv⟩|⟨h1,h2,h3,h4,h5,h6,hv⟩
 ·have HOK:Hid (okP p q g=false):=h1
  clear hv h1
  go_enter Tryz.func37,Tryz.ntmps37
  go_wp2_with fail
  refine(implParamsOk_is p q g false HOK.out _).mono ?_
  rintro e w3 ⟨rfl,L1⟩
  have hA:=kept_new L1 b1
  have hB:=kept_new L1 b2
  have hC:=kept_new L1 b3
  have L2:=join_below L0 L1
  clear L0 b1 b2 b3 L1
  obtain⟨a,ha⟩:=err_cell (E1.on L2)
  have hgl:=err_lt (err_cell E1).choose_spec
  have hn1:1≠w.heap.size+2:=by omega
  have hn2:w.heap.size+2≠1:=by omega
  have d0:w3.cell? ⟨w.heap.size+2,0,none⟩=some (.int .i64 0):=cell_at hC 0
  have d1:w3.cell? ⟨w.heap.size+2,1,none⟩=some (.int .i64 0):=cell_at hC 1
  have d2:w3.cell? ⟨w.heap.size+2,2,none⟩=some (.int .i64 0):=cell_at hC 2
  have d3:w3.cell? ⟨w.heap.size+2,3,none⟩=some (.int .i64 0):=cell_at hC 3
  have d4:w3.cell? ⟨w.heap.size+2,4,none⟩=some (.int .i64 0):=cell_at hC 4
  have d5:w3.cell? ⟨w.heap.size+2,5,none⟩=some (.int .i64 0):=cell_at hC 5
  have d6:w3.cell? ⟨w.heap.size+2,6,none⟩=some (.int .i64 0):=cell_at hC 6
  have f0:w3.frozen? ⟨w.heap.size+2,0,none⟩=false:=frozen_at hC 0
  have f1:w3.frozen? ⟨w.heap.size+2,1,none⟩=false:=frozen_at hC 1
  have f2:w3.frozen? ⟨w.heap.size+2,2,none⟩=false:=frozen_at hC 2
  have f3:w3.frozen? ⟨w.heap.size+2,3,none⟩=false:=frozen_at hC 3
  have f4:w3.frozen? ⟨w.heap.size+2,4,none⟩=false:=frozen_at hC 4
  have f5:w3.frozen? ⟨w.heap.size+2,5,none⟩=false:=frozen_at hC 5
  have f6:w3.frozen? ⟨w.heap.size+2,6,none⟩=false:=frozen_at hC 6
  clear hA hB hC
  go_wp2
  go_region
  all_goals
   go_wp2
   refine bodyPost_ret (v:= .tuple #[ev 0 0 0 0 0 0 0,.iface 217 (.pointer (some a))]) (by simp[results,Tryz.results37,go_sem,d0,d1,d2,d3,d4,d5,d6]) rfl ?_
   exact⟨⟨a,rfl⟩,(((((((L2.setCell (by simp;try omega) _).setCell (by simp;try omega) _).setCell (by simp;try omega) _).setCell (by simp;try omega) _).setCell (by simp;try omega) _).setCell (by simp;try omega) _).setCell (by simp;try omega) _).drew⟩
 ·by_cases ho:o<2
  ·obtain⟨hp,hq,hq1,hq2,-⟩:=okP_facts h1
   have hm1:=hp.1
   have hm2:=hp.2
   have hm3:=hq.2
   have HOK:Hid (okP p q g=true):=h1
   clear hp hq hv h1
   have hlo:decide (o<2)=true:=decide_eq_true ho
   go_enter Tryz.func37,Tryz.ntmps37
   go_wp2_with fail
   refine(implParamsOk_is p q g true HOK.out _).mono ?_
   rintro e w3 ⟨rfl,L1⟩
   have hA:=kept_new L1 b1
   have hB:=kept_new L1 b2
   have hC:=kept_new L1 b3
   have L2:=join_below L0 L1
   clear L0 b1 b2 b3 L1
   obtain⟨a,ha⟩:=err_cell (E2.on L2)
   have hgl:=err_lt (err_cell E2).choose_spec
   have hn1:3≠w.heap.size+2:=by omega
   have hn2:w.heap.size+2≠3:=by omega
   have d0:w3.cell? ⟨w.heap.size+2,0,none⟩=some (.int .i64 0):=cell_at hC 0
   have d1:w3.cell? ⟨w.heap.size+2,1,none⟩=some (.int .i64 0):=cell_at hC 1
   have d2:w3.cell? ⟨w.heap.size+2,2,none⟩=some (.int .i64 0):=cell_at hC 2
   have d3:w3.cell? ⟨w.heap.size+2,3,none⟩=some (.int .i64 0):=cell_at hC 3
   have d4:w3.cell? ⟨w.heap.size+2,4,none⟩=some (.int .i64 0):=cell_at hC 4
   have d5:w3.cell? ⟨w.heap.size+2,5,none⟩=some (.int .i64 0):=cell_at hC 5
   have d6:w3.cell? ⟨w.heap.size+2,6,none⟩=some (.int .i64 0):=cell_at hC 6
   have f0:w3.frozen? ⟨w.heap.size+2,0,none⟩=false:=frozen_at hC 0
   have f1:w3.frozen? ⟨w.heap.size+2,1,none⟩=false:=frozen_at hC 1
   have f2:w3.frozen? ⟨w.heap.size+2,2,none⟩=false:=frozen_at hC 2
   have f3:w3.frozen? ⟨w.heap.size+2,3,none⟩=false:=frozen_at hC 3
   have f4:w3.frozen? ⟨w.heap.size+2,4,none⟩=false:=frozen_at hC 4
   have f5:w3.frozen? ⟨w.heap.size+2,5,none⟩=false:=frozen_at hC 5
   have f6:w3.frozen? ⟨w.heap.size+2,6,none⟩=false:=frozen_at hC 6
   clear hA hB hC
   go_wp2
   go_region
   all_goals
    go_wp2
    refine bodyPost_ret (v:= .tuple #[ev 0 0 0 0 0 0 0,.iface 217 (.pointer (some a))]) (by simp[results,Tryz.results37,go_sem,d0,d1,d2,d3,d4,d5,d6]) rfl ?_
    exact⟨⟨a,rfl⟩,(((((((L2.setCell (by simp;try omega) _).setCell (by simp;try omega) _).setCell (by simp;try omega) _).setCell (by simp;try omega) _).setCell (by simp;try omega) _).setCell (by simp;try omega) _).setCell (by simp;try omega) _).drew⟩
  ·obtain⟨hp,hq,hq1,hq2,-⟩:=okP_facts h1
   have hm1:=hp.1
   have hm2:=hp.2
   have hm3:=hq.2
   have HOK:Hid (okP p q g=true):=h1
   clear hp hq hv h1
   have hlo:decide (o<2)=false:=decide_eq_false ho
   have HL:Hid (liesV p q o=false):=by show _=_;rw[liesV,decide_eq_false (show ¬o<p by omega)];simp
   go_enter Tryz.func37,Tryz.ntmps37
   go_wp2_with fail
   refine(implParamsOk_is p q g true HOK.out _).mono ?_
   rintro e w3 ⟨rfl,L1⟩
   have hA:=kept_new L1 b1
   have hB:=kept_new L1 b2
   have hC:=kept_new L1 b3
   have L2:=join_below L0 L1
   clear L0 b1 b2 b3 L1
   have c0:w3.cell? ⟨w.heap.size,0,none⟩=some (.int .i64 p):=cell_at hA 0
   have c1:w3.cell? ⟨w.heap.size,1,none⟩=some (.int .i64 q):=cell_at hA 1
   have c2:w3.cell? ⟨w.heap.size,2,none⟩=some (.int .i64 g):=cell_at hA 2
   have m0:w3.cell? ⟨w.heap.size+1,0,none⟩=some (.int .i64 r):=cell_at hB 0
   have m1:w3.cell? ⟨w.heap.size+1,1,none⟩=some (.int .i64 s):=cell_at hB 1
   go_wp2_with fail
   refine(lies_is p q g o false HL.out _).mono ?_
   rintro e w4 ⟨rfl,K⟩
   have hA:=kept_new K hA
   have hB:=kept_new K hB
   have hC:=kept_new K hC
   have L2:=join_below L2 K
   clear K c0 c1 c2 m0 m1
   have c0:w4.cell? ⟨w.heap.size,0,none⟩=some (.int .i64 p):=cell_at hA 0
   have c1:w4.cell? ⟨w.heap.size,1,none⟩=some (.int .i64 q):=cell_at hA 1
   have c2:w4.cell? ⟨w.heap.size,2,none⟩=some (.int .i64 g):=cell_at hA 2
   have m0:w4.cell? ⟨w.heap.size+1,0,none⟩=some (.int .i64 r):=cell_at hB 0
   have m1:w4.cell? ⟨w.heap.size+1,1,none⟩=some (.int .i64 s):=cell_at hB 1
   obtain⟨a,ha⟩:=err_cell (E2.on L2)
   have hgl:=err_lt (err_cell E2).choose_spec
   have hn1:3≠w.heap.size+2:=by omega
   have hn2:w.heap.size+2≠3:=by omega
   have d0:w4.cell? ⟨w.heap.size+2,0,none⟩=some (.int .i64 0):=cell_at hC 0
   have d1:w4.cell? ⟨w.heap.size+2,1,none⟩=some (.int .i64 0):=cell_at hC 1
   have d2:w4.cell? ⟨w.heap.size+2,2,none⟩=some (.int .i64 0):=cell_at hC 2
   have d3:w4.cell? ⟨w.heap.size+2,3,none⟩=some (.int .i64 0):=cell_at hC 3
   have d4:w4.cell? ⟨w.heap.size+2,4,none⟩=some (.int .i64 0):=cell_at hC 4
   have d5:w4.cell? ⟨w.heap.size+2,5,none⟩=some (.int .i64 0):=cell_at hC 5
   have d6:w4.cell? ⟨w.heap.size+2,6,none⟩=some (.int .i64 0):=cell_at hC 6
   have f0:w4.frozen? ⟨w.heap.size+2,0,none⟩=false:=frozen_at hC 0
   have f1:w4.frozen? ⟨w.heap.size+2,1,none⟩=false:=frozen_at hC 1
   have f2:w4.frozen? ⟨w.heap.size+2,2,none⟩=false:=frozen_at hC 2
   have f3:w4.frozen? ⟨w.heap.size+2,3,none⟩=false:=frozen_at hC 3
   have f4:w4.frozen? ⟨w.heap.size+2,4,none⟩=false:=frozen_at hC 4
   have f5:w4.frozen? ⟨w.heap.size+2,5,none⟩=false:=frozen_at hC 5
   have f6:w4.frozen? ⟨w.heap.size+2,6,none⟩=false:=frozen_at hC 6
   clear hA hB hC
   go_wp2
   go_region
   all_goals
    go_wp2
    refine bodyPost_ret (v:= .tuple #[ev 0 0 0 0 0 0 0,.iface 217 (.pointer (some a))]) (by simp[results,Tryz.results37,go_sem,d0,d1,d2,d3,d4,d5,d6]) rfl ?_
    exact⟨⟨a,rfl⟩,(((((((L2.setCell (by simp;try omega) _).setCell (by simp;try omega) _).setCell (by simp;try omega) _).setCell (by simp;try omega) _).setCell (by simp;try omega) _).setCell (by simp;try omega) _).setCell (by simp;try omega) _).drew⟩
 ·obtain⟨hp,hq,hq1,hq2,-⟩:=okP_facts h1
  have hm1:=hp.1
  have hm2:=hp.2
  have hm3:=hq.2
  have HOK:Hid (okP p q g=true):=h1
  clear hp hq hv h1
  have hlo:decide (o<2)=false:=decide_eq_false (by omega)
  have HL:Hid (liesV p q o=false):=lies_op h2 false (by rw[beq_eq_false_iff_ne];exact h3)
  go_enter Tryz.func37,Tryz.ntmps37
  go_wp2_with fail
  refine(implParamsOk_is p q g true HOK.out _).mono ?_
  rintro e w3 ⟨rfl,L1⟩
  have hA:=kept_new L1 b1
  have hB:=kept_new L1 b2
  have hC:=kept_new L1 b3
  have L2:=join_below L0 L1
  clear L0 b1 b2 b3 L1
  have c0:w3.cell? ⟨w.heap.size,0,none⟩=some (.int .i64 p):=cell_at hA 0
  have c1:w3.cell? ⟨w.heap.size,1,none⟩=some (.int .i64 q):=cell_at hA 1
  have c2:w3.cell? ⟨w.heap.size,2,none⟩=some (.int .i64 g):=cell_at hA 2
  have m0:w3.cell? ⟨w.heap.size+1,0,none⟩=some (.int .i64 r):=cell_at hB 0
  have m1:w3.cell? ⟨w.heap.size+1,1,none⟩=some (.int .i64 s):=cell_at hB 1
  go_wp2_with fail
  refine(lies_is p q g o false HL.out _).mono ?_
  rintro e w4 ⟨rfl,K⟩
  have hA:=kept_new K hA
  have hB:=kept_new K hB
  have hC:=kept_new K hC
  have L2:=join_below L2 K
  clear K c0 c1 c2 m0 m1
  have c0:w4.cell? ⟨w.heap.size,0,none⟩=some (.int .i64 p):=cell_at hA 0
  have c1:w4.cell? ⟨w.heap.size,1,none⟩=some (.int .i64 q):=cell_at hA 1
  have c2:w4.cell? ⟨w.heap.size,2,none⟩=some (.int .i64 g):=cell_at hA 2
  have m0:w4.cell? ⟨w.heap.size+1,0,none⟩=some (.int .i64 r):=cell_at hB 0
  have m1:w4.cell? ⟨w.heap.size+1,1,none⟩=some (.int .i64 s):=cell_at hB 1
  obtain⟨a,ha⟩:=err_cell (E2.on L2)
  have hgl:=err_lt (err_cell E2).choose_spec
  have hn1:3≠w.heap.size+2:=by omega
  have hn2:w.heap.size+2≠3:=by omega
  have d0:w4.cell? ⟨w.heap.size+2,0,none⟩=some (.int .i64 0):=cell_at hC 0
  have d1:w4.cell? ⟨w.heap.size+2,1,none⟩=some (.int .i64 0):=cell_at hC 1
  have d2:w4.cell? ⟨w.heap.size+2,2,none⟩=some (.int .i64 0):=cell_at hC 2
  have d3:w4.cell? ⟨w.heap.size+2,3,none⟩=some (.int .i64 0):=cell_at hC 3
  have d4:w4.cell? ⟨w.heap.size+2,4,none⟩=some (.int .i64 0):=cell_at hC 4
  have d5:w4.cell? ⟨w.heap.size+2,5,none⟩=some (.int .i64 0):=cell_at hC 5
  have d6:w4.cell? ⟨w.heap.size+2,6,none⟩=some (.int .i64 0):=cell_at hC 6
  have f0:w4.frozen? ⟨w.heap.size+2,0,none⟩=false:=frozen_at hC 0
  have f1:w4.frozen? ⟨w.heap.size+2,1,none⟩=false:=frozen_at hC 1
  have f2:w4.frozen? ⟨w.heap.size+2,2,none⟩=false:=frozen_at hC 2
  have f3:w4.frozen? ⟨w.heap.size+2,3,none⟩=false:=frozen_at hC 3
  have f4:w4.frozen? ⟨w.heap.size+2,4,none⟩=false:=frozen_at hC 4
  have f5:w4.frozen? ⟨w.heap.size+2,5,none⟩=false:=frozen_at hC 5
  have f6:w4.frozen? ⟨w.heap.size+2,6,none⟩=false:=frozen_at hC 6
  clear hA hB hC
  go_wp2
  go_region
  all_goals
   go_wp2
   refine bodyPost_ret (v:= .tuple #[ev 0 0 0 0 0 0 0,.iface 217 (.pointer (some a))]) (by simp[results,Tryz.results37,go_sem,d0,d1,d2,d3,d4,d5,d6]) rfl ?_
   exact⟨⟨a,rfl⟩,(((((((L2.setCell (by simp;try omega) _).setCell (by simp;try omega) _).setCell (by simp;try omega) _).setCell (by simp;try omega) _).setCell (by simp;try omega) _).setCell (by simp;try omega) _).setCell (by simp;try omega) _).drew⟩
 ·obtain⟨hp,hq,hq1,hq2,-⟩:=okP_facts h1
  have hm1:=hp.1
  have hm2:=hp.2
  have hm3:=hq.2
  have HOK:Hid (okP p q g=true):=h1
  clear hp hq hv h1
  have hlo:decide (o<2)=false:=decide_eq_false (by omega)
  have HL:Hid (liesV p q o=true):=lies_op h2 true (by rw[beq_iff_eq];exact h3)
  have hbr:decide (1≤r∧r<q)=false:=decide_eq_false (by omega)
  go_enter Tryz.func37,Tryz.ntmps37
  go_wp2_with fail
  refine(implParamsOk_is p q g true HOK.out _).mono ?_
  rintro e w3 ⟨rfl,L1⟩
  have hA:=kept_new L1 b1
  have hB:=kept_new L1 b2
  have hC:=kept_new L1 b3
  have L2:=join_below L0 L1
  clear L0 b1 b2 b3 L1
  have c0:w3.cell? ⟨w.heap.size,0,none⟩=some (.int .i64 p):=cell_at hA 0
  have c1:w3.cell? ⟨w.heap.size,1,none⟩=some (.int .i64 q):=cell_at hA 1
  have c2:w3.cell? ⟨w.heap.size,2,none⟩=some (.int .i64 g):=cell_at hA 2
  have m0:w3.cell? ⟨w.heap.size+1,0,none⟩=some (.int .i64 r):=cell_at hB 0
  have m1:w3.cell? ⟨w.heap.size+1,1,none⟩=some (.int .i64 s):=cell_at hB 1
  go_wp2_with fail
  refine(lies_is p q g o true HL.out _).mono ?_
  rintro e w4 ⟨rfl,K⟩
  have hA:=kept_new K hA
  have hB:=kept_new K hB
  have hC:=kept_new K hC
  have L2:=join_below L2 K
  clear K c0 c1 c2 m0 m1
  have c0:w4.cell? ⟨w.heap.size,0,none⟩=some (.int .i64 p):=cell_at hA 0
  have c1:w4.cell? ⟨w.heap.size,1,none⟩=some (.int .i64 q):=cell_at hA 1
  have c2:w4.cell? ⟨w.heap.size,2,none⟩=some (.int .i64 g):=cell_at hA 2
  have m0:w4.cell? ⟨w.heap.size+1,0,none⟩=some (.int .i64 r):=cell_at hB 0
  have m1:w4.cell? ⟨w.heap.size+1,1,none⟩=some (.int .i64 s):=cell_at hB 1
  go_wp2_with fail
  refine(belowQ_val p q g r _ false hbr).mono ?_
  rintro e w5 ⟨rfl,K⟩
  have hA:=kept_new K hA
  have hB:=kept_new K hB
  have hC:=kept_new K hC
  have L2:=join_below L2 K
  clear K c0 c1 c2 m0 m1
  have c0:w5.cell? ⟨w.heap.size,0,none⟩=some (.int .i64 p):=cell_at hA 0
  have c1:w5.cell? ⟨w.heap.size,1,none⟩=some (.int .i64 q):=cell_at hA 1
  have c2:w5.cell? ⟨w.heap.size,2,none⟩=some (.int .i64 g):=cell_at hA 2
  have m0:w5.cell? ⟨w.heap.size+1,0,none⟩=some (.int .i64 r):=cell_at hB 0
  have m1:w5.cell? ⟨w.heap.size+1,1,none⟩=some (.int .i64 s):=cell_at hB 1
  obtain⟨a,ha⟩:=err_cell (E3.on L2)
  have hgl:=err_lt (err_cell E3).choose_spec
  have hn1:4≠w.heap.size+2:=by omega
  have hn2:w.heap.size+2≠4:=by omega
  have d0:w5.cell? ⟨w.heap.size+2,0,none⟩=some (.int .i64 0):=cell_at hC 0
  have d1:w5.cell? ⟨w.heap.size+2,1,none⟩=some (.int .i64 0):=cell_at hC 1
  have d2:w5.cell? ⟨w.heap.size+2,2,none⟩=some (.int .i64 0):=cell_at hC 2
  have d3:w5.cell? ⟨w.heap.size+2,3,none⟩=some (.int .i64 0):=cell_at hC 3
  have d4:w5.cell? ⟨w.heap.size+2,4,none⟩=some (.int .i64 0):=cell_at hC 4
  have d5:w5.cell? ⟨w.heap.size+2,5,none⟩=some (.int .i64 0):=cell_at hC 5
  have d6:w5.cell? ⟨w.heap.size+2,6,none⟩=some (.int .i64 0):=cell_at hC 6
  have f0:w5.frozen? ⟨w.heap.size+2,0,none⟩=false:=frozen_at hC 0
  have f1:w5.frozen? ⟨w.heap.size+2,1,none⟩=false:=frozen_at hC 1
  have f2:w5.frozen? ⟨w.heap.size+2,2,none⟩=false:=frozen_at hC 2
  have f3:w5.frozen? ⟨w.heap.size+2,3,none⟩=false:=frozen_at hC 3
  have f4:w5.frozen? ⟨w.heap.size+2,4,none⟩=false:=frozen_at hC 4
  have f5:w5.frozen? ⟨w.heap.size+2,5,none⟩=false:=frozen_at hC 5
  have f6:w5.frozen? ⟨w.heap.size+2,6,none⟩=false:=frozen_at hC 6
  clear hA hB hC
  go_wp2
  go_region
  all_goals
   go_wp2
   refine bodyPost_ret (v:= .tuple #[ev 0 0 0 0 0 0 0,.iface 217 (.pointer (some a))]) (by simp[results,Tryz.results37,go_sem,d0,d1,d2,d3,d4,d5,d6]) rfl ?_
   exact⟨⟨a,rfl⟩,(((((((L2.setCell (by simp;try omega) _).setCell (by simp;try omega) _).setCell (by simp;try omega) _).setCell (by simp;try omega) _).setCell (by simp;try omega) _).setCell (by simp;try omega) _).setCell (by simp;try omega) _).drew⟩
 ·obtain⟨hp,hq,hq1,hq2,-⟩:=okP_facts h1
  have hm1:=hp.1
  have hm2:=hp.2
  have hm3:=hq.2
  have HOK:Hid (okP p q g=true):=h1
  clear hp hq hv h1
  have hlo:decide (o<2)=false:=decide_eq_false (by omega)
  have HL:Hid (liesV p q o=true):=lies_op h2 true (by rw[beq_iff_eq];exact h3)
  have hbr:decide (1≤r∧r<q)=true:=decide_eq_true (by omega)
  have hbs:decide (1≤s∧s<q)=false:=decide_eq_false (by omega)
  go_enter Tryz.func37,Tryz.ntmps37
  go_wp2_with fail
  refine(implParamsOk_is p q g true HOK.out _).mono ?_
  rintro e w3 ⟨rfl,L1⟩
  have hA:=kept_new L1 b1
  have hB:=kept_new L1 b2
  have hC:=kept_new L1 b3
  have L2:=join_below L0 L1
  clear L0 b1 b2 b3 L1
  have c0:w3.cell? ⟨w.heap.size,0,none⟩=some (.int .i64 p):=cell_at hA 0
  have c1:w3.cell? ⟨w.heap.size,1,none⟩=some (.int .i64 q):=cell_at hA 1
  have c2:w3.cell? ⟨w.heap.size,2,none⟩=some (.int .i64 g):=cell_at hA 2
  have m0:w3.cell? ⟨w.heap.size+1,0,none⟩=some (.int .i64 r):=cell_at hB 0
  have m1:w3.cell? ⟨w.heap.size+1,1,none⟩=some (.int .i64 s):=cell_at hB 1
  go_wp2_with fail
  refine(lies_is p q g o true HL.out _).mono ?_
  rintro e w4 ⟨rfl,K⟩
  have hA:=kept_new K hA
  have hB:=kept_new K hB
  have hC:=kept_new K hC
  have L2:=join_below L2 K
  clear K c0 c1 c2 m0 m1
  have c0:w4.cell? ⟨w.heap.size,0,none⟩=some (.int .i64 p):=cell_at hA 0
  have c1:w4.cell? ⟨w.heap.size,1,none⟩=some (.int .i64 q):=cell_at hA 1
  have c2:w4.cell? ⟨w.heap.size,2,none⟩=some (.int .i64 g):=cell_at hA 2
  have m0:w4.cell? ⟨w.heap.size+1,0,none⟩=some (.int .i64 r):=cell_at hB 0
  have m1:w4.cell? ⟨w.heap.size+1,1,none⟩=some (.int .i64 s):=cell_at hB 1
  go_wp2_with fail
  refine(belowQ_val p q g r _ true hbr).mono ?_
  rintro e w5 ⟨rfl,K⟩
  have hA:=kept_new K hA
  have hB:=kept_new K hB
  have hC:=kept_new K hC
  have L2:=join_below L2 K
  clear K c0 c1 c2 m0 m1
  have c0:w5.cell? ⟨w.heap.size,0,none⟩=some (.int .i64 p):=cell_at hA 0
  have c1:w5.cell? ⟨w.heap.size,1,none⟩=some (.int .i64 q):=cell_at hA 1
  have c2:w5.cell? ⟨w.heap.size,2,none⟩=some (.int .i64 g):=cell_at hA 2
  have m0:w5.cell? ⟨w.heap.size+1,0,none⟩=some (.int .i64 r):=cell_at hB 0
  have m1:w5.cell? ⟨w.heap.size+1,1,none⟩=some (.int .i64 s):=cell_at hB 1
  go_wp2_with fail
  refine(belowQ_val p q g s _ false hbs).mono ?_
  rintro e w6 ⟨rfl,K⟩
  have hA:=kept_new K hA
  have hB:=kept_new K hB
  have hC:=kept_new K hC
  have L2:=join_below L2 K
  clear K c0 c1 c2 m0 m1
  have c0:w6.cell? ⟨w.heap.size,0,none⟩=some (.int .i64 p):=cell_at hA 0
  have c1:w6.cell? ⟨w.heap.size,1,none⟩=some (.int .i64 q):=cell_at hA 1
  have c2:w6.cell? ⟨w.heap.size,2,none⟩=some (.int .i64 g):=cell_at hA 2
  have m0:w6.cell? ⟨w.heap.size+1,0,none⟩=some (.int .i64 r):=cell_at hB 0
  have m1:w6.cell? ⟨w.heap.size+1,1,none⟩=some (.int .i64 s):=cell_at hB 1
  obtain⟨a,ha⟩:=err_cell (E3.on L2)
  have hgl:=err_lt (err_cell E3).choose_spec
  have hn1:4≠w.heap.size+2:=by omega
  have hn2:w.heap.size+2≠4:=by omega
  have d0:w6.cell? ⟨w.heap.size+2,0,none⟩=some (.int .i64 0):=cell_at hC 0
  have d1:w6.cell? ⟨w.heap.size+2,1,none⟩=some (.int .i64 0):=cell_at hC 1
  have d2:w6.cell? ⟨w.heap.size+2,2,none⟩=some (.int .i64 0):=cell_at hC 2
  have d3:w6.cell? ⟨w.heap.size+2,3,none⟩=some (.int .i64 0):=cell_at hC 3
  have d4:w6.cell? ⟨w.heap.size+2,4,none⟩=some (.int .i64 0):=cell_at hC 4
  have d5:w6.cell? ⟨w.heap.size+2,5,none⟩=some (.int .i64 0):=cell_at hC 5
  have d6:w6.cell? ⟨w.heap.size+2,6,none⟩=some (.int .i64 0):=cell_at hC 6
  have f0:w6.frozen? ⟨w.heap.size+2,0,none⟩=false:=frozen_at hC 0
  have f1:w6.frozen? ⟨w.heap.size+2,1,none⟩=false:=frozen_at hC 1
  have f2:w6.frozen? ⟨w.heap.size+2,2,none⟩=false:=frozen_at hC 2
  have f3:w6.frozen? ⟨w.heap.size+2,3,none⟩=false:=frozen_at hC 3
  have f4:w6.frozen? ⟨w.heap.size+2,4,none⟩=false:=frozen_at hC 4
  have f5:w6.frozen? ⟨w.heap.size+2,5,none⟩=false:=frozen_at hC 5
  have f6:w6.frozen? ⟨w.heap.size+2,6,none⟩=false:=frozen_at hC 6
  clear hA hB hC
  go_wp2
  go_region
  all_goals
   go_wp2
   refine bodyPost_ret (v:= .tuple #[ev 0 0 0 0 0 0 0,.iface 217 (.pointer (some a))]) (by simp[results,Tryz.results37,go_sem,d0,d1,d2,d3,d4,d5,d6]) rfl ?_
   exact⟨⟨a,rfl⟩,(((((((L2.setCell (by simp;try omega) _).setCell (by simp;try omega) _).setCell (by simp;try omega) _).setCell (by simp;try omega) _).setCell (by simp;try omega) _).setCell (by simp;try omega) _).setCell (by simp;try omega) _).drew⟩
 ·obtain⟨hp,hq,hq1,hq2,-⟩:=okP_facts h1
  have hm1:=hp.1
  have hm2:=hp.2
  have hm3:=hq.2
  have HOK:Hid (okP p q g=true):=h1
  clear hp hq hv h1
  have hlo:decide (o<2)=false:=decide_eq_false (by omega)
  have HL:Hid (liesV p q o=true):=lies_op h2 true (by rw[beq_iff_eq];exact h3)
  have hbr:decide (1≤r∧r<q)=true:=decide_eq_true (by omega)
  have hbs:decide (1≤s∧s<q)=true:=decide_eq_true (by omega)
  have hd:decide ((5000:Int)<t.size)=true:=by simp;omega
  go_enter Tryz.func37,Tryz.ntmps37
  go_wp2_with fail
  refine(implParamsOk_is p q g true HOK.out _).mono ?_
  rintro e w3 ⟨rfl,L1⟩
  have hA:=kept_new L1 b1
  have hB:=kept_new L1 b2
  have hC:=kept_new L1 b3
  have L2:=join_below L0 L1
  clear L0 b1 b2 b3 L1
  have c0:w3.cell? ⟨w.heap.size,0,none⟩=some (.int .i64 p):=cell_at hA 0
  have c1:w3.cell? ⟨w.heap.size,1,none⟩=some (.int .i64 q):=cell_at hA 1
  have c2:w3.cell? ⟨w.heap.size,2,none⟩=some (.int .i64 g):=cell_at hA 2
  have m0:w3.cell? ⟨w.heap.size+1,0,none⟩=some (.int .i64 r):=cell_at hB 0
  have m1:w3.cell? ⟨w.heap.size+1,1,none⟩=some (.int .i64 s):=cell_at hB 1
  go_wp2_with fail
  refine(lies_is p q g o true HL.out _).mono ?_
  rintro e w4 ⟨rfl,K⟩
  have hA:=kept_new K hA
  have hB:=kept_new K hB
  have hC:=kept_new K hC
  have L2:=join_below L2 K
  clear K c0 c1 c2 m0 m1
  have c0:w4.cell? ⟨w.heap.size,0,none⟩=some (.int .i64 p):=cell_at hA 0
  have c1:w4.cell? ⟨w.heap.size,1,none⟩=some (.int .i64 q):=cell_at hA 1
  have c2:w4.cell? ⟨w.heap.size,2,none⟩=some (.int .i64 g):=cell_at hA 2
  have m0:w4.cell? ⟨w.heap.size+1,0,none⟩=some (.int .i64 r):=cell_at hB 0
  have m1:w4.cell? ⟨w.heap.size+1,1,none⟩=some (.int .i64 s):=cell_at hB 1
  go_wp2_with fail
  refine(belowQ_val p q g r _ true hbr).mono ?_
  rintro e w5 ⟨rfl,K⟩
  have hA:=kept_new K hA
  have hB:=kept_new K hB
  have hC:=kept_new K hC
  have L2:=join_below L2 K
  clear K c0 c1 c2 m0 m1
  have c0:w5.cell? ⟨w.heap.size,0,none⟩=some (.int .i64 p):=cell_at hA 0
  have c1:w5.cell? ⟨w.heap.size,1,none⟩=some (.int .i64 q):=cell_at hA 1
  have c2:w5.cell? ⟨w.heap.size,2,none⟩=some (.int .i64 g):=cell_at hA 2
  have m0:w5.cell? ⟨w.heap.size+1,0,none⟩=some (.int .i64 r):=cell_at hB 0
  have m1:w5.cell? ⟨w.heap.size+1,1,none⟩=some (.int .i64 s):=cell_at hB 1
  go_wp2_with fail
  refine(belowQ_val p q g s _ true hbs).mono ?_
  rintro e w6 ⟨rfl,K⟩
  have hA:=kept_new K hA
  have hB:=kept_new K hB
  have hC:=kept_new K hC
  have L2:=join_below L2 K
  clear K c0 c1 c2 m0 m1
  have c0:w6.cell? ⟨w.heap.size,0,none⟩=some (.int .i64 p):=cell_at hA 0
  have c1:w6.cell? ⟨w.heap.size,1,none⟩=some (.int .i64 q):=cell_at hA 1
  have c2:w6.cell? ⟨w.heap.size,2,none⟩=some (.int .i64 g):=cell_at hA 2
  have m0:w6.cell? ⟨w.heap.size+1,0,none⟩=some (.int .i64 r):=cell_at hB 0
  have m1:w6.cell? ⟨w.heap.size+1,1,none⟩=some (.int .i64 s):=cell_at hB 1
  obtain⟨a,ha⟩:=err_cell (E4.on L2)
  have hgl:=err_lt (err_cell E4).choose_spec
  have hn1:5≠w.heap.size+2:=by omega
  have hn2:w.heap.size+2≠5:=by omega
  have d0:w6.cell? ⟨w.heap.size+2,0,none⟩=some (.int .i64 0):=cell_at hC 0
  have d1:w6.cell? ⟨w.heap.size+2,1,none⟩=some (.int .i64 0):=cell_at hC 1
  have d2:w6.cell? ⟨w.heap.size+2,2,none⟩=some (.int .i64 0):=cell_at hC 2
  have d3:w6.cell? ⟨w.heap.size+2,3,none⟩=some (.int .i64 0):=cell_at hC 3
  have d4:w6.cell? ⟨w.heap.size+2,4,none⟩=some (.int .i64 0):=cell_at hC 4
  have d5:w6.cell? ⟨w.heap.size+2,5,none⟩=some (.int .i64 0):=cell_at hC 5
  have d6:w6.cell? ⟨w.heap.size+2,6,none⟩=some (.int .i64 0):=cell_at hC 6
  have f0:w6.frozen? ⟨w.heap.size+2,0,none⟩=false:=frozen_at hC 0
  have f1:w6.frozen? ⟨w.heap.size+2,1,none⟩=false:=frozen_at hC 1
  have f2:w6.frozen? ⟨w.heap.size+2,2,none⟩=false:=frozen_at hC 2
  have f3:w6.frozen? ⟨w.heap.size+2,3,none⟩=false:=frozen_at hC 3
  have f4:w6.frozen? ⟨w.heap.size+2,4,none⟩=false:=frozen_at hC 4
  have f5:w6.frozen? ⟨w.heap.size+2,5,none⟩=false:=frozen_at hC 5
  have f6:w6.frozen? ⟨w.heap.size+2,6,none⟩=false:=frozen_at hC 6
  clear hA hB hC
  go_wp2
  go_region
  all_goals
   go_wp2
   refine bodyPost_ret (v:= .tuple #[ev 0 0 0 0 0 0 0,.iface 217 (.pointer (some a))]) (by simp[results,Tryz.results37,go_sem,d0,d1,d2,d3,d4,d5,d6]) rfl ?_
   exact⟨⟨a,rfl⟩,(((((((L2.setCell (by simp;try omega) _).setCell (by simp;try omega) _).setCell (by simp;try omega) _).setCell (by simp;try omega) _).setCell (by simp;try omega) _).setCell (by simp;try omega) _).setCell (by simp;try omega) _).drew⟩
 ·rw[hv]at hn
  cases hn

end Num
end Go.Proofs.YtcjgkmhpeedhiaaGreatDoor

/- Contracts of the program's functions of chapter 2: the equation of a mark, in its bounds. -/
namespace Go.Proofs.YtcjgkmhpeedhiaaGreatDoor
namespace Num
open Go.ChangeShapes Go.WideShapes Go.ChangeAt Go.RowKit
set_option linter.unusedSimpArgs false
set_option linter.unusedVariables false

set_option maxHeartbeats 2000000 in
theorem equationOf_yes (p q g o r s:Int) (t:ByteArray) (w:World) (hn:verOk p q g o r s t=true):
 Calls Tryz.prog 37 #[pv p q g,.int .i64 o,.string t,mv r s] w fun e w'=>e= .returned (.tuple #[ev p q g o (hV t q) r s,.nilIface])∧Below w.heap.size w w':=by
 obtain⟨L0,b1,b2,b3⟩:=three w (pb p q g) (mb r s) (eb 0 0 0 0 0 0 0)
 obtain⟨h1,h2,h3,h4,h5,h6⟩:okP p q g=true∧(2≤o∧o≤p-1)∧powV o q p=1∧(1≤r∧r≤q-1)∧(1≤s∧s≤q-1)∧t.size≤5000:=by
  simp only[verOk,opOk,inQ,Bool.and_eq_true,decide_eq_true_eq]at hn
  exact⟨hn.1.1.1.1,hn.1.1.1.2.1,hn.1.1.1.2.2,hn.1.1.2,hn.1.2,hn.2⟩
 obtain⟨hp,hq,hq1,hq2,-⟩:=okP_facts h1
 have HOK:Hid (okP p q g=true):=h1
 have hlo:decide (o<2)=false:=decide_eq_false (by omega)
 have HL:Hid (liesV p q o=true):=lies_op h2 true (by rw[beq_iff_eq];exact h3)
 have hbr:decide (1≤r∧r<q)=true:=decide_eq_true (by omega)
 have hbs:decide (1≤s∧s<q)=true:=decide_eq_true (by omega)
 have hd:decide ((5000:Int)<t.size)=false:=by simp;omega
 have HF:Hid (∀w,Calls Tryz.prog 84 #[.string t,.int .i64 q] w fun e w'=>e= .returned (.int .i64 (hV t q))∧Drawn w w'):=fun w=>implFold_yes t q w hq.1 hq.2 h6
 clear hp hq h1 h3 hn
 generalize hV t q=h at*
 go_enter Tryz.func37,Tryz.ntmps37
 go_wp2_with fail
 refine(implParamsOk_is p q g true HOK.out _).mono ?_
 rintro e w3 ⟨rfl,L1⟩
 have hA:=kept_new L1 b1
 have hB:=kept_new L1 b2
 have hC:=kept_new L1 b3
 have L2:=join_below L0 L1
 clear L0 b1 b2 b3 L1
 have c0:w3.cell? ⟨w.heap.size,0,none⟩=some (.int .i64 p):=cell_at hA 0
 have c1:w3.cell? ⟨w.heap.size,1,none⟩=some (.int .i64 q):=cell_at hA 1
 have c2:w3.cell? ⟨w.heap.size,2,none⟩=some (.int .i64 g):=cell_at hA 2
 have m0:w3.cell? ⟨w.heap.size+1,0,none⟩=some (.int .i64 r):=cell_at hB 0
 have m1:w3.cell? ⟨w.heap.size+1,1,none⟩=some (.int .i64 s):=cell_at hB 1
 go_wp2_with fail
 refine(lies_is p q g o true HL.out _).mono ?_
 rintro e w4 ⟨rfl,K⟩
 have hA:=kept_new K hA
 have hB:=kept_new K hB
 have hC:=kept_new K hC
 have L2:=join_below L2 K
 clear K c0 c1 c2 m0 m1
 have c0:w4.cell? ⟨w.heap.size,0,none⟩=some (.int .i64 p):=cell_at hA 0
 have c1:w4.cell? ⟨w.heap.size,1,none⟩=some (.int .i64 q):=cell_at hA 1
 have c2:w4.cell? ⟨w.heap.size,2,none⟩=some (.int .i64 g):=cell_at hA 2
 have m0:w4.cell? ⟨w.heap.size+1,0,none⟩=some (.int .i64 r):=cell_at hB 0
 have m1:w4.cell? ⟨w.heap.size+1,1,none⟩=some (.int .i64 s):=cell_at hB 1
 go_wp2_with fail
 refine(belowQ_val p q g r _ true hbr).mono ?_
 rintro e w5 ⟨rfl,K⟩
 have hA:=kept_new K hA
 have hB:=kept_new K hB
 have hC:=kept_new K hC
 have L2:=join_below L2 K
 clear K c0 c1 c2 m0 m1
 have c0:w5.cell? ⟨w.heap.size,0,none⟩=some (.int .i64 p):=cell_at hA 0
 have c1:w5.cell? ⟨w.heap.size,1,none⟩=some (.int .i64 q):=cell_at hA 1
 have c2:w5.cell? ⟨w.heap.size,2,none⟩=some (.int .i64 g):=cell_at hA 2
 have m0:w5.cell? ⟨w.heap.size+1,0,none⟩=some (.int .i64 r):=cell_at hB 0
 have m1:w5.cell? ⟨w.heap.size+1,1,none⟩=some (.int .i64 s):=cell_at hB 1
 go_wp2_with fail
 refine(belowQ_val p q g s _ true hbs).mono ?_
 rintro e w6 ⟨rfl,K⟩
 have hA:=kept_new K hA
 have hB:=kept_new K hB
 have hC:=kept_new K hC
 have L2:=join_below L2 K
 clear K c0 c1 c2 m0 m1
 have c0:w6.cell? ⟨w.heap.size,0,none⟩=some (.int .i64 p):=cell_at hA 0
 have c1:w6.cell? ⟨w.heap.size,1,none⟩=some (.int .i64 q):=cell_at hA 1
 have c2:w6.cell? ⟨w.heap.size,2,none⟩=some (.int .i64 g):=cell_at hA 2
 have m0:w6.cell? ⟨w.heap.size+1,0,none⟩=some (.int .i64 r):=cell_at hB 0
 have m1:w6.cell? ⟨w.heap.size+1,1,none⟩=some (.int .i64 s):=cell_at hB 1
 go_wp2
 go_region_with ((go_at_call 84;refine(HF.out _).mono ?_;rintro e w7 ⟨rfl,D4⟩;have L4:=L2.drew.trans (drawn_below _ D4);have hA4:=kept_drawn D4 hA;have hB4:=kept_drawn D4 hB;have hC4:=kept_drawn D4 hC;have c0:w7.cell? ⟨w.heap.size,0,none⟩=some (.int .i64 p):=cell_at hA4 0;have c1:w7.cell? ⟨w.heap.size,1,none⟩=some (.int .i64 q):=cell_at hA4 1;have c2:w7.cell? ⟨w.heap.size,2,none⟩=some (.int .i64 g):=cell_at hA4 2;have m0:w7.cell? ⟨w.heap.size+1,0,none⟩=some (.int .i64 r):=cell_at hB4 0;have m1:w7.cell? ⟨w.heap.size+1,1,none⟩=some (.int .i64 s):=cell_at hB4 1;have d0:w7.cell? ⟨w.heap.size+2,0,none⟩=some (.int .i64 0):=cell_at hC4 0;have d1:w7.cell? ⟨w.heap.size+2,1,none⟩=some (.int .i64 0):=cell_at hC4 1;have d2:w7.cell? ⟨w.heap.size+2,2,none⟩=some (.int .i64 0):=cell_at hC4 2;have d3:w7.cell? ⟨w.heap.size+2,3,none⟩=some (.int .i64 0):=cell_at hC4 3;have d4:w7.cell? ⟨w.heap.size+2,4,none⟩=some (.int .i64 0):=cell_at hC4 4;have d5:w7.cell? ⟨w.heap.size+2,5,none⟩=some (.int .i64 0):=cell_at hC4 5;have d6:w7.cell? ⟨w.heap.size+2,6,none⟩=some (.int .i64 0):=cell_at hC4 6;have f0:w7.frozen? ⟨w.heap.size+2,0,none⟩=false:=frozen_at hC4 0;have f1:w7.frozen? ⟨w.heap.size+2,1,none⟩=false:=frozen_at hC4 1;have f2:w7.frozen? ⟨w.heap.size+2,2,none⟩=false:=frozen_at hC4 2;have f3:w7.frozen? ⟨w.heap.size+2,3,none⟩=false:=frozen_at hC4 3;have f4:w7.frozen? ⟨w.heap.size+2,4,none⟩=false:=frozen_at hC4 4;have f5:w7.frozen? ⟨w.heap.size+2,5,none⟩=false:=frozen_at hC4 5;have f6:w7.frozen? ⟨w.heap.size+2,6,none⟩=false:=frozen_at hC4 6;clear hA4 hB4 hC4))
 all_goals
  go_wp2
  refine bodyPost_ret (v:= .tuple #[ev p q g o h r s,.nilIface]) (by simp[results,Tryz.results37,go_sem,d0,d1,d2,d3,d4,d5,d6]) rfl ?_
  exact⟨rfl,((((((L4.setCell (by simp;try omega) _).setCell (by simp;try omega) _).setCell (by simp;try omega) _).setCell (by simp;try omega) _).setCell (by simp;try omega) _).setCell (by simp;try omega) _).setCell (by simp;try omega) _⟩

end Num
end Go.Proofs.YtcjgkmhpeedhiaaGreatDoor

/- Contract of the program's Verify: the two sides of the equation, held against each other. -/
namespace Go.Proofs.YtcjgkmhpeedhiaaGreatDoor
namespace Num
open Go.ChangeShapes Go.WideShapes Go.ChangeAt Go.RowKit
set_option linter.unusedSimpArgs false
set_option linter.unusedVariables false

theorem told_val (p q g o h r s:Int) (w:World):
 Calls Tryz.prog 40 #[ev p q g o h r s] w fun e w'=>e= .returned (.int .i64 r)∧Below w.heap.size w w':=by
 go_enter Tryz.func40,Tryz.ntmps40
 go_wp2
 go_ret
 exact⟨rfl,new_below _ _⟩

set_option maxHeartbeats 1000000 in
theorem powers_val (p q g o h r s:Int) (w:World):
 Calls Tryz.prog 39 #[ev p q g o h r s] w fun e w'=>e= .returned (.int .i64 (eqV p q g o h r s))∧Below w.heap.size w w':=by
 obtain⟨L0,b1,b2⟩:=two w (eb p q g o h r s) (pb p q g)
 have HE:Hid (eqV p q g o h r s=modV (mulV (powV g (mulV h (invI s q) q) p) (powV o (mulV r (invI s q) q) p) p) q):=rfl
 go_enter Tryz.func39,Tryz.ntmps39
 go_wp2_with fail
 refine(implInverse_is s q _).mono ?_
 rintro e w3 ⟨rfl,D1⟩
 have hA:=kept_drawn D1 b1
 have hB:=kept_drawn D1 b2
 have L2:=L0.trans (drawn_below _ D1)
 have x1:w3.cell? ⟨w.heap.size,3,none⟩=some (.int .i64 o):=cell_at hA 3
 have x2:w3.cell? ⟨w.heap.size,4,none⟩=some (.int .i64 h):=cell_at hA 4
 have x3:w3.cell? ⟨w.heap.size,5,none⟩=some (.int .i64 r):=cell_at hA 5
 have x4:w3.cell? ⟨w.heap.size,6,none⟩=some (.int .i64 s):=cell_at hA 6
 have c0:w3.cell? ⟨w.heap.size+1,0,none⟩=some (.int .i64 p):=cell_at hB 0
 have c1:w3.cell? ⟨w.heap.size+1,1,none⟩=some (.int .i64 q):=cell_at hB 1
 have c2:w3.cell? ⟨w.heap.size+1,2,none⟩=some (.int .i64 g):=cell_at hB 2
 clear L0 b1 b2 D1 hA hB
 generalize invI s q=i at*
 generalize invB s q=bi at*
 go_wp2_with fail
 refine(implMulMod_val h i q _).mono ?_
 rintro e w4 ⟨rfl,rfl⟩
 generalize mulV h i q=u at*
 go_wp2_with fail
 refine(implMulMod_val r i q _).mono ?_
 rintro e w5 ⟨rfl,rfl⟩
 generalize mulV r i q=v at*
 go_wp2
 go_quiet (first|(go_at_call 27;exact Calls.quiet_of_same (implPowMod_val _ _ _ _))|(go_at_call 86;exact Calls.quiet_of_same (implMulMod_val _ _ _ _))|(go_at_call 87;exact Calls.quiet_of_same (implMod_val _ _ _)))
 rw[←HE.out]
 go_wp2
 go_ret
 exact⟨rfl,L2.trans (drawn_below _ ⟨_,rfl⟩)⟩

theorem answerAlike_val (p q g o h r s:Int) (w:World):
 Calls Tryz.prog 38 #[.func (.func 39) #[ev p q g o h r s] #[],.func (.func 40) #[ev p q g o h r s] #[]] w fun e w'=>e= .returned (.bool (eqV p q g o h r s==r))∧Below w.heap.size w w':=by
 go_enter Tryz.func38,Tryz.ntmps38
 go_wp2_with fail
 refine(powers_val p q g o h r s _).mono ?_
 rintro e w1 ⟨rfl,L1⟩
 go_wp2_with fail
 refine(told_val p q g o h r s _).mono ?_
 rintro e w2 ⟨rfl,L2⟩
 go_wp2
 go_ret
 exact⟨rfl,join_below L1 L2⟩

set_option maxHeartbeats 1000000 in
theorem implVerify_val (p q g o r s:Int) (t:ByteArray) (w:World) (ht:t.size≤maxLen) (E1:Errs.ErrAt 1 w) (E2:Errs.ErrAt 3 w) (E3:Errs.ErrAt 4 w) (E4:Errs.ErrAt 5 w):
 Calls Tryz.prog 14 #[pv p q g,.int .i64 o,.string t,mv r s] w fun e w'=>e= .returned (.bool (verV p q g o r s t))∧Below w.heap.size w w':=by
 have hmf:∀(fn:Fn) (first cap:Array Value) (w:World),(Instr.makeFunc fn first cap).run Tryz.prog w= .ok (.func fn first cap) w:=fun _ _ _ _=>rfl
 obtain⟨L0,b1,b2⟩:=two w (pb p q g) (mb r s)
 cases hv:verOk p q g o r s t
 ·have HV:Hid (verV p q g o r s t=false):=verV_no hv
  have HN:Hid (verOk p q g o r s t=false):=hv
  clear hv
  go_enter Tryz.func14,Tryz.ntmps14
  go_wp2_with fail
  refine(equationOf_no p q g o r s t _ ht HN.out (E1.on L0) (E2.on L0) (E3.on L0) (E4.on L0)).mono ?_
  rintro e w3 ⟨⟨a,rfl⟩,L1⟩
  have L2:=join_below L0 L1
  go_wp2
  go_ret
  rw[HV.out]
  exact⟨rfl,L2.alloc L2.size _⟩
 ·have HV:Hid (verV p q g o r s t=(eqV p q g o (hV t q) r s==r)):=by show _=_;rw[verV,hv,Bool.true_and]
  have HN:Hid (verOk p q g o r s t=true):=hv
  clear hv
  go_enter Tryz.func14,Tryz.ntmps14
  go_wp2_with fail
  refine(equationOf_yes p q g o r s t _ HN.out).mono ?_
  rintro e w3 ⟨rfl,L1⟩
  generalize hV t q=h at*
  have L2:=join_below L0 L1
  go_wp2_with fail
  refine(answerAlike_val p q g o h r s _).mono ?_
  rintro e w4 ⟨rfl,L3⟩
  go_wp2
  go_ret
  rw[HV.out]
  exact⟨rfl,join_below (L2.alloc L2.size _) L3⟩

end Num
end Go.Proofs.YtcjgkmhpeedhiaaGreatDoor

/- What Read answers. -/
namespace Go.Proofs.YtcjgkmhpeedhiaaGreatDoor
namespace Re
open Go.ChangeShapes Go.WideShapes Go.ChangeAt Go.RowKit
open Pk (own_at own_ge own_below own_form new_below join_below heap_new lt_of kept cell_at heap_old frozen_at Room)
open Tk (Lg Hd Legs tkV tkB)
open Gt (GetEnd GetIs ML lcells)
open Fr (fN fR fS fP fC)
open Num (verV pv mv)
set_option linter.unusedSimpArgs false
set_option linter.unusedVariables false

def rC (p q g o i:Int) (s:ByteArray) (ok:Bool):Nat:=if fC s≠0∨fN s≠i then 1 else if verV p q g o (fR s) (fS s) (fP s)=false then 2 else if ok=false then 3 else 0

def rT (c:Nat) (t:Hd):Hd:=if c=0 then t else⟨0,0,0,0,0⟩
def rN (c:Nat) (nm:ByteArray):ByteArray:=if c=0 then nm else⟨#[]⟩
def rL (c:Nat) (ls:List Lg):List Lg:=if c=0 then ls else[]

def ReadIs (t:Hd) (nm:ByteArray) (ls:List Lg) (c:Nat) (base:Nat) (e:Ending) (w:World):Prop:=
 ∃a cap,e= .returned (.tuple #[tkV t nm a ls.length cap,.int .i64 (c:Nat)])∧w.ownsRow base 64 6 (.slice a ls.length cap) ls.length (lcells ls)

theorem r_cases (p q g o i:Int) (s:ByteArray) (ok:Bool):(fC s≠0∧rC p q g o i s ok=1)∨(fC s=0∧fN s≠i∧rC p q g o i s ok=1)∨(fC s=0∧fN s=i∧verV p q g o (fR s) (fS s) (fP s)=false∧rC p q g o i s ok=2)∨(fC s=0∧fN s=i∧verV p q g o (fR s) (fS s) (fP s)=true∧ok=false∧rC p q g o i s ok=3)∨(fC s=0∧fN s=i∧verV p q g o (fR s) (fS s) (fP s)=true∧ok=true∧rC p q g o i s ok=0):=by
 by_cases h1:fC s=0
 ·by_cases h2:fN s=i
  ·cases h3:verV p q g o (fR s) (fS s) (fP s)
   ·exact Or.inr (Or.inr (Or.inl ⟨h1,h2,rfl,by unfold rC;rw[if_neg (by simp[h1,h2]),if_pos h3]⟩))
   ·cases ok
    ·exact Or.inr (Or.inr (Or.inr (Or.inl ⟨h1,h2,rfl,rfl,by unfold rC;rw[if_neg (by simp[h1,h2]),if_neg (by rw[h3];simp),if_pos rfl]⟩)))
    ·exact Or.inr (Or.inr (Or.inr (Or.inr ⟨h1,h2,rfl,rfl,by unfold rC;rw[if_neg (by simp[h1,h2]),if_neg (by rw[h3];simp),if_neg (by simp)]⟩)))
  ·exact Or.inr (Or.inl ⟨h1,h2,by unfold rC;rw[if_pos (Or.inr h2)]⟩)
 ·exact Or.inl ⟨h1,by unfold rC;rw[if_pos (Or.inl h1)]⟩

theorem zero_own (w:World) (base:Nat):w.ownsRow base 64 6 (.slice none ([]:List Lg).length 0) ([]:List Lg).length (lcells []):=⟨rfl,Or.inl ⟨rfl,rfl⟩⟩

theorem read_no {t:Hd} {nm:ByteArray} {ls:List Lg} {c:Nat} {base:Nat} {e:Ending} {w:World} (hc:c≠0) (he:e= .returned (.tuple #[tkV ⟨0,0,0,0,0⟩ ⟨#[]⟩ none 0 0,.int .i64 (c:Nat)])):ReadIs (rT c t) (rN c nm) (rL c ls) c base e w:=by
 unfold rT rN rL
 rw[if_neg hc,if_neg hc,if_neg hc]
 exact⟨none,0,he,zero_own w base⟩

theorem read_yes {t:Hd} {nm:ByteArray} {ls:List Lg} {base:Nat} {e:Ending} {w:World} {a:Option Addr} {cap:Nat} (he:e= .returned (.tuple #[tkV t nm a ls.length cap,.int .i64 (0:Nat)])) (O:w.ownsRow base 64 6 (.slice a ls.length cap) ls.length (lcells ls)):ReadIs (rT 0 t) (rN 0 nm) (rL 0 ls) 0 base e w:=⟨a,cap,he,O⟩

end Re
end Go.Proofs.YtcjgkmhpeedhiaaGreatDoor

/- What Issue answers, and that it is read back. -/
namespace Go.Proofs.YtcjgkmhpeedhiaaGreatDoor
namespace Is4
open Fr (fC fN fR fS fP)
open Num (signV verV powV okP)
open Tk (Lg Hd tkV putS okB)
open Gt (GetEnd GetIs good_one lcells)
open Re (rC)
set_option linter.unusedVariables false

theorem is_read {p q g x n:Int} {t:Hd} {nm:ByteArray} {ls:List Lg} {zs:List Int} (hok:okP p q g=true) (h1:1≤x) (h2:x≤q-1) (hz:zs.length≤100):
 isV (okB t nm ls) (putS t nm ls) (signV p q g x (putS t nm ls) zs) n=iNo∨
 ∃(s:ByteArray) (j:Int),isV (okB t nm ls) (putS t nm ls) (signV p q g x (putS t nm ls) zs) n=(s,j,true)∧s.size≤4000∧ls.length≤6∧(∀base e w,GetEnd (fP s) base e w→GetIs t nm ls true base e w)∧(∀b,rC p q g (powV g x p) n s true=0∧rC p q g (powV g x p) (n+1) s b=1):=by
 have hp:=put_small t nm ls
 rcases Num.sign_told (zs:=zs) hok h1 h2 (show(putS t nm ls).size≤5000 by omega) hz with h|⟨r,s,j,h,-,-,-,-,hv⟩
 ·rw[h]
  left
  rcases is_cases (okB t nm ls) (putS t nm ls) 0 0 (-1) false n with h|h|h|h
  ·exact h.2
  ·exact h.2.2
  ·exact h.2.2.2
  ·exact absurd h.2.1 (by simp)
 ·rw[h]
  rcases is_cases (okB t nm ls) (putS t nm ls) r s (j:Int) true n with h|h|h|⟨a1,-,a3,a4⟩
  ·exact Or.inl h.2
  ·exact Or.inl h.2.2
  ·exact Or.inl h.2.2.2
  ·right
   obtain⟨b0,b1,b2,b3,b4,b5⟩:=frame_back a3
   refine⟨_,_,a4,b0,(Tk.okB_parts t nm ls a1).2.2.1.2,?_,?_⟩
   ·rw[b5]
    have hg:Gt.Good (putS t nm ls) t nm ls:=⟨a1,by unfold putS;rw[if_pos a1]⟩
    rintro base e w (⟨t',nm',ls',a,cap,hg',rfl,O⟩|⟨hn,-⟩)
    ·obtain⟨rfl,rfl,rfl⟩:=good_one hg hg'
     exact⟨a,cap,rfl,O⟩
    ·exact absurd hg (hn t nm ls)
   ·intro b
    have hne:fN (frT n r s (putS t nm ls))≠n+1:=by rw[b2];omega
    refine⟨?_,by unfold rC;rw[if_pos (Or.inr hne)]⟩
    unfold rC
    rw[b1,b2,b3,b4,b5,hv]
    simp

theorem get_fine (s:ByteArray):∃t nm ls ok,ls.length≤6∧(ok=true→okB t nm ls=true)∧(ok=false→t=⟨0,0,0,0,0⟩∧ls= [])∧nm.size≤40∧∀base e w,GetEnd s base e w→GetIs t nm ls ok base e w:=by
 by_cases h:∃t nm ls,Gt.Good s t nm ls
 ·obtain⟨t,nm,ls,hg⟩:=h
  refine⟨t,nm,ls,true,(Tk.okB_parts t nm ls hg.1).2.2.1.2,fun _=>hg.1,fun h=>(by cases h),(Tk.okB_parts t nm ls hg.1).2.1,?_⟩
  rintro base e w (⟨t',nm',ls',a,cap,hg',rfl,O⟩|⟨hn,-⟩)
  ·obtain⟨rfl,rfl,rfl⟩:=good_one hg hg'
   exact⟨a,cap,rfl,O⟩
  ·exact absurd hg (hn t nm ls)
 ·refine⟨⟨0,0,0,0,0⟩,⟨#[]⟩,[],false,by simp,fun h=>(by cases h),fun _=>⟨rfl,rfl⟩,Nat.zero_le _,?_⟩
  rintro base e w (⟨t',nm',ls',a,cap,hg',rfl,O⟩|⟨-,rfl⟩)
  ·exact absurd ⟨t',nm',ls',hg'⟩ h
  ·exact⟨none,0,rfl,⟨rfl,Or.inl ⟨rfl,rfl⟩⟩⟩

end Is4
end Go.Proofs.YtcjgkmhpeedhiaaGreatDoor

/- Contracts of four digits, of the program and of its model. -/
namespace Go.Proofs.YtcjgkmhpeedhiaaGreatDoor
namespace Fr
open Go.ChangeShapes Go.WideShapes Go.ChangeAt Go.RowKit
set_option linter.unusedSimpArgs false
set_option linter.unusedVariables false

theorem pow_10 (k n:Nat) (hk:k≤4) (h:n<10^k):n<10000:=Nat.lt_of_lt_of_le h (Nat.pow_le_pow_right (by omega) hk)

set_option maxHeartbeats 1000000 in
theorem implCut_val (r:ByteArray) (w:World):
 Calls Tryz.prog 80 #[.string r] w fun e w'=>e= .returned (.tuple #[.int .i64 (cutN r:Nat),.string (cutR r),.bool (cutB r)])∧Num.Drawn w w':=by
 by_cases h4:4≤r.size
 ·have h4I:¬(r.size:Int)<4:=by omega
  have h4J:(4:Int)≤(r.size:Int):=by omega
  obtain⟨N,hN⟩:∃N,cutN r=N:=⟨_,rfl⟩
  obtain⟨R,hR⟩:∃R,cutR r=R:=⟨_,rfl⟩
  obtain⟨B,hB⟩:∃B,cutB r=B:=⟨_,rfl⟩
  rw[hN,hR,hB]
  have HN:Hid (cutN r=N):=hN
  have HR:Hid (cutR r=R):=hR
  have HBB:Hid (cutB r=B):=hB
  clear hN hR hB
  go_enter Tryz.func80,Tryz.ntmps80
  go_wp2
  go_loopw [5,10] (fun n i wr=>∃k m:Nat,k≤4∧i= .int .i64 k∧n= .int .i64 m∧Hid (dg r k=some m)∧m<10000∧Num.Drawn w wr) (fun _ i _=>4-(intOf i).toNat)
  case atStart=>exact⟨0,0,by omega,rfl,rfl,rfl,by omega,Num.Drawn.refl _⟩
  case round=>
   obtain⟨k,m,hk,rfl,rfl,HD,hm,DR⟩:=hrel
   by_cases hkn:k<4
   ·have hks:k<r.size:=by omega
    have hb:=r[k].toNat_lt
    have HA:Hid (_):=dg_at r k m hks HD.out
    have HP:=dg_lt r (k+1)
    by_cases hlo:48≤r[k].toNat
    ·by_cases hhi:r[k].toNat≤57
     ·have e:dg r (k+1)=some (10*m+(r[k].toNat-48)):=by rw[HA.out,if_pos ⟨hlo,hhi⟩]
      have hq:=pow_10 (k+1) _ (by omega) (HP _ e)
      have HE:Hid (_):=e
      have d1:¬(r[k].toNat:Int)<48:=by omega
      have d2:¬(57:Int)<(r[k].toNat:Int):=by omega
      have d3:IntKind.u8.wrap ((r[k].toNat:Int)-48)=((r[k].toNat-48:Nat):Int):=by rw[IntKind.wrap_u8];omega
      have d4:IntKind.i64.wrap ((r[k].toNat-48:Nat):Int)=((r[k].toNat-48:Nat):Int):=by rw[IntKind.wrap_i64];omega
      clear HP e
      obtain⟨q,hq2⟩:∃q,r[k].toNat-48=q:=⟨_,rfl⟩
      rw[hq2]at d3 d4 hq HE
      clear HA
      go_wp2
      go_roundw
      case rel=>exact⟨k+1,10*m+q,by omega,by go_num,by go_num,HE,hq,DR⟩
      case measure=>simp[intOf];omega
     ·have e:dg r (k+1)=none:=by rw[HA.out,if_neg (by omega)]
      obtain⟨e1,e2,e3⟩:=cut_no (r:=r) (Or.inr (dg_none r (k+1) 4 e (by omega)))
      have d1:¬(r[k].toNat:Int)<48:=by omega
      have d2:(57:Int)<(r[k].toNat:Int):=by omega
      clear HP e HA HD
      have HQ:Hid (N=0∧R=⟨#[]⟩∧B=false):=⟨by rw[←HN.out,e2],by rw[←HR.out,e3],by rw[←HBB.out,e1]⟩
      clear e1 e2 e3
      go_wp2
      go_ret3
      exact⟨by rw[HQ.out.1,HQ.out.2.1,HQ.out.2.2];rfl,DR⟩
    ·have e:dg r (k+1)=none:=by rw[HA.out,if_neg (by omega)]
     obtain⟨e1,e2,e3⟩:=cut_no (r:=r) (Or.inr (dg_none r (k+1) 4 e (by omega)))
     have d1:(r[k].toNat:Int)<48:=by omega
     clear HP e HA HD
     have HQ:Hid (N=0∧R=⟨#[]⟩∧B=false):=⟨by rw[←HN.out,e2],by rw[←HR.out,e3],by rw[←HBB.out,e1]⟩
     clear e1 e2 e3
     go_wp2
     go_ret3
     exact⟨by rw[HQ.out.1,HQ.out.2.1,HQ.out.2.2];rfl,DR⟩
   ·obtain rfl:k=4:=by omega
    obtain⟨e1,e2,e3⟩:=cut_yes h4 HD.out
    have HQ:Hid (N=m∧R=r.extract 4 r.size∧B=true):=⟨by rw[←HN.out,e2],by rw[←HR.out,e3],by rw[←HBB.out,e1]⟩
    clear HD e1 e2 e3
    go_wp2
    go_quiet (fail)
    go_wp2
    go_ret3
    exact⟨by rw[HQ.out.1,HQ.out.2.1,HQ.out.2.2];rfl,DR.more _⟩
 ·have h4I:(r.size:Int)<4:=by omega
  obtain⟨e1,e2,e3⟩:=cut_no (r:=r) (Or.inl h4)
  rw[e1,e2,e3]
  go_enter Tryz.func80,Tryz.ntmps80
  go_wp2
  go_ret3
  exact⟨rfl,Num.Drawn.refl _⟩

set_option maxHeartbeats 1000000 in
theorem specDig_val (t:ByteArray) (w:World) (h4:t.size=4):
 Calls Tryz.prog 71 #[.string t] w fun e w'=>e= .returned (.int .i64 (digI t))∧w'=w:=by
 obtain⟨X,hX⟩:∃X,digI t=X:=⟨_,rfl⟩
 rw[hX]
 have HX:Hid (digI t=X):=hX
 clear hX
 go_enter Tryz.func71,Tryz.ntmps71
 go_wp2
 go_loop [3,4] (fun n i=>∃k m:Nat,k≤4∧i= .int .i64 k∧n= .int .i64 m∧Hid (dg t k=some m)∧m<10000) (fun _ i=>4-(intOf i).toNat)
 case atStart=>exact⟨0,0,by omega,rfl,rfl,rfl,by omega⟩
 case round=>
  obtain⟨k,m,hk,rfl,rfl,HD,hm⟩:=hrel
  by_cases hkn:k<4
  ·have hks:k<t.size:=by omega
   have hb:=t[k].toNat_lt
   have HA:Hid (_):=dg_at t k m hks HD.out
   have HP:=dg_lt t (k+1)
   by_cases hin:48≤t[k].toNat∧t[k].toNat≤57
   ·have e:dg t (k+1)=some (10*m+(t[k].toNat-48)):=by rw[HA.out,if_pos hin]
    have hq:=pow_10 (k+1) _ (by omega) (HP _ e)
    have HE:Hid (_):=e
    have HI:Hid (∀W:World,_):=fun W=>Pk.in_is (t[k].toNat:Int) 48 57 true (decide_eq_true (by omega)) W
    have HQ:Hid (((10*m+(t[k].toNat-48):Nat):Int)=10*(m:Int)+(t[k].toNat:Int)-48):=by show _=_;omega
    clear HP e HA
    go_wp2_with fail
    refine(HI.out _).mono ?_
    rintro e w1 ⟨rfl,rfl⟩
    go_wp2
    go_round
    case rel=>exact⟨k+1,10*m+(t[k].toNat-48),by omega,by go_num,by rw[HQ.out],HE,hq⟩
    case measure=>simp[intOf];omega
   ·have e:dg t (k+1)=none:=by rw[HA.out,if_neg hin]
    have e1:=digI_none (dg_none t (k+1) 4 e (by omega))
    have HI:Hid (∀W:World,_):=fun W=>Pk.in_is (t[k].toNat:Int) 48 57 false (decide_eq_false (by omega)) W
    have HQ:Hid (X= -1):=by show X= -1;rw[←HX.out,e1]
    clear HP e HA HD e1
    go_wp2_with fail
    refine(HI.out _).mono ?_
    rintro e w1 ⟨rfl,rfl⟩
    go_wp2
    go_ret
    exact⟨by rw[HQ.out];rfl,rfl⟩
  ·obtain rfl:k=4:=by omega
   have HQ:Hid (X=(m:Int)):=by show X=_;rw[←HX.out,digI_some HD.out]
   clear HD
   go_wp2
   go_ret
   exact⟨by rw[HQ.out];rfl,rfl⟩

end Fr
end Go.Proofs.YtcjgkmhpeedhiaaGreatDoor

/- The contract of the program's joinParts. -/
namespace Go.Proofs.YtcjgkmhpeedhiaaGreatDoor
namespace Fr
open Go.ChangeShapes Go.WideShapes Go.ChangeAt Go.RowKit
open Pk (new_below join_below cell_at heap_new frozen_at lt_of kept heap_old)
set_option linter.unusedSimpArgs false
set_option linter.unusedVariables false

abbrev j3 (n r s:Int) (p:ByteArray):Value:= .tuple #[.int .i64 n,.agg #[.int .i64 r,.int .i64 s],.string p]

abbrev parts (n r s:Int) (p:ByteArray):Array Value:= #[.iface 97 (.int .i64 n),.iface 98 (.agg #[.int .i64 r,.int .i64 s]),.iface 99 (.string p)]

def Far (n r s:Int) (p:ByteArray) (m k:Nat) (n' r' s':Int) (p':ByteArray):Prop:=
 (k=0∧n'=0∧r'=0∧s'=0∧p'=⟨#[]⟩)∨(k=1∧n'=n∧r'=0∧s'=0∧p'=⟨#[]⟩)∨(k=2∧n'=n∧r'=r∧s'=s∧p'=⟨#[]⟩)∨(k=3∧n'=n∧r'=r∧s'=s∧p'=p)

theorem set_two (w:World) (P:Nat) (a b c d:Value) (t:TypeId) (h:w.heap[P]? =some (.cells #[a,b] t (0,0))):((w.setCell ⟨P,0,none⟩ c).setCell ⟨P,1,none⟩ d).heap[P]? =some (.cells #[c,d] t (0,0)):=by
 unfold World.setCell
 simp[Array.getElem?_modify,h]

theorem ta_yes1 (n:Int) (w:World):(Instr.typeAssert (.iface 97 (.int .i64 n)) 101 97 true).run Tryz.prog w= .ok (.tuple #[.int .i64 n,.bool true]) w:=by kernel_rfl

theorem ta_no1 (v:Value) (w:World):(Instr.typeAssert (.iface 98 v) 101 97 true).run Tryz.prog w= .ok (.tuple #[.int .i64 0,.bool false]) w:=by kernel_rfl

theorem ta_yes2 (v:Value) (w:World):(Instr.typeAssert (.iface 98 v) 101 98 true).run Tryz.prog w= .ok (.tuple #[v,.bool true]) w:=by kernel_rfl

theorem ta_no2 (v:Value) (w:World):(Instr.typeAssert (.iface 99 v) 101 97 true).run Tryz.prog w= .ok (.tuple #[.int .i64 0,.bool false]) w:=by kernel_rfl

theorem ta_no3 (v:Value) (w:World):(Instr.typeAssert (.iface 99 v) 101 98 true).run Tryz.prog w= .ok (.tuple #[.agg #[.int .i64 0,.int .i64 0],.bool false]) w:=by kernel_rfl

theorem ta_yes3 (v:Value) (w:World):(Instr.typeAssert (.iface 99 v) 101 99 true).run Tryz.prog w= .ok (.tuple #[v,.bool true]) w:=by kernel_rfl

set_option maxRecDepth 100000 in
set_option maxHeartbeats 4000000 in
theorem join_val (n r s:Int) (p:ByteArray) (m g cp:Nat) (a:Option Addr) (w:World) (hm:(m=0∧a=none∧cp=0)∨(m=3∧a=some ⟨g,0,none⟩∧g<w.heap.size∧w.heap[g]? =some (.cells (parts n r s p) 101 (0,0)))):
 Calls Tryz.prog 36 #[.slice a m cp] w fun e w'=>(∃n' r' s' p',e= .returned (j3 n' r' s' p')∧Far n r s p m m n' r' s' p')∧Below w.heap.size w w':=by
 have N:=new_below w (.cells #[.int .i64 0,.int .i64 0] 42)
 have m0:=heap_new w (.cells #[.int .i64 0,.int .i64 0] 42)
 have HM:Hid (_):=hm
 have hm3:m≤3:=by omega
 have y1:=ta_yes1 n
 have y2:=ta_yes2 (.agg #[.int .i64 r,.int .i64 s])
 have y3:=ta_yes3 (.string p)
 have x1:=ta_no1 (.agg #[.int .i64 r,.int .i64 s])
 have x2:=ta_no2 (.string p)
 have x3:=ta_no3 (.string p)
 go_enter Tryz.func36,Tryz.ntmps36
 go_wp2
 generalize w.alloc (.cells #[.int .i64 0,.int .i64 0] 42)=W at*
 go_loopw [2,4,12] (fun t2 t4 i wr=>∃(k:Nat) (n' r' s':Int) (p':ByteArray),k≤m∧i= .int .i64 k∧t2= .int .i64 n'∧t4= .string p'∧wr.heap[w.heap.size]? =some (.cells #[.int .i64 r',.int .i64 s'] 42 (0,0))∧Below w.heap.size w wr∧Hid (Far n r s p m k n' r' s' p')) (fun _ _ i _=>m-(intOf i).toNat)
 case atStart=>exact⟨0,0,0,0,⟨#[]⟩,by omega,rfl,rfl,rfl,m0,N,Or.inl ⟨rfl,rfl,rfl,rfl,rfl⟩⟩
 case round=>
  clear m0 N
  obtain⟨k,n',r',s',p',hk,rfl,rfl,rfl,mr,LR,HF⟩:=hrel
  by_cases hkn:k<m
  ·obtain⟨rfl,rfl,hg,hh⟩:m=3∧a=some ⟨g,0,none⟩∧g<w.heap.size∧w.heap[g]? =some (.cells (parts n r s p) 101 (0,0)):=by
    rcases HM.out with h|h
    ·omega
    ·exact h
   have hh2:wr.heap[g]? =some (.cells (parts n r s p) 101 (0,0)):=by rw[LR.block g hg];exact hh
   have c0:wr.cell? ⟨g,0,none⟩=some (.iface 97 (.int .i64 n)):=cell_at hh2 0
   have c1:wr.cell? ⟨g,1,none⟩=some (.iface 98 (.agg #[.int .i64 r,.int .i64 s])):=cell_at hh2 1
   have c2:wr.cell? ⟨g,2,none⟩=some (.iface 99 (.string p)):=cell_at hh2 2
   clear hh hh2 hm
   rcases HF.out with⟨rfl,rfl,rfl,rfl,rfl⟩|⟨rfl,rfl,rfl,rfl,rfl⟩|⟨rfl,rfl,rfl,rfl,rfl⟩|⟨rfl,-⟩
   ·go_wp2
    go_roundw
    case rel=>exact⟨1,n,0,0,⟨#[]⟩,by omega,rfl,rfl,rfl,mr,LR,Or.inr (Or.inl ⟨rfl,rfl,rfl,rfl,rfl⟩)⟩
    case measure=>simp[intOf]
   ·have mr2:=heap_old mr (.cells #[.int .i64 r,.int .i64 s] 98)
    have d0:=cell_at mr2 0
    have d1:=cell_at mr2 1
    have f0:=frozen_at mr2 0
    have f1:=frozen_at mr2 1
    have HS:Hid (_):=set_two _ w.heap.size _ _ (.int .i64 r) (.int .i64 s) _ mr2
    have HL:Hid (Below w.heap.size w (((wr.alloc (.cells #[.int .i64 r,.int .i64 s] 98)).setCell ⟨w.heap.size,0,none⟩ (.int .i64 r)).setCell ⟨w.heap.size,1,none⟩ (.int .i64 s))):=((LR.alloc LR.size _).setCell (p:=⟨w.heap.size,0,none⟩) (Nat.le_refl _) _).setCell (p:=⟨w.heap.size,1,none⟩) (Nat.le_refl _) _
    simp at d0 d1
    go_wp2
    go_roundw
    case rel=>exact⟨2,n',r,s,⟨#[]⟩,by omega,rfl,rfl,rfl,HS.out,HL.out,Or.inr (Or.inr (Or.inl ⟨rfl,rfl,rfl,rfl,rfl⟩))⟩
    case measure=>simp[intOf]
   ·go_wp2
    go_roundw
    case rel=>exact⟨3,n',r',s',p,by omega,rfl,rfl,rfl,mr,LR,Or.inr (Or.inr (Or.inr ⟨rfl,rfl,rfl,rfl,rfl⟩))⟩
    case measure=>simp[intOf]
   ·omega
  ·obtain rfl:k=m:=by omega
   have d0:wr.cell? ⟨w.heap.size,0,none⟩=some (.int .i64 r'):=cell_at mr 0
   have d1:wr.cell? ⟨w.heap.size,1,none⟩=some (.int .i64 s'):=cell_at mr 1
   have f0:=frozen_at mr 0
   have f1:=frozen_at mr 1
   have HS:Hid (_):=set_two _ w.heap.size _ _ (.int .i64 r') (.int .i64 s') _ mr
   have HL:Hid (Below w.heap.size w ((wr.setCell ⟨w.heap.size,0,none⟩ (.int .i64 r')).setCell ⟨w.heap.size,1,none⟩ (.int .i64 s'))):=(LR.setCell (p:=⟨w.heap.size,0,none⟩) (Nat.le_refl _) _).setCell (p:=⟨w.heap.size,1,none⟩) (Nat.le_refl _) _
   clear mr LR hm
   go_wp2
   go_region
   all_goals
    go_wp2
    have mE:=HS.out
    have HLD:=HL.out.drew
    generalize (wr.setCell ⟨w.heap.size,0,none⟩ (.int .i64 r')).setCell ⟨w.heap.size,1,none⟩ (.int .i64 s')=WE at*
    have q0:WE.drew.cell? ⟨w.heap.size,0,none⟩=some (.int .i64 r'):=cell_at (w:=WE.drew) mE 0
    have q1:WE.drew.cell? ⟨w.heap.size,1,none⟩=some (.int .i64 s'):=cell_at (w:=WE.drew) mE 1
    refine bodyPost_ret (v:=j3 n' r' s' p') (by simp[results,Tryz.results36,go_sem,q0,q1]) rfl ?_
    exact⟨⟨n',r',s',p',rfl,HF.out⟩,HLD⟩

end Fr
end Go.Proofs.YtcjgkmhpeedhiaaGreatDoor

/- The contracts of the program's refuseIf: it answers, or it panics with its fault. -/
namespace Go.Proofs.YtcjgkmhpeedhiaaGreatDoor
namespace Pk
open Go.ChangeShapes Go.WideShapes Go.ChangeAt Go.RowKit
set_option linter.unusedSimpArgs false
set_option linter.unusedVariables false

abbrev fault (k:Int):Ending:= .panicked [{ v:= .iface 160 (.int .i64 k),recovered:=false }]

theorem refuse_no (k:Int) (w:World):
 Calls Tryz.prog 137 #[.bool false,.int .i64 k] w fun e w'=>e= .returned (.tuple #[])∧w'=w:=by
 go_enter Tryz.func137,Tryz.ntmps137
 go_wp2
 exact⟨rfl,_,results_none rfl _ _ _,rfl,rfl⟩

theorem refuse_yes (k:Int) (w:World):
 Calls Tryz.prog 137 #[.bool true,.int .i64 k] w fun e w'=>e=fault k∧w'=w:=by
 go_enter Tryz.func137,Tryz.ntmps137
 go_wp2
 exact⟨rfl,rfl,rfl⟩

end Pk
end Go.Proofs.YtcjgkmhpeedhiaaGreatDoor

/- The contracts of the program's reader of bits: it answers, or it panics with its fault. -/
namespace Go.Proofs.YtcjgkmhpeedhiaaGreatDoor
namespace Pk
open Go.ChangeShapes Go.WideShapes Go.ChangeAt Go.RowKit
open Math (bitAt lowAt topAt symAt symLen)
set_option linter.unusedSimpArgs false
set_option linter.unusedVariables false

def RdI (c:Nat) (s:ByteArray) (a:Nat) (v:Value) (w:World):Prop:=w.heap[c]? =some (.cells #[.string s,.int .i64 (a:Int),v] 163)

theorem RdI.drewN {c:Nat} {s:ByteArray} {a:Nat} {v:Value} {w:World} (h:RdI c s a v w) (n:Nat):RdI c s a v (w.drewN n):=h

set_option maxRecDepth 100000 in
set_option maxHeartbeats 1000000 in
theorem bitI_ok (B c:Nat) (s:ByteArray) (a:Nat) (v:Value) (w:World) (hs:s.size≤100000) (hB:B≤c) (ha:a<8*s.size) (H:RdI c s a v w):
 Calls Tryz.prog 138 #[.pointer (some ⟨c,0,none⟩)] w fun e w'=>e= .returned (.int .i64 (bitAt s a:Nat))∧RdI c s (a+1) v w'∧Mv c w w'∧Below B w w':=by
 have m:w.heap[c]? =some (.cells #[.string s,.int .i64 (a:Int),v] 163):=H
 have f1:=frozen_at m 1
 have c0:w.cell? ⟨c,0,none⟩=some (.string s):=cell_at m 0
 have c1:w.cell? ⟨c,1,none⟩=some (.int .i64 (a:Int)):=cell_at m 1
 have hi:a/8<s.size:=by omega
 have HB:Hid (_):=Math.bitAt_in s a hi
 have hq:(a:Int)/8=((a/8:Nat):Int):=by omega
 have hr:(a:Int)%8=((a%8:Nat):Int):=by omega
 have hr8:a%8<8:=by omega
 have ht:Int.tmod (a:Int) 8=((a%8:Nat):Int):=by rw[Int.tmod_eq_emod_of_nonneg (by omega)];omega
 have htd:Int.tdiv (a:Int) 8=((a/8:Nat):Int):=by rw[Int.tdiv_eq_ediv_of_nonneg (by omega)];omega
 have hne:¬(a:Int)=(s.size:Int)*8:=by omega
 have hneb:((a:Int)==(s.size:Int)*8)=false:=beq_eq_false_iff_ne.2 hne
 have HRF:Hid (∀W,_):=fun W=>refuse_no 1 W
 have hw8:IntKind.i64.wrap ((s.size:Int)*8)=(s.size:Int)*8:=wrap_is _ (by omega)
 have HW:Hid (∀(w1:World),w1.heap[c]? =some (.cells #[.string s,.int .i64 (a:Int),v] 163)→RdI c s (a+1) v (w1.setCell ⟨c,1,none⟩ (.int .i64 ((a:Int)+1)))):=fun w1 m1=>hp_set (w:=w1) (i:=1) m1 (.int .i64 ((a:Int)+1))
 have hbt:=s[a/8].toNat_lt
 have hand:=Math.and_one_i64 (s[a/8].toNat/2^(a%8)) (by have:s[a/8].toNat/2^(a%8)≤s[a/8].toNat:=Nat.div_le_self _ _;omega)
 have hil:((a/8:Nat):Int)<(s.size:Int):=by omega
 have hdl:s[a/8].toNat/2^(a%8)≤s[a/8].toNat:=Nat.div_le_self _ _
 have hdv:=bit_quo s[a/8].toNat (a%8)
 have hdv2:((s[a/8].toNat:Nat):Int)/2^(a%8)=((s[a/8].toNat/2^(a%8):Nat):Int):=by rw[Int.natCast_ediv];simp
 rw[HB.out]
 have HM:Hid (_):=m
 clear m HB
 generalize a/8=i at*
 generalize a%8=r at*
 generalize s[i].toNat/2^r=Y at*
 have hi0:(0:Int)≤(i:Int):=by omega
 have hw1:IntKind.i64.wrap (i:Int)=i:=wrap_is _ (by omega)
 have hw2:IntKind.i64.wrap (r:Int)=r:=wrap_is _ (by omega)
 have hw5:IntKind.i64.wrap (s[i].toNat:Int)=s[i].toNat:=wrap_is _ (by omega)
 have hr0:(0:Int)≤(r:Int):=by omega
 have hr64:(r:Int)<64:=by omega
 have hrt:((r:Int)).toNat=r:=by omega
 go_enter Tryz.func138,Tryz.ntmps138
 go_wp2
 go_quiet ((go_at_call 137;exact Calls.quiet_of_same (HRF.out _)))
 have m9:(w.drewN nq).heap[c]? =some (.cells #[.string s,.int .i64 (a:Int),v] 163):=HM.out
 have M9:Mv c w (w.drewN nq):=(Mv.refl c w).drewN nq
 have L9:Below B w (w.drewN nq):=below_drewN (Below.refl B w) nq
 clear c0 c1 f1 HM H
 generalize w.drewN nq=w9 at m9 M9 L9⊢
 have c0:w9.cell? ⟨c,0,none⟩=some (.string s):=cell_at m9 0
 have c1:w9.cell? ⟨c,1,none⟩=some (.int .i64 (a:Int)):=cell_at m9 1
 have f1:=frozen_at m9 1
 have HM:Hid (_):=m9
 clear m9
 go_wp2_with fail
 go_quiet (fail)
 go_wp2
 go_ret
 exact⟨rfl,HW.out _ HM.out,(M9.drewN _).trans (Mv.set c 1 _ _),(below_drewN L9 _).setCell hB _⟩

set_option maxRecDepth 100000 in
set_option maxHeartbeats 1000000 in
theorem bitI_cut (B c:Nat) (s:ByteArray) (v:Value) (w:World) (hs:s.size≤100000) (hB:B≤c) (H:RdI c s (8*s.size) v w):
 Calls Tryz.prog 138 #[.pointer (some ⟨c,0,none⟩)] w fun e w'=>e=fault 1∧Mv c w w'∧Below B w w':=by
 have m:w.heap[c]? =some (.cells #[.string s,.int .i64 ((8*s.size:Nat):Int),v] 163):=H
 have c0:w.cell? ⟨c,0,none⟩=some (.string s):=cell_at m 0
 have c1:w.cell? ⟨c,1,none⟩=some (.int .i64 ((8*s.size:Nat):Int)):=cell_at m 1
 have e8:((8*s.size:Nat):Int)=(s.size:Int)*8:=by omega
 rw[e8]at c1
 have hneb:((s.size:Int)*8==(s.size:Int)*8)=true:=by simp
 have HRF:Hid (∀W,_):=fun W=>refuse_yes 1 W
 have hw8:IntKind.i64.wrap ((s.size:Int)*8)=(s.size:Int)*8:=wrap_is _ (by omega)
 clear e8
 go_enter Tryz.func138,Tryz.ntmps138
 go_wp2
 refine wp_region_held_drew (S:=(fun w'=>w'.cell? ⟨c,0,none⟩=some (.string s)∧w'.cell? ⟨c,1,none⟩=some (.int .i64 ((s.size:Int)*8)))) (by kernel_rfl) ?_ (fun hHeld=> ?_)
 ·exact⟨c0,c1⟩
 refine wpAnyH_take (i:=0) (oi:= { dst:=some 4,op:=Op.move (Operand.tmp 0),type:=184,pos:= "l03_pack.go:313",after:= #[],guard:=none }) (v:= ?_) rfl (by kernel_rfl) (by kernel_rfl) (by kernel_rfl) (fun _ _ _ h=>h) (Or.inl ⟨by rfl,?_⟩) (by assumption) ?_
 rotate_left 1
 ·(intro wS hSw;(try dsimp only at hSw);go_simp;try (with_reducible rfl))
 (try simp only[Act.put,List.setIfInBounds_toArray,List.set_cons_zero,List.set_cons_succ])
 refine wpAnyH_take (i:=1) (oi:= { dst:=some 5,op:=Op.nilCheck (Operand.tmp 4),type:=0,pos:= "l03_pack.go:313",after:= #[{ on:=0,ground:=Ground.data }],guard:=none }) (v:= ?_) rfl (by kernel_rfl) (by kernel_rfl) (by kernel_rfl) (fun _ _ _ h=>h) (Or.inl ⟨by rfl,?_⟩) (by assumption) ?_
 rotate_left 1
 ·(intro wS hSw;(try dsimp only at hSw);go_simp;try (with_reducible rfl))
 (try simp only[Act.put,List.setIfInBounds_toArray,List.set_cons_zero,List.set_cons_succ])
 refine wpAnyH_take (i:=2) (oi:= { dst:=some 6,op:=Op.fieldAddr 163 (Operand.tmp 5) 1,type:=0,pos:= "l03_pack.go:313",after:= #[{ on:=1,ground:=Ground.data }],guard:=none }) (v:= ?_) rfl (by kernel_rfl) (by kernel_rfl) (by kernel_rfl) (fun _ _ _ h=>h) (Or.inl ⟨by rfl,?_⟩) (by assumption) ?_
 rotate_left 1
 ·(intro wS hSw;(try dsimp only at hSw);go_simp;try (with_reducible rfl))
 (try simp only[Act.put,List.setIfInBounds_toArray,List.set_cons_zero,List.set_cons_succ])
 refine wpAnyH_take (i:=3) (oi:= { dst:=some 7,op:=Op.load 3 (Operand.tmp 6),type:=3,pos:= "l03_pack.go:313",after:= #[{ on:=2,ground:=Ground.data }],guard:=none }) (v:= ?_) rfl (by kernel_rfl) (by kernel_rfl) (by kernel_rfl) (fun _ _ _ h=>h) (Or.inl ⟨by rfl,?_⟩) (by assumption) ?_
 rotate_left 1
 ·(intro wS hSw;(try dsimp only at hSw);go_simp;try (with_reducible rfl))
 (try simp only[Act.put,List.setIfInBounds_toArray,List.set_cons_zero,List.set_cons_succ])
 refine wpAnyH_take (i:=4) (oi:= { dst:=some 8,op:=Op.move (Operand.tmp 0),type:=184,pos:= "l03_pack.go:313",after:= #[],guard:=none }) (v:= ?_) rfl (by kernel_rfl) (by kernel_rfl) (by kernel_rfl) (fun _ _ _ h=>h) (Or.inl ⟨by rfl,?_⟩) (by assumption) ?_
 rotate_left 1
 ·(intro wS hSw;(try dsimp only at hSw);go_simp;try (with_reducible rfl))
 (try simp only[Act.put,List.setIfInBounds_toArray,List.set_cons_zero,List.set_cons_succ])
 refine wpAnyH_take (i:=5) (oi:= { dst:=some 9,op:=Op.nilCheck (Operand.tmp 8),type:=0,pos:= "l03_pack.go:313",after:= #[{ on:=4,ground:=Ground.data }],guard:=none }) (v:= ?_) rfl (by kernel_rfl) (by kernel_rfl) (by kernel_rfl) (fun _ _ _ h=>h) (Or.inl ⟨by rfl,?_⟩) (by assumption) ?_
 rotate_left 1
 ·(intro wS hSw;(try dsimp only at hSw);go_simp;try (with_reducible rfl))
 (try simp only[Act.put,List.setIfInBounds_toArray,List.set_cons_zero,List.set_cons_succ])
 refine wpAnyH_take (i:=6) (oi:= { dst:=some 10,op:=Op.fieldAddr 163 (Operand.tmp 9) 0,type:=0,pos:= "l03_pack.go:313",after:= #[{ on:=5,ground:=Ground.data }],guard:=none }) (v:= ?_) rfl (by kernel_rfl) (by kernel_rfl) (by kernel_rfl) (fun _ _ _ h=>h) (Or.inl ⟨by rfl,?_⟩) (by assumption) ?_
 rotate_left 1
 ·(intro wS hSw;(try dsimp only at hSw);go_simp;try (with_reducible rfl))
 (try simp only[Act.put,List.setIfInBounds_toArray,List.set_cons_zero,List.set_cons_succ])
 refine wpAnyH_take (i:=7) (oi:= { dst:=some 11,op:=Op.load 9 (Operand.tmp 10),type:=9,pos:= "l03_pack.go:313",after:= #[{ on:=6,ground:=Ground.data }],guard:=none }) (v:= ?_) rfl (by kernel_rfl) (by kernel_rfl) (by kernel_rfl) (fun _ _ _ h=>h) (Or.inl ⟨by rfl,?_⟩) (by assumption) ?_
 rotate_left 1
 ·(intro wS hSw;(try dsimp only at hSw);go_simp;try (with_reducible rfl))
 (try simp only[Act.put,List.setIfInBounds_toArray,List.set_cons_zero,List.set_cons_succ])
 refine wpAnyH_take (i:=8) (oi:= { dst:=some 12,op:=Op.call { callee:=Callee.builtin Builtin.len,args:= #[Operand.tmp 11],argTypes:= #[9] },type:=3,pos:= "l03_pack.go:313",after:= #[{ on:=7,ground:=Ground.data }],guard:=none }) (v:= ?_) rfl (by kernel_rfl) (by kernel_rfl) (by kernel_rfl) (fun _ _ _ h=>h) (Or.inl ⟨by rfl,?_⟩) (by assumption) ?_
 rotate_left 1
 ·(intro wS hSw;(try dsimp only at hSw);go_simp;try (with_reducible rfl))
 (try simp only[Act.put,List.setIfInBounds_toArray,List.set_cons_zero,List.set_cons_succ])
 refine wpAnyH_take (i:=9) (oi:= { dst:=some 13,op:=Op.binOp BinOp.mul 3 (Operand.tmp 12) (Operand.const (Value.int IntKind.i64 8)) 3,type:=3,pos:= "l03_pack.go:313",after:= #[{ on:=8,ground:=Ground.data }],guard:=none }) (v:= ?_) rfl (by kernel_rfl) (by kernel_rfl) (by kernel_rfl) (fun _ _ _ h=>h) (Or.inl ⟨by rfl,?_⟩) (by assumption) ?_
 rotate_left 1
 ·(intro wS hSw;(try dsimp only at hSw);go_simp;try (with_reducible rfl))
 (try simp only[Act.put,List.setIfInBounds_toArray,List.set_cons_zero,List.set_cons_succ])
 refine wpAnyH_take (i:=10) (oi:= { dst:=some 14,op:=Op.binOp BinOp.eql 3 (Operand.tmp 7) (Operand.tmp 13) 3,type:=4,pos:= "l03_pack.go:313",after:= #[{ on:=3,ground:=Ground.data },{ on:=9,ground:=Ground.data }],guard:=none }) (v:= ?_) rfl (by kernel_rfl) (by kernel_rfl) (by kernel_rfl) (fun _ _ _ h=>h) (Or.inl ⟨by rfl,?_⟩) (by assumption) ?_
 rotate_left 1
 ·(intro wS hSw;(try dsimp only at hSw);go_simp;try (with_reducible rfl))
 (try simp only[Act.put,List.setIfInBounds_toArray,List.set_cons_zero,List.set_cons_succ])
 refine wpAnyH_ready (rs:= [11]) (by kernel_rfl) (by simp) ?_
 refine AllReadyH.cons (o:= { dst:=some 15,op:=Op.call { callee:=Callee.value (Operand.func 137),args:= #[Operand.tmp 14,Operand.const (Value.int IntKind.i64 1)],argTypes:= #[4,3] },type:=0,pos:= "l03_pack.go:313",after:= #[{ on:=10,ground:=Ground.data }],guard:=none }) rfl (fun K hK=> ?_) AllReadyH.nil
 go_simp
 refine(HRF.out _).mono ?_
 rintro e x1 ⟨rfl,hx1⟩
 subst hx1
 exact⟨rfl,rfl,⟨rfl,fun _ _=>rfl⟩,(Below.refl _ _).drew⟩

end Pk
end Go.Proofs.YtcjgkmhpeedhiaaGreatDoor

/- Numbers that the program reads off bits, the lowest first or the highest first. -/
namespace Go.Proofs.YtcjgkmhpeedhiaaGreatDoor
namespace Pk
open Go.ChangeShapes Go.WideShapes Go.ChangeAt Go.RowKit
open Math (bitAt lowAt topAt symAt symLen)
set_option linter.unusedSimpArgs false
set_option linter.unusedVariables false

theorem pow_30 (k:Nat) (h:k≤30):2^k≤1073741824:=Nat.le_trans (Nat.pow_le_pow_right (by omega) h) (by decide)

theorem wrap_pow (b k:Nat) (hb:b≤1) (h:k≤30):wrap64 ((b:Int)*2^k)=((b*2^k:Nat):Int):=by
 have hp:=pow_30 k h
 have e:((b:Int)*2^k)=((b*2^k:Nat):Int):=by rw[Int.natCast_mul,Int.natCast_pow];rfl
 have h2:b*2^k≤1*2^k:=Nat.mul_le_mul_right _ hb
 rw[e]
 generalize b*2^k=q at*
 unfold wrap64
 omega

theorem or_low (y b k:Nat) (hy:y<2^k) (hb:b≤1) (h:k≤30):bits .or .i64 (y:Int) (wrap64 ((b:Int)*2^k))=((y+b*2^k:Nat):Int):=by
 have hp:=pow_30 k h
 have h2:b*2^k≤1*2^k:=Nat.mul_le_mul_right _ hb
 rw[wrap_pow b k hb h,Math.bits_or_i64 y (b*2^k) (by omega) (by omega),Nat.or_comm,Nat.mul_comm b,←Nat.two_pow_add_eq_or_of_lt hy,Nat.add_comm]

theorem or_top (y b k:Nat) (hy:y<2^k) (hb:b≤1) (h:k≤30):bits .or .i64 (wrap64 ((y:Int)*2)) (b:Int)=((2*y+b:Nat):Int):=by
 have hp:=pow_30 k h
 have e:wrap64 ((y:Int)*2)=((2^1*y:Nat):Int):=by unfold wrap64;omega
 rw[e,Math.bits_or_i64 (2^1*y) b (by omega) (by omega),←Nat.two_pow_add_eq_or_of_lt (by omega)]

theorem low_lt (y b k:Nat) (hy:y<2^k) (hb:b≤1):y+b*2^k<2^(k+1):=by
 have h2:b*2^k≤1*2^k:=Nat.mul_le_mul_right _ hb
 rw[Nat.pow_succ]
 omega

set_option maxRecDepth 100000 in
set_option maxHeartbeats 1000000 in
theorem lowI_ok (B c:Nat) (s:ByteArray) (a n:Nat) (v:Value) (w:World) (hs:s.size≤100000) (hB:B≤c) (hn:n≤30) (ha:a+n≤8*s.size) (H:RdI c s a v w):
 Calls Tryz.prog 139 #[.pointer (some ⟨c,0,none⟩),.int .i64 n] w fun e w'=>e= .returned (.int .i64 (lowAt s a n:Nat))∧RdI c s (a+n) v w'∧Mv c w w'∧Below B w w':=by
 have hnI:(n:Int)≤30:=by omega
 go_enter Tryz.func139,Tryz.ntmps139
 go_wp2
 go_loopw [5,8] (fun x i wr=>∃(k y:Nat),k≤n∧y<2^k∧x= .int .i64 y∧i= .int .i64 k∧Hid (y=lowAt s a k)∧Hid (RdI c s (a+k) v wr)∧Hid (Mv c w wr)∧Hid (Below B w wr)) (fun _ i _=>n-(intOf i).toNat)
 case atStart=>exact⟨0,0,by omega,by simp,rfl,rfl,rfl,H,Mv.refl _ _,Below.refl _ _⟩
 case round=>
  obtain⟨k,y,hk,hy,rfl,rfl,HY,R,M,L⟩:=hrel
  by_cases hlt:k<n
  ·have hkI:(k:Int)<(n:Int):=by omega
   have HB:Hid (∀_:Unit,_):=fun _=>bitI_ok B c s (a+k) v wr hs hB (by omega) R.out
   have hb:=Math.bitAt_le s (a+k)
   have HYN:Hid (lowAt s a (k+1)=lowAt s a k+bitAt s (a+k)*2^k):=rfl
   generalize bitAt s (a+k)=b at*
   have HOR:Hid (_):=or_low y b k hy hb (by omega)
   have hk0:(0:Int)≤(k:Int):=by omega
   have hk64:(k:Int)<64:=by omega
   have hkt:((k:Int)).toNat=k:=by omega
   go_wp2_with fail
   refine(HB.out ()).mono ?_
   rintro e w2 ⟨rfl,R2,M2,L2⟩
   have R3:RdI c s (a+(k+1)) v w2:=R2
   have M3:=M.out.trans M2
   have L3:=L.out.trans L2
   have HYK:Hid ((y+b*2^k)<2^(k+1)):=low_lt y b k hy hb
   go_wp2
   go_roundw
   case rel=>exact⟨k+1,(y+b*2^k),by omega,HYK.out,by rw[HOR.out],by go_num,by show _=_;rw[HYN.out,←HY.out],R3,M3,L3⟩
   case measure=>simp[intOf];omega
  ·obtain rfl:k=n:=by omega
   have hkI:¬(k:Int)<(k:Int):=by omega
   go_wp2
   go_ret
   exact⟨by rw[←HY.out]<;>rfl,R.out,M.out,L.out⟩

set_option maxRecDepth 100000 in
set_option maxHeartbeats 1000000 in
theorem lowI_cut (B c:Nat) (s:ByteArray) (a n:Nat) (v:Value) (w:World) (hs:s.size≤100000) (hB:B≤c) (hn:n≤30) (ha0:a≤8*s.size) (ha:8*s.size<a+n) (H:RdI c s a v w):
 Calls Tryz.prog 139 #[.pointer (some ⟨c,0,none⟩),.int .i64 n] w fun e w'=>e=fault 1∧Mv c w w'∧Below B w w':=by
 have hnI:(n:Int)≤30:=by omega
 go_enter Tryz.func139,Tryz.ntmps139
 go_wp2
 go_loopw [5,8] (fun x i wr=>∃(k y:Nat),a+k≤8*s.size∧y<2^k∧x= .int .i64 y∧i= .int .i64 k∧Hid (y=lowAt s a k)∧Hid (RdI c s (a+k) v wr)∧Hid (Mv c w wr)∧Hid (Below B w wr)) (fun _ i _=>n-(intOf i).toNat)
 case atStart=>exact⟨0,0,by omega,by simp,rfl,rfl,rfl,H,Mv.refl _ _,Below.refl _ _⟩
 case round=>
  obtain⟨k,y,hk,hy,rfl,rfl,HY,R,M,L⟩:=hrel
  have hkI:(k:Int)<(n:Int):=by omega
  by_cases hlt:a+k<8*s.size
  ·skip
   have HB:Hid (∀_:Unit,_):=fun _=>bitI_ok B c s (a+k) v wr hs hB (by omega) R.out
   have hb:=Math.bitAt_le s (a+k)
   have HYN:Hid (lowAt s a (k+1)=lowAt s a k+bitAt s (a+k)*2^k):=rfl
   generalize bitAt s (a+k)=b at*
   have HOR:Hid (_):=or_low y b k hy hb (by omega)
   have hk0:(0:Int)≤(k:Int):=by omega
   have hk64:(k:Int)<64:=by omega
   have hkt:((k:Int)).toNat=k:=by omega
   go_wp2_with fail
   refine(HB.out ()).mono ?_
   rintro e w2 ⟨rfl,R2,M2,L2⟩
   have R3:RdI c s (a+(k+1)) v w2:=R2
   have M3:=M.out.trans M2
   have L3:=L.out.trans L2
   have HYK:Hid ((y+b*2^k)<2^(k+1)):=low_lt y b k hy hb
   go_wp2
   go_roundw
   case rel=>exact⟨k+1,(y+b*2^k),by omega,HYK.out,by rw[HOR.out],by go_num,by show _=_;rw[HYN.out,←HY.out],R3,M3,L3⟩
   case measure=>simp[intOf];omega
  ·have HB:Hid (∀_:Unit,_):=fun _=>bitI_cut B c s v wr hs hB (by have:=R.out;rw[show a+k=8*s.size from by omega]at this;exact this)
   go_wp2_with fail
   refine(HB.out ()).mono ?_
   rintro e w2 ⟨rfl,M2,L2⟩
   have M3:=M.out.trans M2
   have L3:=L.out.trans L2
   go_wp2
   exact⟨rfl,rfl,M3,L3⟩

set_option maxRecDepth 100000 in
set_option maxHeartbeats 1000000 in
theorem topI_ok (B c:Nat) (s:ByteArray) (a n:Nat) (v:Value) (w:World) (hs:s.size≤100000) (hB:B≤c) (hn:n≤30) (ha:a+n≤8*s.size) (H:RdI c s a v w):
 Calls Tryz.prog 152 #[.pointer (some ⟨c,0,none⟩),.int .i64 n] w fun e w'=>e= .returned (.int .i64 (topAt s a n:Nat))∧RdI c s (a+n) v w'∧Mv c w w'∧Below B w w':=by
 have hnI:(n:Int)≤30:=by omega
 go_enter Tryz.func152,Tryz.ntmps152
 go_wp2
 go_loopw [5,7] (fun x i wr=>∃(k y:Nat),k≤n∧y<2^k∧x= .int .i64 y∧i= .int .i64 k∧Hid (y=topAt s a k)∧Hid (RdI c s (a+k) v wr)∧Hid (Mv c w wr)∧Hid (Below B w wr)) (fun _ i _=>n-(intOf i).toNat)
 case atStart=>exact⟨0,0,by omega,by simp,rfl,rfl,rfl,H,Mv.refl _ _,Below.refl _ _⟩
 case round=>
  obtain⟨k,y,hk,hy,rfl,rfl,HY,R,M,L⟩:=hrel
  by_cases hlt:k<n
  ·have hkI:(k:Int)<(n:Int):=by omega
   have HB:Hid (∀_:Unit,_):=fun _=>bitI_ok B c s (a+k) v wr hs hB (by omega) R.out
   have hb:=Math.bitAt_le s (a+k)
   have HYN:Hid (topAt s a (k+1)=2*topAt s a k+bitAt s (a+k)):=rfl
   generalize bitAt s (a+k)=b at*
   have HOR:Hid (_):=or_top y b k hy hb (by omega)
   have hk0:(0:Int)≤(k:Int):=by omega
   have hk64:(k:Int)<64:=by omega
   have hkt:((k:Int)).toNat=k:=by omega
   go_wp2_with fail
   refine(HB.out ()).mono ?_
   rintro e w2 ⟨rfl,R2,M2,L2⟩
   have R3:RdI c s (a+(k+1)) v w2:=R2
   have M3:=M.out.trans M2
   have L3:=L.out.trans L2
   have HYK:Hid ((2*y+b)<2^(k+1)):=by show _<_;rw[Nat.pow_succ];omega
   go_wp2
   go_roundw
   case rel=>exact⟨k+1,(2*y+b),by omega,HYK.out,by rw[HOR.out],by go_num,by show _=_;rw[HYN.out,←HY.out],R3,M3,L3⟩
   case measure=>simp[intOf];omega
  ·obtain rfl:k=n:=by omega
   have hkI:¬(k:Int)<(k:Int):=by omega
   go_wp2
   go_ret
   exact⟨by rw[←HY.out]<;>rfl,R.out,M.out,L.out⟩

set_option maxRecDepth 100000 in
set_option maxHeartbeats 1000000 in
theorem topI_cut (B c:Nat) (s:ByteArray) (a n:Nat) (v:Value) (w:World) (hs:s.size≤100000) (hB:B≤c) (hn:n≤30) (ha0:a≤8*s.size) (ha:8*s.size<a+n) (H:RdI c s a v w):
 Calls Tryz.prog 152 #[.pointer (some ⟨c,0,none⟩),.int .i64 n] w fun e w'=>e=fault 1∧Mv c w w'∧Below B w w':=by
 have hnI:(n:Int)≤30:=by omega
 go_enter Tryz.func152,Tryz.ntmps152
 go_wp2
 go_loopw [5,7] (fun x i wr=>∃(k y:Nat),a+k≤8*s.size∧y<2^k∧x= .int .i64 y∧i= .int .i64 k∧Hid (y=topAt s a k)∧Hid (RdI c s (a+k) v wr)∧Hid (Mv c w wr)∧Hid (Below B w wr)) (fun _ i _=>n-(intOf i).toNat)
 case atStart=>exact⟨0,0,by omega,by simp,rfl,rfl,rfl,H,Mv.refl _ _,Below.refl _ _⟩
 case round=>
  obtain⟨k,y,hk,hy,rfl,rfl,HY,R,M,L⟩:=hrel
  have hkI:(k:Int)<(n:Int):=by omega
  by_cases hlt:a+k<8*s.size
  ·skip
   have HB:Hid (∀_:Unit,_):=fun _=>bitI_ok B c s (a+k) v wr hs hB (by omega) R.out
   have hb:=Math.bitAt_le s (a+k)
   have HYN:Hid (topAt s a (k+1)=2*topAt s a k+bitAt s (a+k)):=rfl
   generalize bitAt s (a+k)=b at*
   have HOR:Hid (_):=or_top y b k hy hb (by omega)
   have hk0:(0:Int)≤(k:Int):=by omega
   have hk64:(k:Int)<64:=by omega
   have hkt:((k:Int)).toNat=k:=by omega
   go_wp2_with fail
   refine(HB.out ()).mono ?_
   rintro e w2 ⟨rfl,R2,M2,L2⟩
   have R3:RdI c s (a+(k+1)) v w2:=R2
   have M3:=M.out.trans M2
   have L3:=L.out.trans L2
   have HYK:Hid ((2*y+b)<2^(k+1)):=by show _<_;rw[Nat.pow_succ];omega
   go_wp2
   go_roundw
   case rel=>exact⟨k+1,(2*y+b),by omega,HYK.out,by rw[HOR.out],by go_num,by show _=_;rw[HYN.out,←HY.out],R3,M3,L3⟩
   case measure=>simp[intOf];omega
  ·have HB:Hid (∀_:Unit,_):=fun _=>bitI_cut B c s v wr hs hB (by have:=R.out;rw[show a+k=8*s.size from by omega]at this;exact this)
   go_wp2_with fail
   refine(HB.out ()).mono ?_
   rintro e w2 ⟨rfl,M2,L2⟩
   have M3:=M.out.trans M2
   have L3:=L.out.trans L2
   go_wp2
   exact⟨rfl,rfl,M3,L3⟩

end Pk
end Go.Proofs.YtcjgkmhpeedhiaaGreatDoor

/- All blocks that were there, but one, are as they were. -/
namespace Go.Proofs.YtcjgkmhpeedhiaaGreatDoor
namespace Pk
open Go.ChangeShapes Go.WideShapes Go.ChangeAt Go.RowKit
set_option linter.unusedSimpArgs false
set_option linter.unusedVariables false

structure Bt (c:Nat) (w w':World):Prop where
 os:w'.os=w.os
 tape:w'.tape=w.tape
 output:w'.output=w.output
 size:w.heap.size≤w'.heap.size
 block:∀k,k<w.heap.size→k≠c→w'.heap[k]? =w.heap[k]?

theorem Bt.refl (c:Nat) (w:World):Bt c w w:=⟨rfl,rfl,rfl,Nat.le_refl _,fun _ _ _=>rfl⟩

theorem Bt.trans {c:Nat} {a b d:World} (h:Bt c a b) (g:Bt c b d):Bt c a d:=
 ⟨g.os.trans h.os,g.tape.trans h.tape,g.output.trans h.output,Nat.le_trans h.size g.size,fun k hk hc=>(g.block k (Nat.lt_of_lt_of_le hk h.size) hc).trans (h.block k hk hc)⟩

theorem Bt.of {c B:Nat} {w w':World} (M:Mv c w w') (L:Below B w w'):Bt c w w':=⟨L.os,L.tape,L.output,Nat.le_of_eq M.1.symm,fun k _ hc=>M.2 k hc⟩

theorem Bt.on {c:Nat} {w w':World} (L:Below w.heap.size w w'):Bt c w w':=⟨L.os,L.tape,L.output,L.size,fun k hk _=>L.block k hk⟩

theorem Bt.alloc {c:Nat} {a w:World} (h:Bt c a w) (o:Obj):Bt c a (w.alloc o):=h.trans (Bt.on (new_below w o))

theorem Bt.set {c:Nat} {a w:World} (h:Bt c a w) (i:Nat) (u:Value):Bt c a (w.setCell ⟨c,i,none⟩ u):=by
 have L:=(Below.refl 0 w).setCell (p:=⟨c,i,none⟩) (Nat.zero_le _) u
 refine h.trans ⟨L.os,L.tape,L.output,by rw[World.size_setCell];exact Nat.le_refl _,fun k _ hc=>Below.heap_setCell w ⟨c,i,none⟩ u k hc⟩

theorem Bt.below {c B:Nat} {w w':World} (h:Bt c w w') (hB:B≤c) (h2:B≤w.heap.size):Below B w w':=⟨h.os,h.tape,h.output,h.size,fun k hk=>h.block k (by omega) (by omega)⟩

theorem Bt.keep {c b:Nat} {w w':World} {x:Obj} (h:Bt c w w') (m:w.heap[b]? =some x) (hne:b≠c):w'.heap[b]? =some x:=(h.block b (lt_of m) hne).trans m

theorem Bt.own {c:Nat} {w w':World} {base e z n:Nat} {v:Value} {xs:List Value} (h:Bt c w w') (O:w.ownsRow base e z v n xs) (hne:v.ownBlock≠some c):w'.ownsRow base e z v n xs:=by
 obtain⟨hl,h2⟩:=O
 refine⟨hl,?_⟩
 rcases h2 with h2|⟨g',cap',cur,hv,hg,hh,h1,h3,h4,h5⟩
 ·exact Or.inl h2
 ·subst hv
  have hne2:g'≠c:=fun e=>hne (by rw[e];rfl)
  exact Or.inr ⟨g',cap',cur,rfl,hg,h.keep hh hne2,h1,h3,h4,h5⟩

theorem Bt.runs {c:Nat} {w w':World} (h:Bt c w w') (R:Runs w) (hne:6≠c):Runs w':=by
 intro i hi
 rw[World.cell?_of_block (a:=⟨6,i,none⟩) (h.block _ R.lt hne)]
 exact R i hi

theorem RdI.lt {c:Nat} {s:ByteArray} {a:Nat} {v:Value} {w:World} (h:RdI c s a v w):c<w.heap.size:=lt_of h

theorem RdI.alloc {c:Nat} {s:ByteArray} {a:Nat} {v:Value} {w:World} (h:RdI c s a v w) (o:Obj):RdI c s a v (w.alloc o):=heap_old h o

end Pk
end Go.Proofs.YtcjgkmhpeedhiaaGreatDoor

/- The contract of the program's reader of a symbol. -/
namespace Go.Proofs.YtcjgkmhpeedhiaaGreatDoor
namespace Pk
open Go.ChangeShapes Go.WideShapes Go.ChangeAt Go.RowKit
open Math (bitAt lowAt topAt symAt symLen)
set_option linter.unusedSimpArgs false
set_option linter.unusedVariables false

def SymEnd (s:ByteArray) (a c:Nat) (v:Value) (e:Ending) (w:World):Prop:=
 (8*s.size<a+symLen s a→e=fault 1)∧(¬8*s.size<a+symLen s a→285<symAt s a→e=fault 3)∧(¬8*s.size<a+symLen s a→¬285<symAt s a→e= .returned (.int .i64 (symAt s a:Nat))∧RdI c s (a+symLen s a) v w)

theorem Bt.drewN {c:Nat} {a w:World} (h:Bt c a w) (n:Nat):Bt c a (w.drewN n):=⟨h.os,h.tape,h.output,h.size,h.block⟩

theorem Bt.drew {c:Nat} {a w:World} (h:Bt c a w):Bt c a w.drew:=⟨h.os,h.tape,h.output,h.size,h.block⟩

theorem symLen_ge (s:ByteArray) (a:Nat):7≤symLen s a:=by unfold symLen;split<;>(try split)<;>omega

theorem sym_0 (s:ByteArray) (a:Nat) (h:topAt s a 7<24):symAt s a=256+topAt s a 7∧symLen s a=7:=by
 unfold symAt symLen
 rw[if_pos h,if_pos h]
 exact⟨rfl,rfl⟩

theorem sym_1 (s:ByteArray) (a:Nat) (h:24≤topAt s a 7) (h1:topAt s a 8<192):symAt s a=topAt s a 8-48∧symLen s a=8:=by
 unfold symAt symLen
 simp only[if_neg (show ¬topAt s a 7<24 by omega),if_pos h1,if_pos (show topAt s a 8<200 by omega)]
 exact⟨trivial,trivial⟩

theorem sym_2 (s:ByteArray) (a:Nat) (h:24≤topAt s a 7) (h1:192≤topAt s a 8) (h2:topAt s a 8<200):symAt s a=280+topAt s a 8-192∧symLen s a=8:=by
 unfold symAt symLen
 simp only[if_neg (show ¬topAt s a 7<24 by omega),if_neg (show ¬topAt s a 8<192 by omega),if_pos h2]
 exact⟨trivial,trivial⟩

theorem sym_3 (s:ByteArray) (a:Nat) (h:24≤topAt s a 7) (h2:200≤topAt s a 8):symAt s a=144+topAt s a 9-400∧symLen s a=9:=by
 unfold symAt symLen
 simp only[if_neg (show ¬topAt s a 7<24 by omega),if_neg (show ¬topAt s a 8<192 by omega),if_neg (show ¬topAt s a 8<200 by omega)]
 exact⟨trivial,trivial⟩

theorem len_8 (s:ByteArray) (a:Nat) (h:24≤topAt s a 7):8≤symLen s a:=by unfold symLen;rw[if_neg (by omega)];split<;>omega

theorem top_1 (s:ByteArray) (a:Nat):topAt s a 1=bitAt s a:=by show 2*0+bitAt s (a+0)=_;rw[Nat.add_zero];omega

theorem or_0 (x:Nat) (h:x<2^30):bits .or .i64 (IntKind.i64.wrap 0) (x:Int)=(x:Int):=by
 have e:IntKind.i64.wrap 0=((0:Nat):Int):=rfl
 rw[e,Math.bits_or_i64 0 x (by omega) (by omega),Nat.zero_or]

theorem or_s1 (s:ByteArray) (a n:Nat) (h:n≤20):bits .or .i64 (IntKind.i64.wrap ((topAt s a n:Nat)*2)) (topAt s (a+n) 1:Nat)=(topAt s a (n+1):Nat):=by
 have h2:=or_top (topAt s a n) (bitAt s (a+n)) n (Math.topAt_lt s a n) (Math.bitAt_le s (a+n)) (by omega)
 have hp:=pow_30 n (by omega)
 have hl:=Math.topAt_lt s a n
 have e:IntKind.i64.wrap (((topAt s a n:Nat):Int)*2)=((topAt s a n:Nat):Int)*2:=by rw[IntKind.wrap_i64];omega
 have e2:wrap64 (((topAt s a n:Nat):Int)*2)=((topAt s a n:Nat):Int)*2:=by unfold wrap64;omega
 rw[top_1,e,←e2,h2]
 rfl

theorem or_s2 (s:ByteArray) (a:Nat):bits .or .i64 (IntKind.i64.wrap (topAt s a 8:Nat)) (topAt s (a+8) 0:Nat)=(topAt s a 8:Nat):=by
 have h:=Math.topAt_lt s a 8
 have e:IntKind.i64.wrap (topAt s a 8:Nat)=(topAt s a 8:Nat):=by rw[IntKind.wrap_i64];omega
 rw[e,show topAt s (a+8) 0=0 from rfl,Math.bits_or_i64 _ 0 (by omega) (by omega),Nat.or_zero]

set_option maxRecDepth 100000 in
set_option maxHeartbeats 4000000 in
theorem symI_val (B c:Nat) (s:ByteArray) (a:Nat) (v:Value) (w:World) (hs:s.size≤100000) (hB:B≤c) (hB2:B≤w.heap.size) (ha:a≤8*s.size) (R:Runs w) (H:RdI c s a v w):
 Calls Tryz.prog 140 #[.pointer (some ⟨c,0,none⟩)] w fun e w'=>SymEnd s a c v e w'∧Bt c w w':=by
 have r0:=R 0 (by omega);have r1:=R 1 (by omega);have r2:=R 2 (by omega);have r3:=R 3 (by omega)
 have r4:=R 4 (by omega);have r5:=R 5 (by omega);have r6:=R 6 (by omega);have r7:=R 7 (by omega)
 have r8:=R 8 (by omega);have r9:=R 9 (by omega);have r10:=R 10 (by omega);have r11:=R 11 (by omega)
 have r12:=R 12 (by omega);have r13:=R 13 (by omega);have r14:=R 14 (by omega);have r15:=R 15 (by omega)
 simp[runVals]at r0 r1 r2 r3 r4 r5 r6 r7 r8 r9 r10 r11 r12 r13 r14 r15
 have HRF:Hid (∀W,_):=fun W=>refuse_no 3 W
 have HRY:Hid (∀W,_):=fun W=>refuse_yes 3 W
 go_enter Tryz.func140,Tryz.ntmps140
 go_wp2
 clear r0 r1 r2 r3 r4 r5 r6 r7 r8 r9 r10 r11 r12 r13 r14 r15
 go_loopw [3,4,5,10] (fun y t q i wr=>∃j:Nat,j≤3∧i= .int .i64 j∧(j=0→y= .int .i64 0∧t= .int .i64 0∧RdI c s a v wr)∧(j=1→y= .int .i64 (topAt s a 7:Nat)∧t= .int .i64 7∧RdI c s (a+7) v wr∧a+7≤8*s.size∧24≤topAt s a 7)∧(j=2→y= .int .i64 (topAt s a 8:Nat)∧t= .int .i64 8∧RdI c s (a+8) v wr∧a+8≤8*s.size∧24≤topAt s a 7∧192≤topAt s a 8)∧(j=3→y= .int .i64 (topAt s a 8:Nat)∧t= .int .i64 8∧RdI c s (a+8) v wr∧a+8≤8*s.size∧24≤topAt s a 7∧200≤topAt s a 8)∧Hid (Bt c w wr)) (fun _ _ _ i _=>4-(intOf i).toNat)
 case atStart=>exact⟨0,by omega,rfl,fun _=>⟨rfl,rfl,H⟩,fun h=>by omega,fun h=>by omega,fun h=>by omega,Bt.refl _ _⟩
 case round=>
  obtain⟨j,hj,rfl,h0,h1,h2,h3,L⟩:=hrel
  have hj4:j=0∨j=1∨j=2∨j=3:=by omega
  rcases hj4 with rfl|rfl|rfl|rfl
  ·obtain⟨rfl,rfl,R0⟩:=h0 rfl
   clear h0 h1 h2 h3
   rw[show((0:Nat):Int)=0 from rfl]
   have hix:=run_at0 wr
   have hne:wr.heap.size≠c:=fun h=>by have:=lt_of (show wr.heap[c]? =some _ from R0);omega
   have L1:=L.out.alloc (.cells #[.int .i64 256,.int .i64 279,.int .i64 7,.int .i64 0] 191)
   have mR:=heap_new wr (.cells #[.int .i64 256,.int .i64 279,.int .i64 7,.int .i64 0] 191)
   have R1:=R0.alloc (.cells #[.int .i64 256,.int .i64 279,.int .i64 7,.int .i64 0] 191)
   have HE8:Hid (topAt s a 8=2*topAt s a 7+bitAt s (a+7)):=rfl
   have HE9:Hid (topAt s a 9=2*topAt s a 8+bitAt s (a+8)):=rfl
   have hb7:=Math.bitAt_le s (a+7);have hb8:=Math.bitAt_le s (a+8)
   have hx7:=Math.topAt_lt s a 7;have hx8:=Math.topAt_lt s a 8;have hx9:=Math.topAt_lt s a 9
   have hc2:(wr.alloc (.cells #[.int .i64 256,.int .i64 279,.int .i64 7,.int .i64 0] 191)).cell? ⟨wr.heap.size,2,none⟩=some (.int .i64 7):=cell_at mR 2
   go_wp2
   generalize HW1:wr.alloc (.cells #[.int .i64 256,.int .i64 279,.int .i64 7,.int .i64 0] 191)=W1 at*
   by_cases hcut:8*s.size<a+7
   ·have HC:Hid (∀W:World,RdI c s a v W→Calls Tryz.prog 152 #[.pointer (some ⟨c,0,none⟩),.int .i64 7] W fun e w'=>e=fault 1∧Mv c W w'∧Below 0 W w'):=fun W h=>topI_cut 0 c s a 7 v W hs (Nat.zero_le _) (by omega) (by omega) hcut h
    refine wp_region_held_drew (S:=(fun w'=>w'.cell? ⟨wr.heap.size,2,none⟩=some (.int .i64 7))) (by kernel_rfl) ?_ (fun hHeld=> ?_)
    ·exact hc2
    refine wpAnyH_take (i:=0) (oi:= { dst:=some 17,op:=Op.move (Operand.tmp 3),type:=3,pos:= "l03_pack.go:340",after:= #[],guard:=none }) (v:= ?_) rfl (by kernel_rfl) (by kernel_rfl) (by kernel_rfl) (fun _ _ _ h=>h) (Or.inl ⟨by rfl,?_⟩) (by assumption) ?_
    rotate_left 1
    ·(intro wS hSw;(try dsimp only at hSw);go_simp;try (with_reducible rfl))
    (try simp only[Act.put,List.setIfInBounds_toArray,List.set_cons_zero,List.set_cons_succ])
    refine wpAnyH_take (i:=1) (oi:= { dst:=some 18,op:=Op.move (Operand.tmp 8),type:=3,pos:= "l03_pack.go:340",after:= #[],guard:=none }) (v:= ?_) rfl (by kernel_rfl) (by kernel_rfl) (by kernel_rfl) (fun _ _ _ h=>h) (Or.inl ⟨by rfl,?_⟩) (by assumption) ?_
    rotate_left 1
    ·(intro wS hSw;(try dsimp only at hSw);go_simp;try (with_reducible rfl))
    (try simp only[Act.put,List.setIfInBounds_toArray,List.set_cons_zero,List.set_cons_succ])
    refine wpAnyH_take (i:=2) (oi:= { dst:=some 19,op:=Op.binOp BinOp.shl 3 (Operand.tmp 17) (Operand.tmp 18) 3,type:=3,pos:= "l03_pack.go:340",after:= #[{ on:=0,ground:=Ground.data },{ on:=1,ground:=Ground.data }],guard:=none }) (v:= ?_) rfl (by kernel_rfl) (by kernel_rfl) (by kernel_rfl) (fun _ _ _ h=>h) (Or.inl ⟨by rfl,?_⟩) (by assumption) ?_
    rotate_left 1
    ·(intro wS hSw;(try dsimp only at hSw);go_simp;try (with_reducible rfl))
    (try simp only[Act.put,List.setIfInBounds_toArray,List.set_cons_zero,List.set_cons_succ])
    refine wpAnyH_take (i:=3) (oi:= { dst:=some 20,op:=Op.move (Operand.tmp 0),type:=184,pos:= "l03_pack.go:340",after:= #[],guard:=none }) (v:= ?_) rfl (by kernel_rfl) (by kernel_rfl) (by kernel_rfl) (fun _ _ _ h=>h) (Or.inl ⟨by rfl,?_⟩) (by assumption) ?_
    rotate_left 1
    ·(intro wS hSw;(try dsimp only at hSw);go_simp;try (with_reducible rfl))
    (try simp only[Act.put,List.setIfInBounds_toArray,List.set_cons_zero,List.set_cons_succ])
    refine wpAnyH_take (i:=4) (oi:= { dst:=some 21,op:=Op.move (Operand.tmp 8),type:=3,pos:= "l03_pack.go:340",after:= #[],guard:=none }) (v:= ?_) rfl (by kernel_rfl) (by kernel_rfl) (by kernel_rfl) (fun _ _ _ h=>h) (Or.inl ⟨by rfl,?_⟩) (by assumption) ?_
    rotate_left 1
    ·(intro wS hSw;(try dsimp only at hSw);go_simp;try (with_reducible rfl))
    (try simp only[Act.put,List.setIfInBounds_toArray,List.set_cons_zero,List.set_cons_succ])
    refine wpAnyH_take (i:=7) (oi:= { dst:=some 24,op:=Op.fieldAddr 191 (Operand.tmp 7) 2,type:=0,pos:= "l03_pack.go:340",after:= #[{ on:=9,ground:=Ground.gcOnly Departure.lateStores }],guard:=none }) (v:= ?_) rfl (by kernel_rfl) (by kernel_rfl) (by kernel_rfl) (fun _ _ _ h=>h) (Or.inl ⟨by rfl,?_⟩) (by assumption) ?_
    rotate_left 1
    ·(intro wS hSw;(try dsimp only at hSw);go_simp;try (with_reducible rfl))
    (try simp only[Act.put,List.setIfInBounds_toArray,List.set_cons_zero,List.set_cons_succ])
    refine wpAnyH_take (i:=8) (oi:= { dst:=some 25,op:=Op.load 3 (Operand.tmp 24),type:=3,pos:= "l03_pack.go:340",after:= #[{ on:=7,ground:=Ground.data },{ on:=9,ground:=Ground.gcOnly Departure.lateStores }],guard:=none }) (v:= ?_) rfl (by kernel_rfl) (by kernel_rfl) (by kernel_rfl) (fun _ _ _ h=>h) (Or.inl ⟨by rfl,?_⟩) (by assumption) ?_
    rotate_left 1
    ·(intro wS hSw;(try dsimp only at hSw);go_simp;try (with_reducible rfl))
    (try simp only[Act.put,List.setIfInBounds_toArray,List.set_cons_zero,List.set_cons_succ])
    refine wpAnyH_ready (rs:= [5]) (by kernel_rfl) (by simp) ?_
    refine AllReadyH.cons (o:= { dst:=some 22,op:=Op.call { callee:=Callee.value (Operand.func 152),args:= #[Operand.tmp 20,Operand.tmp 21],argTypes:= #[184,3] },type:=3,pos:= "l03_pack.go:340",after:= #[{ on:=3,ground:=Ground.data },{ on:=4,ground:=Ground.data }],guard:=none }) rfl (fun K hK=> ?_) AllReadyH.nil
    go_simp
    refine(HC.out W1.drew R1).mono ?_
    rintro e x1 ⟨rfl,M1,L2⟩
    have hl:=symLen_ge s a
    exact⟨rfl,⟨fun _=>rfl,fun h=>absurd (by omega) h,fun h=>absurd (by omega) h⟩,L1.drew.trans (Bt.of M1 L2)⟩
   ·have HT:Hid (∀W:World,RdI c s a v W→Calls Tryz.prog 152 #[.pointer (some ⟨c,0,none⟩),.int .i64 7] W fun e w'=>e= .returned (.int .i64 (topAt s a 7:Nat))∧RdI c s (a+7) v w'∧Mv c W w'∧Below 0 W w'):=fun W h=>topI_ok 0 c s a 7 v W hs (Nat.zero_le _) (by omega) (by omega) h
    go_region_held3 (fun w'=>w'.cell? ⟨wr.heap.size,2,none⟩=some (.int .i64 7)) (go_keep) (first
     |(go_at_call 152;refine(HT.out _ ?_).mono ?_;(first|exact R1|exact R1.drewN 1);rintro e x5 ⟨rfl,R5,M5,L5⟩;have B5:Bt c w x5:=(by first|exact L1.trans (Bt.of M5 L5)|exact L1.drew.trans (Bt.of M5 L5)|exact(L1.drewN _).trans (Bt.of M5 L5));have mR5:x5.heap[wr.heap.size]? =some (.cells #[.int .i64 256,.int .i64 279,.int .i64 7,.int .i64 0] 191):=(M5.2 _ hne).trans mR;have t5:x5.cell? ⟨wr.heap.size,2,none⟩=some (.int .i64 7):=cell_at mR5 2))
    all_goals
     have hor:=or_0 (topAt s a 7) (by omega)
     rw[hor]
     have g8:=HE8.out;have g9:=HE9.out
     have hw1:IntKind.i64.wrap ((256:Int)+(topAt s a 7:Nat))=(256:Int)+(topAt s a 7:Nat):=by rw[IntKind.wrap_i64];omega
     have hw2:IntKind.i64.wrap ((256:Int)+(topAt s a 7:Nat))=(256:Int)+(topAt s a 7:Nat):=by rw[IntKind.wrap_i64];omega
     have hen:(256:Int)+(topAt s a 7:Nat)=((256+topAt s a 7:Nat):Int):=by omega
     have HEN:Hid (_):=hen;clear hen
     have HG8:Hid (_):=g8;have HG9:Hid (_):=g9;clear g8 g9 HE8 HE9
     have c0:x5.cell? ⟨wr.heap.size,0,none⟩=some (.int .i64 256):=cell_at mR5 0
     have c1:x5.cell? ⟨wr.heap.size,1,none⟩=some (.int .i64 279):=cell_at mR5 1
     have c3:x5.cell? ⟨wr.heap.size,3,none⟩=some (.int .i64 0):=cell_at mR5 3
     have HR5:Hid (_):=R5;clear hor
     clear L1 mR R1 hc2 HT M5 L5 t5 mR5 R5 R0 hix L
     by_cases hbr:topAt s a 7<24
     ·skip
      have hsy:=sym_0 s a hbr
      have hd:((256:Int)+(topAt s a 7:Nat)≤279):=by omega
      have hq:¬((285:Int)<(256:Int)+(topAt s a 7:Nat)):=by omega
      go_wp2_with fail
      refine(HRF.out _).mono ?_
      rintro e x6 ⟨rfl,rfl⟩
      go_wp2
      go_ret
      exact⟨⟨fun h=>absurd h (by omega),fun _ h=>absurd h (by omega),fun _ _=>⟨by rw[hsy.1,←HEN.out];rfl,by rw[hsy.2];exact HR5.out⟩⟩,B5⟩
     ·have hd:¬((256:Int)+(topAt s a 7:Nat)≤279):=by omega
      go_wp2
      have R5:=HR5.out
      go_roundw
      case rel=>exact⟨1,by omega,by rfl,fun h=>by omega,fun _=>⟨rfl,rfl,R5,by omega,by omega⟩,fun h=>by omega,fun h=>by omega,B5⟩
      case measure=>simp[intOf]
  ·obtain⟨rfl,rfl,R0,ha7,h24⟩:=h1 rfl
   clear h0 h1 h2 h3
   rw[show((1:Nat):Int)=1 from rfl]
   have hix:=run_at1 wr
   have hne:wr.heap.size≠c:=fun h=>by have:=lt_of (show wr.heap[c]? =some _ from R0);omega
   have L1:=L.out.alloc (.cells #[.int .i64 0,.int .i64 143,.int .i64 8,.int .i64 48] 191)
   have mR:=heap_new wr (.cells #[.int .i64 0,.int .i64 143,.int .i64 8,.int .i64 48] 191)
   have R1:=R0.alloc (.cells #[.int .i64 0,.int .i64 143,.int .i64 8,.int .i64 48] 191)
   have HE8:Hid (topAt s a 8=2*topAt s a 7+bitAt s (a+7)):=rfl
   have HE9:Hid (topAt s a 9=2*topAt s a 8+bitAt s (a+8)):=rfl
   have hb7:=Math.bitAt_le s (a+7);have hb8:=Math.bitAt_le s (a+8)
   have hx7:=Math.topAt_lt s a 7;have hx8:=Math.topAt_lt s a 8;have hx9:=Math.topAt_lt s a 9
   have hc2:(wr.alloc (.cells #[.int .i64 0,.int .i64 143,.int .i64 8,.int .i64 48] 191)).cell? ⟨wr.heap.size,2,none⟩=some (.int .i64 8):=cell_at mR 2
   go_wp2
   generalize HW1:wr.alloc (.cells #[.int .i64 0,.int .i64 143,.int .i64 8,.int .i64 48] 191)=W1 at*
   by_cases hcut:8*s.size<(a+7)+1
   ·have HC:Hid (∀W:World,RdI c s (a+7) v W→Calls Tryz.prog 152 #[.pointer (some ⟨c,0,none⟩),.int .i64 1] W fun e w'=>e=fault 1∧Mv c W w'∧Below 0 W w'):=fun W h=>topI_cut 0 c s (a+7) 1 v W hs (Nat.zero_le _) (by omega) (by omega) hcut h
    refine wp_region_held_drew (S:=(fun w'=>w'.cell? ⟨wr.heap.size,2,none⟩=some (.int .i64 8))) (by kernel_rfl) ?_ (fun hHeld=> ?_)
    ·exact hc2
    refine wpAnyH_take (i:=0) (oi:= { dst:=some 17,op:=Op.move (Operand.tmp 3),type:=3,pos:= "l03_pack.go:340",after:= #[],guard:=none }) (v:= ?_) rfl (by kernel_rfl) (by kernel_rfl) (by kernel_rfl) (fun _ _ _ h=>h) (Or.inl ⟨by rfl,?_⟩) (by assumption) ?_
    rotate_left 1
    ·(intro wS hSw;(try dsimp only at hSw);go_simp;try (with_reducible rfl))
    (try simp only[Act.put,List.setIfInBounds_toArray,List.set_cons_zero,List.set_cons_succ])
    refine wpAnyH_take (i:=1) (oi:= { dst:=some 18,op:=Op.move (Operand.tmp 8),type:=3,pos:= "l03_pack.go:340",after:= #[],guard:=none }) (v:= ?_) rfl (by kernel_rfl) (by kernel_rfl) (by kernel_rfl) (fun _ _ _ h=>h) (Or.inl ⟨by rfl,?_⟩) (by assumption) ?_
    rotate_left 1
    ·(intro wS hSw;(try dsimp only at hSw);go_simp;try (with_reducible rfl))
    (try simp only[Act.put,List.setIfInBounds_toArray,List.set_cons_zero,List.set_cons_succ])
    refine wpAnyH_take (i:=2) (oi:= { dst:=some 19,op:=Op.binOp BinOp.shl 3 (Operand.tmp 17) (Operand.tmp 18) 3,type:=3,pos:= "l03_pack.go:340",after:= #[{ on:=0,ground:=Ground.data },{ on:=1,ground:=Ground.data }],guard:=none }) (v:= ?_) rfl (by kernel_rfl) (by kernel_rfl) (by kernel_rfl) (fun _ _ _ h=>h) (Or.inl ⟨by rfl,?_⟩) (by assumption) ?_
    rotate_left 1
    ·(intro wS hSw;(try dsimp only at hSw);go_simp;try (with_reducible rfl))
    (try simp only[Act.put,List.setIfInBounds_toArray,List.set_cons_zero,List.set_cons_succ])
    refine wpAnyH_take (i:=3) (oi:= { dst:=some 20,op:=Op.move (Operand.tmp 0),type:=184,pos:= "l03_pack.go:340",after:= #[],guard:=none }) (v:= ?_) rfl (by kernel_rfl) (by kernel_rfl) (by kernel_rfl) (fun _ _ _ h=>h) (Or.inl ⟨by rfl,?_⟩) (by assumption) ?_
    rotate_left 1
    ·(intro wS hSw;(try dsimp only at hSw);go_simp;try (with_reducible rfl))
    (try simp only[Act.put,List.setIfInBounds_toArray,List.set_cons_zero,List.set_cons_succ])
    refine wpAnyH_take (i:=4) (oi:= { dst:=some 21,op:=Op.move (Operand.tmp 8),type:=3,pos:= "l03_pack.go:340",after:= #[],guard:=none }) (v:= ?_) rfl (by kernel_rfl) (by kernel_rfl) (by kernel_rfl) (fun _ _ _ h=>h) (Or.inl ⟨by rfl,?_⟩) (by assumption) ?_
    rotate_left 1
    ·(intro wS hSw;(try dsimp only at hSw);go_simp;try (with_reducible rfl))
    (try simp only[Act.put,List.setIfInBounds_toArray,List.set_cons_zero,List.set_cons_succ])
    refine wpAnyH_take (i:=7) (oi:= { dst:=some 24,op:=Op.fieldAddr 191 (Operand.tmp 7) 2,type:=0,pos:= "l03_pack.go:340",after:= #[{ on:=9,ground:=Ground.gcOnly Departure.lateStores }],guard:=none }) (v:= ?_) rfl (by kernel_rfl) (by kernel_rfl) (by kernel_rfl) (fun _ _ _ h=>h) (Or.inl ⟨by rfl,?_⟩) (by assumption) ?_
    rotate_left 1
    ·(intro wS hSw;(try dsimp only at hSw);go_simp;try (with_reducible rfl))
    (try simp only[Act.put,List.setIfInBounds_toArray,List.set_cons_zero,List.set_cons_succ])
    refine wpAnyH_take (i:=8) (oi:= { dst:=some 25,op:=Op.load 3 (Operand.tmp 24),type:=3,pos:= "l03_pack.go:340",after:= #[{ on:=7,ground:=Ground.data },{ on:=9,ground:=Ground.gcOnly Departure.lateStores }],guard:=none }) (v:= ?_) rfl (by kernel_rfl) (by kernel_rfl) (by kernel_rfl) (fun _ _ _ h=>h) (Or.inl ⟨by rfl,?_⟩) (by assumption) ?_
    rotate_left 1
    ·(intro wS hSw;(try dsimp only at hSw);go_simp;try (with_reducible rfl))
    (try simp only[Act.put,List.setIfInBounds_toArray,List.set_cons_zero,List.set_cons_succ])
    refine wpAnyH_ready (rs:= [5]) (by kernel_rfl) (by simp) ?_
    refine AllReadyH.cons (o:= { dst:=some 22,op:=Op.call { callee:=Callee.value (Operand.func 152),args:= #[Operand.tmp 20,Operand.tmp 21],argTypes:= #[184,3] },type:=3,pos:= "l03_pack.go:340",after:= #[{ on:=3,ground:=Ground.data },{ on:=4,ground:=Ground.data }],guard:=none }) rfl (fun K hK=> ?_) AllReadyH.nil
    go_simp
    refine(HC.out W1.drew R1).mono ?_
    rintro e x1 ⟨rfl,M1,L2⟩
    have hl:=len_8 s a h24
    exact⟨rfl,⟨fun _=>rfl,fun h=>absurd (by omega) h,fun h=>absurd (by omega) h⟩,L1.drew.trans (Bt.of M1 L2)⟩
   ·have HT:Hid (∀W:World,RdI c s (a+7) v W→Calls Tryz.prog 152 #[.pointer (some ⟨c,0,none⟩),.int .i64 1] W fun e w'=>e= .returned (.int .i64 (topAt s (a+7) 1:Nat))∧RdI c s ((a+7)+1) v w'∧Mv c W w'∧Below 0 W w'):=fun W h=>topI_ok 0 c s (a+7) 1 v W hs (Nat.zero_le _) (by omega) (by omega) h
    go_region_held3 (fun w'=>w'.cell? ⟨wr.heap.size,2,none⟩=some (.int .i64 8)) (go_keep) (first
     |(go_at_call 152;refine(HT.out _ ?_).mono ?_;(first|exact R1|exact R1.drewN 1);rintro e x5 ⟨rfl,R5,M5,L5⟩;have B5:Bt c w x5:=(by first|exact L1.trans (Bt.of M5 L5)|exact L1.drew.trans (Bt.of M5 L5)|exact(L1.drewN _).trans (Bt.of M5 L5));have mR5:x5.heap[wr.heap.size]? =some (.cells #[.int .i64 0,.int .i64 143,.int .i64 8,.int .i64 48] 191):=(M5.2 _ hne).trans mR;have t5:x5.cell? ⟨wr.heap.size,2,none⟩=some (.int .i64 8):=cell_at mR5 2))
    all_goals
     have hor:=or_s1 s a 7 (by omega)
     rw[hor]
     rw[show topAt s a (7+1)=topAt s a 8 from rfl]
     have g8:=HE8.out;have g9:=HE9.out
     have hw1:IntKind.i64.wrap ((0:Int)+(topAt s a 8:Nat))=(0:Int)+(topAt s a 8:Nat):=by rw[IntKind.wrap_i64];omega
     have hw2:IntKind.i64.wrap (((topAt s a 8:Nat):Int)-48)=((topAt s a 8:Nat):Int)-48:=by rw[IntKind.wrap_i64];omega
     have hen:((topAt s a 8:Nat):Int)-48=((topAt s a 8-48:Nat):Int):=by omega
     have HEN:Hid (_):=hen;clear hen
     have HG8:Hid (_):=g8;have HG9:Hid (_):=g9;clear g8 g9 HE8 HE9
     have c0:x5.cell? ⟨wr.heap.size,0,none⟩=some (.int .i64 0):=cell_at mR5 0
     have c1:x5.cell? ⟨wr.heap.size,1,none⟩=some (.int .i64 143):=cell_at mR5 1
     have c3:x5.cell? ⟨wr.heap.size,3,none⟩=some (.int .i64 48):=cell_at mR5 3
     have HR5:Hid (_):=R5;clear hor
     clear L1 mR R1 hc2 HT M5 L5 t5 mR5 R5 R0 hix L
     by_cases hbr:topAt s a 8<192
     ·skip
      have hsy:=sym_1 s a h24 hbr
      have hd:(((topAt s a 8:Nat):Int)-48≤143):=by omega
      have hq:¬((285:Int)<((topAt s a 8:Nat):Int)-48):=by omega
      go_wp2_with fail
      refine(HRF.out _).mono ?_
      rintro e x6 ⟨rfl,rfl⟩
      go_wp2
      go_ret
      exact⟨⟨fun h=>absurd h (by omega),fun _ h=>absurd h (by omega),fun _ _=>⟨by rw[hsy.1,←HEN.out];rfl,by rw[hsy.2];exact HR5.out⟩⟩,B5⟩
     ·have hd:¬(((topAt s a 8:Nat):Int)-48≤143):=by omega
      go_wp2
      have R5:=HR5.out
      go_roundw
      case rel=>exact⟨2,by omega,by rfl,fun h=>by omega,fun h=>by omega,fun _=>⟨rfl,rfl,R5,by omega,h24,by omega⟩,fun h=>by omega,B5⟩
      case measure=>simp[intOf]
  ·obtain⟨rfl,rfl,R0,ha7,h24,h192⟩:=h2 rfl
   clear h0 h1 h2 h3
   rw[show((2:Nat):Int)=2 from rfl]
   have hix:=run_at2 wr
   have hne:wr.heap.size≠c:=fun h=>by have:=lt_of (show wr.heap[c]? =some _ from R0);omega
   have L1:=L.out.alloc (.cells #[.int .i64 280,.int .i64 287,.int .i64 8,.int .i64 192] 191)
   have mR:=heap_new wr (.cells #[.int .i64 280,.int .i64 287,.int .i64 8,.int .i64 192] 191)
   have R1:=R0.alloc (.cells #[.int .i64 280,.int .i64 287,.int .i64 8,.int .i64 192] 191)
   have HE8:Hid (topAt s a 8=2*topAt s a 7+bitAt s (a+7)):=rfl
   have HE9:Hid (topAt s a 9=2*topAt s a 8+bitAt s (a+8)):=rfl
   have hb7:=Math.bitAt_le s (a+7);have hb8:=Math.bitAt_le s (a+8)
   have hx7:=Math.topAt_lt s a 7;have hx8:=Math.topAt_lt s a 8;have hx9:=Math.topAt_lt s a 9
   have hc2:(wr.alloc (.cells #[.int .i64 280,.int .i64 287,.int .i64 8,.int .i64 192] 191)).cell? ⟨wr.heap.size,2,none⟩=some (.int .i64 8):=cell_at mR 2
   go_wp2
   generalize HW1:wr.alloc (.cells #[.int .i64 280,.int .i64 287,.int .i64 8,.int .i64 192] 191)=W1 at*
   ·have HT:Hid (∀W:World,RdI c s (a+8) v W→Calls Tryz.prog 152 #[.pointer (some ⟨c,0,none⟩),.int .i64 0] W fun e w'=>e= .returned (.int .i64 (topAt s (a+8) 0:Nat))∧RdI c s ((a+8)+0) v w'∧Mv c W w'∧Below 0 W w'):=fun W h=>topI_ok 0 c s (a+8) 0 v W hs (Nat.zero_le _) (by omega) (by omega) h
    go_region_held3 (fun w'=>w'.cell? ⟨wr.heap.size,2,none⟩=some (.int .i64 8)) (go_keep) (first
     |(go_at_call 152;refine(HT.out _ ?_).mono ?_;(first|exact R1|exact R1.drewN 1);rintro e x5 ⟨rfl,R5,M5,L5⟩;have B5:Bt c w x5:=(by first|exact L1.trans (Bt.of M5 L5)|exact L1.drew.trans (Bt.of M5 L5)|exact(L1.drewN _).trans (Bt.of M5 L5));have mR5:x5.heap[wr.heap.size]? =some (.cells #[.int .i64 280,.int .i64 287,.int .i64 8,.int .i64 192] 191):=(M5.2 _ hne).trans mR;have t5:x5.cell? ⟨wr.heap.size,2,none⟩=some (.int .i64 8):=cell_at mR5 2))
    all_goals
     have hor:=or_s2 s a
     rw[hor]
     have g8:=HE8.out;have g9:=HE9.out
     have hw1:IntKind.i64.wrap ((280:Int)+(topAt s a 8:Nat))=(280:Int)+(topAt s a 8:Nat):=by rw[IntKind.wrap_i64];omega
     have hw2:IntKind.i64.wrap ((280:Int)+(topAt s a 8:Nat)-192)=(280:Int)+(topAt s a 8:Nat)-192:=by rw[IntKind.wrap_i64];omega
     have hen:(280:Int)+(topAt s a 8:Nat)-192=((280+topAt s a 8-192:Nat):Int):=by omega
     have HEN:Hid (_):=hen;clear hen
     have HG8:Hid (_):=g8;have HG9:Hid (_):=g9;clear g8 g9 HE8 HE9
     have c0:x5.cell? ⟨wr.heap.size,0,none⟩=some (.int .i64 280):=cell_at mR5 0
     have c1:x5.cell? ⟨wr.heap.size,1,none⟩=some (.int .i64 287):=cell_at mR5 1
     have c3:x5.cell? ⟨wr.heap.size,3,none⟩=some (.int .i64 192):=cell_at mR5 3
     have HR5:Hid (_):=R5;clear hor
     clear L1 mR R1 hc2 HT M5 L5 t5 mR5 R5 R0 hix L
     by_cases hbr:topAt s a 8<200
     ·skip
      have hsy:=sym_2 s a h24 h192 hbr
      have hd:((280:Int)+(topAt s a 8:Nat)-192≤287):=by omega
      by_cases h285:285<280+topAt s a 8-192
      ·have hq:((285:Int)<(280:Int)+(topAt s a 8:Nat)-192):=by omega
       go_wp2_with fail
       refine(HRY.out _).mono ?_
       rintro e x6 ⟨rfl,rfl⟩
       exact⟨rfl,⟨fun h=>absurd h (by omega),fun _ _=>rfl,fun _ h=>absurd (by omega) h⟩,B5⟩
      ·skip
       have hq:¬((285:Int)<(280:Int)+(topAt s a 8:Nat)-192):=by omega
       go_wp2_with fail
       refine(HRF.out _).mono ?_
       rintro e x6 ⟨rfl,rfl⟩
       go_wp2
       go_ret
       exact⟨⟨fun h=>absurd h (by omega),fun _ h=>absurd h (by omega),fun _ _=>⟨by rw[hsy.1,←HEN.out];rfl,by rw[hsy.2];exact HR5.out⟩⟩,B5⟩
     ·have hd:¬((280:Int)+(topAt s a 8:Nat)-192≤287):=by omega
      go_wp2
      have R5:=HR5.out
      go_roundw
      case rel=>exact⟨3,by omega,by rfl,fun h=>by omega,fun h=>by omega,fun h=>by omega,fun _=>⟨rfl,rfl,R5,by omega,h24,by omega⟩,B5⟩
      case measure=>simp[intOf]
  ·obtain⟨rfl,rfl,R0,ha7,h24,h200⟩:=h3 rfl
   clear h0 h1 h2 h3
   rw[show((3:Nat):Int)=3 from rfl]
   have hix:=run_at3 wr
   have hne:wr.heap.size≠c:=fun h=>by have:=lt_of (show wr.heap[c]? =some _ from R0);omega
   have L1:=L.out.alloc (.cells #[.int .i64 144,.int .i64 255,.int .i64 9,.int .i64 400] 191)
   have mR:=heap_new wr (.cells #[.int .i64 144,.int .i64 255,.int .i64 9,.int .i64 400] 191)
   have R1:=R0.alloc (.cells #[.int .i64 144,.int .i64 255,.int .i64 9,.int .i64 400] 191)
   have HE8:Hid (topAt s a 8=2*topAt s a 7+bitAt s (a+7)):=rfl
   have HE9:Hid (topAt s a 9=2*topAt s a 8+bitAt s (a+8)):=rfl
   have hb7:=Math.bitAt_le s (a+7);have hb8:=Math.bitAt_le s (a+8)
   have hx7:=Math.topAt_lt s a 7;have hx8:=Math.topAt_lt s a 8;have hx9:=Math.topAt_lt s a 9
   have hc2:(wr.alloc (.cells #[.int .i64 144,.int .i64 255,.int .i64 9,.int .i64 400] 191)).cell? ⟨wr.heap.size,2,none⟩=some (.int .i64 9):=cell_at mR 2
   go_wp2
   generalize HW1:wr.alloc (.cells #[.int .i64 144,.int .i64 255,.int .i64 9,.int .i64 400] 191)=W1 at*
   by_cases hcut:8*s.size<(a+8)+1
   ·have HC:Hid (∀W:World,RdI c s (a+8) v W→Calls Tryz.prog 152 #[.pointer (some ⟨c,0,none⟩),.int .i64 1] W fun e w'=>e=fault 1∧Mv c W w'∧Below 0 W w'):=fun W h=>topI_cut 0 c s (a+8) 1 v W hs (Nat.zero_le _) (by omega) (by omega) hcut h
    refine wp_region_held_drew (S:=(fun w'=>w'.cell? ⟨wr.heap.size,2,none⟩=some (.int .i64 9))) (by kernel_rfl) ?_ (fun hHeld=> ?_)
    ·exact hc2
    refine wpAnyH_take (i:=0) (oi:= { dst:=some 17,op:=Op.move (Operand.tmp 3),type:=3,pos:= "l03_pack.go:340",after:= #[],guard:=none }) (v:= ?_) rfl (by kernel_rfl) (by kernel_rfl) (by kernel_rfl) (fun _ _ _ h=>h) (Or.inl ⟨by rfl,?_⟩) (by assumption) ?_
    rotate_left 1
    ·(intro wS hSw;(try dsimp only at hSw);go_simp;try (with_reducible rfl))
    (try simp only[Act.put,List.setIfInBounds_toArray,List.set_cons_zero,List.set_cons_succ])
    refine wpAnyH_take (i:=1) (oi:= { dst:=some 18,op:=Op.move (Operand.tmp 8),type:=3,pos:= "l03_pack.go:340",after:= #[],guard:=none }) (v:= ?_) rfl (by kernel_rfl) (by kernel_rfl) (by kernel_rfl) (fun _ _ _ h=>h) (Or.inl ⟨by rfl,?_⟩) (by assumption) ?_
    rotate_left 1
    ·(intro wS hSw;(try dsimp only at hSw);go_simp;try (with_reducible rfl))
    (try simp only[Act.put,List.setIfInBounds_toArray,List.set_cons_zero,List.set_cons_succ])
    refine wpAnyH_take (i:=2) (oi:= { dst:=some 19,op:=Op.binOp BinOp.shl 3 (Operand.tmp 17) (Operand.tmp 18) 3,type:=3,pos:= "l03_pack.go:340",after:= #[{ on:=0,ground:=Ground.data },{ on:=1,ground:=Ground.data }],guard:=none }) (v:= ?_) rfl (by kernel_rfl) (by kernel_rfl) (by kernel_rfl) (fun _ _ _ h=>h) (Or.inl ⟨by rfl,?_⟩) (by assumption) ?_
    rotate_left 1
    ·(intro wS hSw;(try dsimp only at hSw);go_simp;try (with_reducible rfl))
    (try simp only[Act.put,List.setIfInBounds_toArray,List.set_cons_zero,List.set_cons_succ])
    refine wpAnyH_take (i:=3) (oi:= { dst:=some 20,op:=Op.move (Operand.tmp 0),type:=184,pos:= "l03_pack.go:340",after:= #[],guard:=none }) (v:= ?_) rfl (by kernel_rfl) (by kernel_rfl) (by kernel_rfl) (fun _ _ _ h=>h) (Or.inl ⟨by rfl,?_⟩) (by assumption) ?_
    rotate_left 1
    ·(intro wS hSw;(try dsimp only at hSw);go_simp;try (with_reducible rfl))
    (try simp only[Act.put,List.setIfInBounds_toArray,List.set_cons_zero,List.set_cons_succ])
    refine wpAnyH_take (i:=4) (oi:= { dst:=some 21,op:=Op.move (Operand.tmp 8),type:=3,pos:= "l03_pack.go:340",after:= #[],guard:=none }) (v:= ?_) rfl (by kernel_rfl) (by kernel_rfl) (by kernel_rfl) (fun _ _ _ h=>h) (Or.inl ⟨by rfl,?_⟩) (by assumption) ?_
    rotate_left 1
    ·(intro wS hSw;(try dsimp only at hSw);go_simp;try (with_reducible rfl))
    (try simp only[Act.put,List.setIfInBounds_toArray,List.set_cons_zero,List.set_cons_succ])
    refine wpAnyH_take (i:=7) (oi:= { dst:=some 24,op:=Op.fieldAddr 191 (Operand.tmp 7) 2,type:=0,pos:= "l03_pack.go:340",after:= #[{ on:=9,ground:=Ground.gcOnly Departure.lateStores }],guard:=none }) (v:= ?_) rfl (by kernel_rfl) (by kernel_rfl) (by kernel_rfl) (fun _ _ _ h=>h) (Or.inl ⟨by rfl,?_⟩) (by assumption) ?_
    rotate_left 1
    ·(intro wS hSw;(try dsimp only at hSw);go_simp;try (with_reducible rfl))
    (try simp only[Act.put,List.setIfInBounds_toArray,List.set_cons_zero,List.set_cons_succ])
    refine wpAnyH_take (i:=8) (oi:= { dst:=some 25,op:=Op.load 3 (Operand.tmp 24),type:=3,pos:= "l03_pack.go:340",after:= #[{ on:=7,ground:=Ground.data },{ on:=9,ground:=Ground.gcOnly Departure.lateStores }],guard:=none }) (v:= ?_) rfl (by kernel_rfl) (by kernel_rfl) (by kernel_rfl) (fun _ _ _ h=>h) (Or.inl ⟨by rfl,?_⟩) (by assumption) ?_
    rotate_left 1
    ·(intro wS hSw;(try dsimp only at hSw);go_simp;try (with_reducible rfl))
    (try simp only[Act.put,List.setIfInBounds_toArray,List.set_cons_zero,List.set_cons_succ])
    refine wpAnyH_ready (rs:= [5]) (by kernel_rfl) (by simp) ?_
    refine AllReadyH.cons (o:= { dst:=some 22,op:=Op.call { callee:=Callee.value (Operand.func 152),args:= #[Operand.tmp 20,Operand.tmp 21],argTypes:= #[184,3] },type:=3,pos:= "l03_pack.go:340",after:= #[{ on:=3,ground:=Ground.data },{ on:=4,ground:=Ground.data }],guard:=none }) rfl (fun K hK=> ?_) AllReadyH.nil
    go_simp
    refine(HC.out W1.drew R1).mono ?_
    rintro e x1 ⟨rfl,M1,L2⟩
    have hl:=(sym_3 s a h24 h200).2
    exact⟨rfl,⟨fun _=>rfl,fun h=>absurd (by omega) h,fun h=>absurd (by omega) h⟩,L1.drew.trans (Bt.of M1 L2)⟩
   ·have HT:Hid (∀W:World,RdI c s (a+8) v W→Calls Tryz.prog 152 #[.pointer (some ⟨c,0,none⟩),.int .i64 1] W fun e w'=>e= .returned (.int .i64 (topAt s (a+8) 1:Nat))∧RdI c s ((a+8)+1) v w'∧Mv c W w'∧Below 0 W w'):=fun W h=>topI_ok 0 c s (a+8) 1 v W hs (Nat.zero_le _) (by omega) (by omega) h
    go_region_held3 (fun w'=>w'.cell? ⟨wr.heap.size,2,none⟩=some (.int .i64 9)) (go_keep) (first
     |(go_at_call 152;refine(HT.out _ ?_).mono ?_;(first|exact R1|exact R1.drewN 1);rintro e x5 ⟨rfl,R5,M5,L5⟩;have B5:Bt c w x5:=(by first|exact L1.trans (Bt.of M5 L5)|exact L1.drew.trans (Bt.of M5 L5)|exact(L1.drewN _).trans (Bt.of M5 L5));have mR5:x5.heap[wr.heap.size]? =some (.cells #[.int .i64 144,.int .i64 255,.int .i64 9,.int .i64 400] 191):=(M5.2 _ hne).trans mR;have t5:x5.cell? ⟨wr.heap.size,2,none⟩=some (.int .i64 9):=cell_at mR5 2))
    all_goals
     have hor:=or_s1 s a 8 (by omega)
     rw[hor]
     rw[show topAt s a (8+1)=topAt s a 9 from rfl]
     have g8:=HE8.out;have g9:=HE9.out
     have hw1:IntKind.i64.wrap ((144:Int)+(topAt s a 9:Nat))=(144:Int)+(topAt s a 9:Nat):=by rw[IntKind.wrap_i64];omega
     have hw2:IntKind.i64.wrap ((144:Int)+(topAt s a 9:Nat)-400)=(144:Int)+(topAt s a 9:Nat)-400:=by rw[IntKind.wrap_i64];omega
     have hen:(144:Int)+(topAt s a 9:Nat)-400=((144+topAt s a 9-400:Nat):Int):=by omega
     have HEN:Hid (_):=hen;clear hen
     have HG8:Hid (_):=g8;have HG9:Hid (_):=g9;clear g8 g9 HE8 HE9
     have c0:x5.cell? ⟨wr.heap.size,0,none⟩=some (.int .i64 144):=cell_at mR5 0
     have c1:x5.cell? ⟨wr.heap.size,1,none⟩=some (.int .i64 255):=cell_at mR5 1
     have c3:x5.cell? ⟨wr.heap.size,3,none⟩=some (.int .i64 400):=cell_at mR5 3
     have HR5:Hid (_):=R5;clear hor
     clear L1 mR R1 hc2 HT M5 L5 t5 mR5 R5 R0 hix L
     have hsy:=sym_3 s a h24 h200
     have hd:((144:Int)+(topAt s a 9:Nat)-400≤255):=by omega
     have hq:¬((285:Int)<(144:Int)+(topAt s a 9:Nat)-400):=by omega
     go_wp2_with fail
     refine(HRF.out _).mono ?_
     rintro e x6 ⟨rfl,rfl⟩
     go_wp2
     go_ret
     exact⟨⟨fun h=>absurd h (by omega),fun _ h=>absurd h (by omega),fun _ _=>⟨by rw[hsy.1,←HEN.out];rfl,by rw[hsy.2];exact HR5.out⟩⟩,B5⟩

end Pk
end Go.Proofs.YtcjgkmhpeedhiaaGreatDoor

/- The contract of the program's leastOf. -/
namespace Go.Proofs.YtcjgkmhpeedhiaaGreatDoor
namespace Pk
open Go.ChangeShapes Go.WideShapes Go.ChangeAt Go.RowKit
set_option linter.unusedSimpArgs false
set_option linter.unusedVariables false

set_option maxRecDepth 100000 in
set_option maxHeartbeats 4000000 in
theorem least1_val (k:Nat) (w:World) (hk:k<30):
 Calls Tryz.prog 153 #[.int .i64 k,.int .i64 1] w fun e w'=>e= .returned (ii2 (Math.cleast 2 k:Nat) (Math.cbits 2 k:Nat))∧w'=w:=by
 have h:k=0∨k=1∨k=2∨k=3∨k=4∨k=5∨k=6∨k=7∨k=8∨k=9∨k=10∨k=11∨k=12∨k=13∨k=14∨k=15∨k=16∨k=17∨k=18∨k=19∨k=20∨k=21∨k=22∨k=23∨k=24∨k=25∨k=26∨k=27∨k=28∨k=29:=by omega
 rcases h with rfl|rfl|rfl|rfl|rfl|rfl|rfl|rfl|rfl|rfl|rfl|rfl|rfl|rfl|rfl|rfl|rfl|rfl|rfl|rfl|rfl|rfl|rfl|rfl|rfl|rfl|rfl|rfl|rfl|rfl
 all_goals
  go_enter Tryz.func153,Tryz.ntmps153
  go_wp2
  go_ret2
  exact⟨by kernel_rfl,rfl⟩

set_option maxRecDepth 100000 in
set_option maxHeartbeats 4000000 in
theorem least2_val (k:Nat) (w:World) (hk:k<28):
 Calls Tryz.prog 153 #[.int .i64 k,.int .i64 2] w fun e w'=>e= .returned (ii2 (Math.cleast 4 k:Nat) (Math.cbits 4 k:Nat))∧w'=w:=by
 have h:k=0∨k=1∨k=2∨k=3∨k=4∨k=5∨k=6∨k=7∨k=8∨k=9∨k=10∨k=11∨k=12∨k=13∨k=14∨k=15∨k=16∨k=17∨k=18∨k=19∨k=20∨k=21∨k=22∨k=23∨k=24∨k=25∨k=26∨k=27:=by omega
 rcases h with rfl|rfl|rfl|rfl|rfl|rfl|rfl|rfl|rfl|rfl|rfl|rfl|rfl|rfl|rfl|rfl|rfl|rfl|rfl|rfl|rfl|rfl|rfl|rfl|rfl|rfl|rfl|rfl
 all_goals
  go_enter Tryz.func153,Tryz.ntmps153
  go_wp2
  go_ret2
  exact⟨by kernel_rfl,rfl⟩

end Pk
end Go.Proofs.YtcjgkmhpeedhiaaGreatDoor

/- The program's readers of a copy's length and of its way back, of a stored block's length; its bound. -/
namespace Go.Proofs.YtcjgkmhpeedhiaaGreatDoor
namespace Pk
open Go.ChangeShapes Go.WideShapes Go.ChangeAt Go.RowKit
open Math (bitAt lowAt topAt symAt symLen lenBits lenTold backTold cleast cbits storedC)
set_option linter.unusedSimpArgs false
set_option linter.unusedVariables false

set_option maxRecDepth 100000 in
set_option maxHeartbeats 1000000 in
theorem lenI_val (c:Nat) (s:ByteArray) (a y:Nat) (v:Value) (w:World) (hs:s.size≤100000) (ha:a≤8*s.size) (h1:257≤y) (h2:y≤285) (H:RdI c s a v w):
 Calls Tryz.prog 142 #[.pointer (some ⟨c,0,none⟩),.int .i64 y] w fun e w'=>((8*s.size<a+lenBits y→e=fault 1)∧(¬8*s.size<a+lenBits y→e= .returned (.int .i64 (lenTold s a y:Nat))∧RdI c s (a+lenBits y) v w'))∧Bt c w w':=by
 by_cases hy:y=285
 ·subst hy
  have e1:lenBits 285=0:=rfl
  have e2:lenTold s a 285=258:=if_pos rfl
  rw[e1,e2]
  go_enter Tryz.func142,Tryz.ntmps142
  go_wp2
  go_ret
  exact⟨⟨fun h=>absurd h (by omega),fun _=>⟨rfl,H⟩⟩,Bt.refl _ _⟩
 ·obtain⟨k,rfl⟩:∃k,y=257+k:=⟨y-257,by omega⟩
  have hk:k<28:=by omega
  have e1:lenBits (257+k)=cbits 4 k:=by unfold lenBits;rw[if_neg hy,Nat.add_sub_cancel_left]
  have e2:lenTold s a (257+k)=cleast 4 k+3+lowAt s a (cbits 4 k):=by unfold lenTold;rw[if_neg hy,Nat.add_sub_cancel_left]
  obtain⟨g1,_,_,g4⟩:=len_there k hk
  have HL:Hid (∀W:World,Calls Tryz.prog 153 #[.int .i64 k,.int .i64 2] W fun e w'=>e= .returned (.tuple #[.int .i64 (cleast 4 k:Nat),.int .i64 (cbits 4 k:Nat)])∧w'=W):=fun W=>least2_val k W hk
  rw[e1,e2]
  clear e1 e2
  have hb:=Math.lowAt_lt s a (cbits 4 k)
  have hp:2^cbits 4 k≤2^5:=Nat.pow_le_pow_right (by omega) g4
  generalize cleast 4 k=C at*
  generalize cbits 4 k=N at*
  have HC:Hid (8*s.size<a+N→_):=fun h=>lowI_cut 0 c s a N v w hs (Nat.zero_le _) (by omega) ha h H
  have HO:Hid (a+N≤8*s.size→_):=fun h=>lowI_ok 0 c s a N v w hs (Nat.zero_le _) (by omega) h H
  have hyi:¬((257+k:Nat):Int)=285:=by omega
  have hki:((257+k:Nat):Int)-257=(k:Int):=by omega
  generalize lowAt s a N=Z at*
  have hz:Z<32:=by omega
  clear hb hp hy
  generalize 257+k=y at*
  go_enter Tryz.func142,Tryz.ntmps142
  go_wp2_with fail
  refine(HL.out _).mono ?_
  rintro e x1 ⟨rfl,rfl⟩
  by_cases hcut:8*s.size<a+N
  ·have HX:Hid (_):=HC.out hcut
   clear HC HO
   go_wp2_with fail
   refine Calls.mono HX.out ?_
   rintro e x2 ⟨rfl,M,L⟩
   exact⟨rfl,⟨fun _=>rfl,fun h=>absurd hcut h⟩,Bt.of M L⟩
  ·have HX:Hid (_):=HO.out (by omega)
   clear HC HO
   go_wp2_with fail
   refine Calls.mono HX.out ?_
   rintro e x2 ⟨rfl,R,M,L⟩
   have hw:IntKind.i64.wrap (3+(C:Int)+(Z:Int))=((C+3+Z:Nat):Int):=by rw[IntKind.wrap_i64];omega
   have HR:Hid (_):=R
   clear R
   go_wp2
   go_ret
   exact⟨⟨fun h=>absurd h hcut,fun _=>⟨by go_num,HR.out⟩⟩,Bt.of M L⟩

set_option maxRecDepth 100000 in
set_option maxHeartbeats 1000000 in
theorem backI_val (c:Nat) (s:ByteArray) (a:Nat) (v:Value) (w:World) (hs:s.size≤100000) (ha:a≤8*s.size) (H:RdI c s a v w):
 Calls Tryz.prog 143 #[.pointer (some ⟨c,0,none⟩)] w fun e w'=>((8*s.size<a+5→e=fault 1)∧(¬8*s.size<a+5→29<topAt s a 5→e=fault 3)∧(¬8*s.size<a+5→¬29<topAt s a 5→8*s.size<a+5+cbits 2 (topAt s a 5)→e=fault 1)∧(¬8*s.size<a+5→¬29<topAt s a 5→¬8*s.size<a+5+cbits 2 (topAt s a 5)→e= .returned (.int .i64 (backTold s (a+5) (topAt s a 5):Nat))∧RdI c s (a+5+cbits 2 (topAt s a 5)) v w'))∧Bt c w w':=by
 have ht:=Math.topAt_lt s a 5
 have HRF:Hid (∀W:World,_):=fun W=>refuse_no 3 W
 have HRY:Hid (∀W:World,_):=fun W=>refuse_yes 3 W
 by_cases h5:8*s.size<a+5
 ·have HC:Hid (Calls Tryz.prog 152 #[.pointer (some ⟨c,0,none⟩),.int .i64 5] w fun e w'=>e=fault 1∧Mv c w w'∧Below 0 w w'):=topI_cut 0 c s a 5 v w hs (Nat.zero_le _) (by omega) ha h5 H
  go_enter Tryz.func143,Tryz.ntmps143
  go_wp2_with fail
  refine Calls.mono HC.out ?_
  rintro e x2 ⟨rfl,M,L⟩
  exact⟨rfl,⟨fun _=>rfl,fun h=>absurd h5 h,fun h=>absurd h5 h,fun h=>absurd h5 h⟩,Bt.of M L⟩
 ·have HT:Hid (Calls Tryz.prog 152 #[.pointer (some ⟨c,0,none⟩),.int .i64 5] w fun e w'=>e= .returned (.int .i64 (topAt s a 5:Nat))∧RdI c s (a+5) v w'∧Mv c w w'∧Below 0 w w'):=topI_ok 0 c s a 5 v w hs (Nat.zero_le _) (by omega) (by omega) H
  generalize topAt s a 5=k at*
  by_cases h29:29<k
  ·have hq:(29:Int)<(k:Int):=by omega
   go_enter Tryz.func143,Tryz.ntmps143
   go_wp2_with fail
   refine Calls.mono HT.out ?_
   rintro e w2 ⟨rfl,R2,M2,L2⟩
   have B2:=Bt.of M2 L2
   clear HT M2 L2
   go_wp2_with fail
   refine(HRY.out _).mono ?_
   rintro e x6 ⟨rfl,rfl⟩
   exact⟨rfl,⟨fun h=>absurd h h5,fun _ _=>rfl,fun _ h=>absurd h29 h,fun _ h=>absurd h29 h⟩,B2⟩
  ·have hq:¬(29:Int)<(k:Int):=by omega
   obtain⟨g1,g4⟩:=Math.back_bds k (by omega)
   have HL:Hid (∀W:World,Calls Tryz.prog 153 #[.int .i64 k,.int .i64 1] W fun e w'=>e= .returned (.tuple #[.int .i64 (cleast 2 k:Nat),.int .i64 (cbits 2 k:Nat)])∧w'=W):=fun W=>least1_val k W (by omega)
   have e2:backTold s (a+5) k=cleast 2 k+1+lowAt s (a+5) (cbits 2 k):=rfl
   rw[e2]
   clear e2
   have hb:=Math.lowAt_lt s (a+5) (cbits 2 k)
   have hp:2^cbits 2 k≤2^13:=Nat.pow_le_pow_right (by omega) g4
   generalize cleast 2 k=C at*
   generalize cbits 2 k=N at*
   have HC:Hid (∀W:World,RdI c s (a+5) v W→8*s.size<a+5+N→_):=fun W R h=>lowI_cut 0 c s (a+5) N v W hs (Nat.zero_le _) (by omega) (by omega) h R
   have HO:Hid (∀W:World,RdI c s (a+5) v W→a+5+N≤8*s.size→_):=fun W R h=>lowI_ok 0 c s (a+5) N v W hs (Nat.zero_le _) (by omega) h R
   generalize lowAt s (a+5) N=Z at*
   have hz:Z<8192:=by omega
   clear hb hp
   go_enter Tryz.func143,Tryz.ntmps143
   go_wp2_with fail
   refine Calls.mono HT.out ?_
   rintro e w2 ⟨rfl,R2,M2,L2⟩
   have B2:=Bt.of M2 L2
   clear HT M2 L2
   have hq2:decide ((29:Int)<(k:Int))=false:=decide_eq_false (by omega)
   clear hq
   go_wp2_with fail
   refine(HRF.out _).mono ?_
   rintro e x6 ⟨rfl,rfl⟩
   go_wp2_with fail
   refine(HL.out _).mono ?_
   rintro e x1 ⟨rfl,rfl⟩
   by_cases hcut:8*s.size<a+5+N
   ·have HX:Hid (_):=HC.out _ R2 hcut
    clear HC HO
    go_wp2_with fail
    refine Calls.mono HX.out ?_
    rintro e x2 ⟨rfl,M,L⟩
    exact⟨rfl,⟨fun h=>absurd h h5,fun _ h=>absurd h h29,fun _ _ _=>rfl,fun _ _ h=>absurd hcut h⟩,B2.trans (Bt.of M L)⟩
   ·have HX:Hid (_):=HO.out _ R2 (by omega)
    clear HC HO
    go_wp2_with fail
    refine Calls.mono HX.out ?_
    rintro e x2 ⟨rfl,R,M,L⟩
    have HR:Hid (_):=R
    have HB:Hid (_):=B2.trans (Bt.of M L)
    clear R R2 B2 M L
    go_wp2
    go_ret
    exact⟨⟨fun h=>absurd h h5,fun _ h=>absurd h h29,fun _ _ h=>absurd h hcut,fun _ _ _=>⟨by go_num,HR.out⟩⟩,HB.out⟩

set_option maxRecDepth 100000 in
set_option maxHeartbeats 1000000 in
theorem beyond_val (c:Nat) (s:ByteArray) (a L n:Nat) (p:Option Addr) (k:Nat) (w:World) (hL:L≤100000) (hn:n≤100000) (H:RdI c s a (.slice p L k) w):
 Calls Tryz.prog 141 #[.pointer (some ⟨c,0,none⟩),.int .i64 n] w fun e w'=>((3000<L+n→e=fault 5)∧(¬3000<L+n→e= .returned (.tuple #[])))∧w'=w:=by
 have m:w.heap[c]? =some (.cells #[.string s,.int .i64 (a:Int),.slice p L k] 163):=H
 have c2:w.cell? ⟨c,2,none⟩=some (.slice p L k):=cell_at m 2
 have HRF:Hid (∀W:World,_):=fun W=>refuse_no 5 W
 have HRY:Hid (∀W:World,_):=fun W=>refuse_yes 5 W
 have hw:IntKind.i64.wrap ((L:Int)+(n:Int))=(L:Int)+(n:Int):=by rw[IntKind.wrap_i64];omega
 clear m H
 by_cases h:3000<L+n
 ·have hq:(3000:Int)<(L:Int)+(n:Int):=by omega
  go_enter Tryz.func141,Tryz.ntmps141
  go_wp2_with fail
  refine(HRY.out _).mono ?_
  rintro e x6 ⟨rfl,rfl⟩
  exact⟨rfl,⟨fun _=>rfl,fun g=>absurd h g⟩,rfl⟩
 ·have hq:¬(3000:Int)<(L:Int)+(n:Int):=by omega
  go_enter Tryz.func141,Tryz.ntmps141
  go_wp2_with fail
  refine(HRF.out _).mono ?_
  rintro e x6 ⟨rfl,rfl⟩
  go_wp2
  exact⟨rfl,_,results_none rfl _ _ _,⟨fun g=>absurd g h,fun _=>rfl⟩,rfl⟩

theorem xor_all (n:Nat) (h:n<65536):n^^^65535=65535-n:=by
 have h1:(BitVec.ofNat 16 n^^^BitVec.allOnes 16).toNat=(~~~ BitVec.ofNat 16 n).toNat:=by rw[BitVec.xor_allOnes]
 rw[BitVec.toNat_xor,BitVec.toNat_not,BitVec.toNat_allOnes,BitVec.toNat_ofNat,Nat.mod_eq_of_lt (by omega)]at h1
 exact h1

theorem xor_i (n:Nat) (h:n<65536):bits BinOp.xor IntKind.i64 (n:Int) 65535=((65535-n:Nat):Int):=by
 have h2:=Math.bits_xor_i64 n 65535 (by omega) (by omega)
 rw[xor_all n h]at h2
 exact h2

def StoEnd (s:ByteArray) (c:Nat) (v:Value) (e:Ending) (w:World):Prop:=
 (s.size<5→e=fault 1)∧(¬s.size<5→lowAt s 8 16+lowAt s 24 16≠65535→e=fault 3)∧(¬s.size<5→¬lowAt s 8 16+lowAt s 24 16≠65535→3000<lowAt s 8 16→e=fault 5)∧(¬s.size<5→¬lowAt s 8 16+lowAt s 24 16≠65535→¬3000<lowAt s 8 16→e= .returned (.int .i64 (lowAt s 8 16:Nat))∧RdI c s 40 v w)

set_option maxRecDepth 100000 in
set_option maxHeartbeats 1000000 in
theorem stoI_val (c:Nat) (s:ByteArray) (a:Nat) (p:Option Addr) (k:Nat) (w:World) (hs1:1≤s.size) (hs:s.size≤100000) (H:RdI c s a (.slice p 0 k) w):
 Calls Tryz.prog 145 #[.pointer (some ⟨c,0,none⟩)] w fun e w'=>StoEnd s c (.slice p 0 k) e w'∧Bt c w w':=by
 unfold StoEnd
 have m:w.heap[c]? =some (.cells #[.string s,.int .i64 (a:Int),.slice p 0 k] 163):=H
 have f1:=frozen_at m 1
 have c1:w.cell? ⟨c,1,none⟩=some (.int .i64 (a:Int)):=cell_at m 1
 have HRF:Hid (∀W:World,_):=fun W=>refuse_no 3 W
 have HRY:Hid (∀W:World,_):=fun W=>refuse_yes 3 W
 have R1:RdI c s 8 (.slice p 0 k) (w.setCell ⟨c,1,none⟩ (.int .i64 8)):=hp_set (w:=w) (i:=1) m (.int .i64 8)
 have B1:=(Bt.refl c w).set 1 (.int .i64 8)
 have hl1:=Math.lowAt_lt s 8 16
 have hl2:=Math.lowAt_lt s 24 16
 have HC:Hid (∀(W:World) (b:Nat),RdI c s b (.slice p 0 k) W→b≤8*s.size→8*s.size<b+16→Calls Tryz.prog 139 #[.pointer (some ⟨c,0,none⟩),.int .i64 16] W fun e w'=>e=fault 1∧Mv c W w'∧Below 0 W w'):=fun W b R g h=>lowI_cut 0 c s b 16 _ W hs (Nat.zero_le _) (by omega) g h R
 have HO:Hid (∀(W:World) (b:Nat),RdI c s b (.slice p 0 k) W→b+16≤8*s.size→Calls Tryz.prog 139 #[.pointer (some ⟨c,0,none⟩),.int .i64 16] W fun e w'=>e= .returned (.int .i64 (lowAt s b 16:Nat))∧RdI c s (b+16) (.slice p 0 k) w'∧Mv c W w'∧Below 0 W w'):=fun W b R h=>lowI_ok 0 c s b 16 _ W hs (Nat.zero_le _) (by omega) h R
 by_cases h3:s.size<3
 ·have HX:Hid (_):=HC.out _ 8 R1 (by omega) (by omega)
  clear HC HO R1
  go_enter Tryz.func145,Tryz.ntmps145
  go_wp2_with fail
  refine Calls.mono HX.out ?_
  rintro e x2 ⟨rfl,M,L⟩
  exact⟨rfl,⟨fun _=>rfl,fun h=>absurd (by omega) h,fun h=>absurd (by omega) h,fun h=>absurd (by omega) h⟩,B1.trans (Bt.of M L)⟩
 ·have HX:Hid (_):=HO.out _ 8 R1 (by omega)
  have HBY:Hid (∀(W:World) (n:Nat),n≤100000→RdI c s 40 (.slice p 0 k) W→Calls Tryz.prog 141 #[.pointer (some ⟨c,0,none⟩),.int .i64 n] W fun e w'=>((3000<0+n→e=fault 5)∧(¬3000<0+n→e= .returned (.tuple #[])))∧w'=W):=fun W n hn R=>beyond_val c s 40 0 n p k W (by omega) hn R
  have HX2:Hid (∀W,_):=fun W=>HO.out W 24
  have HX3:Hid (∀W,_):=fun W=>HC.out W 24
  clear HC HO R1
  have hxo:=xor_i (lowAt s 24 16) (by omega)
  generalize lowAt s 8 16=n at*
  generalize lowAt s 24 16=z at*
  go_enter Tryz.func145,Tryz.ntmps145
  go_wp2_with fail
  refine Calls.mono HX.out ?_
  rintro e w2 ⟨rfl,R2,M2,L2⟩
  have B2:=B1.trans (Bt.of M2 L2)
  clear HX M2 L2 B1
  by_cases h5:s.size<5
  ·have HY:Hid (_):=HX3.out w2 R2 (by omega) (by omega)
   clear HX2 HX3 R2
   go_wp2_with fail
   refine Calls.mono HY.out ?_
   rintro e x2 ⟨rfl,M,L⟩
   exact⟨rfl,⟨fun _=>rfl,fun h=>absurd h5 h,fun h=>absurd h5 h,fun h=>absurd h5 h⟩,B2.trans (Bt.of M L)⟩
  ·have HY:Hid (_):=HX2.out w2 R2 (by omega)
   clear HX2 HX3 R2
   go_wp2_with fail
   refine Calls.mono HY.out ?_
   rintro e w3 ⟨rfl,R3,M,L⟩
   have HB3:Hid (_):=B2.trans (Bt.of M L)
   have HR3:Hid (_):=R3
   clear HY M L B2 R3
   by_cases hne:n+z≠65535
   ·have hq:¬(n:Int)=((65535-z:Nat):Int):=by omega
    have hq2:((n:Int) !=((65535-z:Nat):Int))=true:=bne_iff_ne.2 hq
    go_wp2_with fail
    refine(HRY.out _).mono ?_
    rintro e x6 ⟨rfl,rfl⟩
    exact⟨rfl,⟨fun h=>absurd h h5,fun _ _=>rfl,fun _ h=>absurd hne h,fun _ h=>absurd hne h⟩,HB3.out⟩
   ·have hz:((65535-z:Nat):Int)=(n:Int):=by omega
    rw[hz]at hxo
    go_wp2_with fail
    refine(HRF.out _).mono ?_
    rintro e x6 ⟨rfl,rfl⟩
    go_wp2_with fail
    refine(HBY.out _ n (by omega) HR3.out).mono ?_
    rintro e x6 ⟨⟨hy,hn⟩,rfl⟩
    by_cases h30:3000<n
    ·obtain rfl:=hy (by omega)
     exact⟨rfl,⟨fun h=>absurd h h5,fun _ h=>absurd h hne,fun _ _ _=>rfl,fun _ _ h=>absurd h30 h⟩,HB3.out⟩
    ·obtain rfl:=hn (by omega)
     go_wp2
     go_ret
     exact⟨⟨fun h=>absurd h h5,fun _ h=>absurd h hne,fun _ _ h=>absurd h h30,fun _ _ _=>⟨rfl,HR3.out⟩⟩,HB3.out⟩

end Pk
end Go.Proofs.YtcjgkmhpeedhiaaGreatDoor

/- The program's look at what stands behind a block. -/
namespace Go.Proofs.YtcjgkmhpeedhiaaGreatDoor
namespace Pk
open Go.ChangeShapes Go.WideShapes Go.ChangeAt Go.RowKit
open Math (bitAt lowAt topAt rst)
set_option linter.unusedSimpArgs false
set_option linter.unusedVariables false

set_option maxRecDepth 100000 in
set_option maxHeartbeats 1000000 in
theorem restI_val (c:Nat) (s:ByteArray) (a:Nat) (v:Value) (w:World) (hs:s.size≤100000) (ha:a≤8*s.size) (H:RdI c s a v w):
 Calls Tryz.prog 146 #[.pointer (some ⟨c,0,none⟩)] w fun e w'=>((rst s 8 a=0→e= .returned (.tuple #[])∧∃q,RdI c s q v w')∧(rst s 8 a≠0→rst s 8 a=6∧e=fault 6))∧Bt c w w':=by
 have HRF:Hid (∀W:World,_):=fun W=>refuse_no 6 W
 have HRY:Hid (∀W:World,_):=fun W=>refuse_yes 6 W
 go_enter Tryz.func146,Tryz.ntmps146
 go_wp2
 go_loopw [] (fun wr=>∃(q n:Nat),q≤8*s.size∧(q%8=0∨8≤n+q%8)∧Hid (rst s 8 a=rst s n q)∧Hid (RdI c s q v wr)∧Hid (Bt c w wr)) (fun wr=>8*s.size-(intOf ((wr.cell? ⟨c,1,none⟩).getD undef)).toNat)
 case atStart=>exact⟨a,8,ha,by omega,rfl,H,Bt.refl _ _⟩
 case round=>
  obtain⟨q,n,hq,hn,HE,HR,L⟩:=hrel
  have m:wr.heap[c]? =some (.cells #[.string s,.int .i64 (q:Int),v] 163):=HR.out
  have c0:wr.cell? ⟨c,0,none⟩=some (.string s):=cell_at m 0
  have c1:wr.cell? ⟨c,1,none⟩=some (.int .i64 (q:Int)):=cell_at m 1
  clear m
  have ht:Int.tmod (q:Int) 8=((q%8:Nat):Int):=by rw[Int.tmod_eq_emod_of_nonneg (by omega)];omega
  have hr:(q:Int)%8=((q%8:Nat):Int):=by omega
  by_cases h8:q%8=0
  ·have he:=HE.out
   rw[Math.rst_end s n q h8]at he
   rw[h8]at ht hr
   by_cases hend:q<8*s.size
   ·rw[if_pos hend]at he
    have HE6:Hid (_):=he
    have hneb:((q:Int) !=(s.size:Int)*8)=true:=by rw[bne_iff_ne];omega
    have hne:¬((q:Int)=(s.size:Int)*8):=by omega
    have hw8:IntKind.i64.wrap ((s.size:Int)*8)=(s.size:Int)*8:=wrap_is _ (by omega)
    clear he HE
    go_wp2
    refine wp_region_held_drew (S:=(fun w'=>w'.cell? ⟨c,0,none⟩=some (.string s)∧w'.cell? ⟨c,1,none⟩=some (.int .i64 (q:Int)))) (by kernel_rfl) ?_ (fun hHeld=> ?_)
    ·exact⟨c0,c1⟩
    refine wpAnyH_take (i:=0) (oi:= { dst:=some 12,op:=Op.move (Operand.tmp 0),type:=184,pos:= "l03_pack.go:381",after:= #[],guard:=none }) (v:= ?_) rfl (by kernel_rfl) (by kernel_rfl) (by kernel_rfl) (fun _ _ _ h=>h) (Or.inl ⟨by rfl,?_⟩) (by assumption) ?_
    rotate_left 1
    ·(intro wS hSw;(try dsimp only at hSw);go_simp;try (with_reducible rfl))
    (try simp only[Act.put,List.setIfInBounds_toArray,List.set_cons_zero,List.set_cons_succ])
    refine wpAnyH_take (i:=1) (oi:= { dst:=some 13,op:=Op.nilCheck (Operand.tmp 12),type:=0,pos:= "l03_pack.go:381",after:= #[{ on:=0,ground:=Ground.data }],guard:=none }) (v:= ?_) rfl (by kernel_rfl) (by kernel_rfl) (by kernel_rfl) (fun _ _ _ h=>h) (Or.inl ⟨by rfl,?_⟩) (by assumption) ?_
    rotate_left 1
    ·(intro wS hSw;(try dsimp only at hSw);go_simp;try (with_reducible rfl))
    (try simp only[Act.put,List.setIfInBounds_toArray,List.set_cons_zero,List.set_cons_succ])
    refine wpAnyH_take (i:=2) (oi:= { dst:=some 14,op:=Op.fieldAddr 163 (Operand.tmp 13) 1,type:=0,pos:= "l03_pack.go:381",after:= #[{ on:=1,ground:=Ground.data }],guard:=none }) (v:= ?_) rfl (by kernel_rfl) (by kernel_rfl) (by kernel_rfl) (fun _ _ _ h=>h) (Or.inl ⟨by rfl,?_⟩) (by assumption) ?_
    rotate_left 1
    ·(intro wS hSw;(try dsimp only at hSw);go_simp;try (with_reducible rfl))
    (try simp only[Act.put,List.setIfInBounds_toArray,List.set_cons_zero,List.set_cons_succ])
    refine wpAnyH_take (i:=3) (oi:= { dst:=some 15,op:=Op.load 3 (Operand.tmp 14),type:=3,pos:= "l03_pack.go:381",after:= #[{ on:=2,ground:=Ground.data }],guard:=none }) (v:= ?_) rfl (by kernel_rfl) (by kernel_rfl) (by kernel_rfl) (fun _ _ _ h=>h) (Or.inl ⟨by rfl,?_⟩) (by assumption) ?_
    rotate_left 1
    ·(intro wS hSw;(try dsimp only at hSw);go_simp;try (with_reducible rfl))
    (try simp only[Act.put,List.setIfInBounds_toArray,List.set_cons_zero,List.set_cons_succ])
    refine wpAnyH_take (i:=4) (oi:= { dst:=some 16,op:=Op.move (Operand.tmp 0),type:=184,pos:= "l03_pack.go:381",after:= #[],guard:=none }) (v:= ?_) rfl (by kernel_rfl) (by kernel_rfl) (by kernel_rfl) (fun _ _ _ h=>h) (Or.inl ⟨by rfl,?_⟩) (by assumption) ?_
    rotate_left 1
    ·(intro wS hSw;(try dsimp only at hSw);go_simp;try (with_reducible rfl))
    (try simp only[Act.put,List.setIfInBounds_toArray,List.set_cons_zero,List.set_cons_succ])
    refine wpAnyH_take (i:=5) (oi:= { dst:=some 17,op:=Op.nilCheck (Operand.tmp 16),type:=0,pos:= "l03_pack.go:381",after:= #[{ on:=4,ground:=Ground.data }],guard:=none }) (v:= ?_) rfl (by kernel_rfl) (by kernel_rfl) (by kernel_rfl) (fun _ _ _ h=>h) (Or.inl ⟨by rfl,?_⟩) (by assumption) ?_
    rotate_left 1
    ·(intro wS hSw;(try dsimp only at hSw);go_simp;try (with_reducible rfl))
    (try simp only[Act.put,List.setIfInBounds_toArray,List.set_cons_zero,List.set_cons_succ])
    refine wpAnyH_take (i:=6) (oi:= { dst:=some 18,op:=Op.fieldAddr 163 (Operand.tmp 17) 0,type:=0,pos:= "l03_pack.go:381",after:= #[{ on:=5,ground:=Ground.data }],guard:=none }) (v:= ?_) rfl (by kernel_rfl) (by kernel_rfl) (by kernel_rfl) (fun _ _ _ h=>h) (Or.inl ⟨by rfl,?_⟩) (by assumption) ?_
    rotate_left 1
    ·(intro wS hSw;(try dsimp only at hSw);go_simp;try (with_reducible rfl))
    (try simp only[Act.put,List.setIfInBounds_toArray,List.set_cons_zero,List.set_cons_succ])
    refine wpAnyH_take (i:=7) (oi:= { dst:=some 19,op:=Op.load 9 (Operand.tmp 18),type:=9,pos:= "l03_pack.go:381",after:= #[{ on:=6,ground:=Ground.data }],guard:=none }) (v:= ?_) rfl (by kernel_rfl) (by kernel_rfl) (by kernel_rfl) (fun _ _ _ h=>h) (Or.inl ⟨by rfl,?_⟩) (by assumption) ?_
    rotate_left 1
    ·(intro wS hSw;(try dsimp only at hSw);go_simp;try (with_reducible rfl))
    (try simp only[Act.put,List.setIfInBounds_toArray,List.set_cons_zero,List.set_cons_succ])
    refine wpAnyH_take (i:=8) (oi:= { dst:=some 20,op:=Op.call { callee:=Callee.builtin Builtin.len,args:= #[Operand.tmp 19],argTypes:= #[9] },type:=3,pos:= "l03_pack.go:381",after:= #[{ on:=7,ground:=Ground.data }],guard:=none }) (v:= ?_) rfl (by kernel_rfl) (by kernel_rfl) (by kernel_rfl) (fun _ _ _ h=>h) (Or.inl ⟨by rfl,?_⟩) (by assumption) ?_
    rotate_left 1
    ·(intro wS hSw;(try dsimp only at hSw);go_simp;try (with_reducible rfl))
    (try simp only[Act.put,List.setIfInBounds_toArray,List.set_cons_zero,List.set_cons_succ])
    refine wpAnyH_take (i:=9) (oi:= { dst:=some 21,op:=Op.binOp BinOp.mul 3 (Operand.tmp 20) (Operand.const (Value.int IntKind.i64 8)) 3,type:=3,pos:= "l03_pack.go:381",after:= #[{ on:=8,ground:=Ground.data }],guard:=none }) (v:= ?_) rfl (by kernel_rfl) (by kernel_rfl) (by kernel_rfl) (fun _ _ _ h=>h) (Or.inl ⟨by rfl,?_⟩) (by assumption) ?_
    rotate_left 1
    ·(intro wS hSw;(try dsimp only at hSw);go_simp;try (with_reducible rfl))
    (try simp only[Act.put,List.setIfInBounds_toArray,List.set_cons_zero,List.set_cons_succ])
    refine wpAnyH_take (i:=10) (oi:= { dst:=some 22,op:=Op.binOp BinOp.neq 3 (Operand.tmp 15) (Operand.tmp 21) 3,type:=4,pos:= "l03_pack.go:381",after:= #[{ on:=3,ground:=Ground.data },{ on:=9,ground:=Ground.data }],guard:=none }) (v:= ?_) rfl (by kernel_rfl) (by kernel_rfl) (by kernel_rfl) (fun _ _ _ h=>h) (Or.inl ⟨by rfl,?_⟩) (by assumption) ?_
    rotate_left 1
    ·(intro wS hSw;(try dsimp only at hSw);go_simp;try (with_reducible rfl))
    (try simp only[Act.put,List.setIfInBounds_toArray,List.set_cons_zero,List.set_cons_succ])
    refine wpAnyH_ready (rs:= [11]) (by kernel_rfl) (by simp) ?_
    refine AllReadyH.cons (o:= { dst:=some 23,op:=Op.call { callee:=Callee.value (Operand.func 137),args:= #[Operand.tmp 22,Operand.const (Value.int IntKind.i64 6)],argTypes:= #[4,3] },type:=0,pos:= "l03_pack.go:381",after:= #[{ on:=10,ground:=Ground.data }],guard:=none }) rfl (fun K hK=> ?_) AllReadyH.nil
    go_simp
    refine(HRY.out _).mono ?_
    rintro e x1 ⟨rfl,hx1⟩
    subst hx1
    exact⟨rfl,⟨fun h=>absurd (HE6.out.symm.trans h) (by omega),fun _=>⟨HE6.out,rfl⟩⟩,L.out.drew⟩
   ·rw[if_neg hend]at he
    have HE6:Hid (_):=he
    obtain rfl:q=8*s.size:=by omega
    have e8:((8*s.size:Nat):Int)=(s.size:Int)*8:=by omega
    rw[e8]at c1 ht hr
    have hneb:((s.size:Int)*8 !=(s.size:Int)*8)=false:=by simp
    have hw8:IntKind.i64.wrap ((s.size:Int)*8)=(s.size:Int)*8:=wrap_is _ (by omega)
    clear he HE e8
    go_wp2
    go_quiet ((go_at_call 137;exact Calls.quiet_of_same (HRF.out _)))
    go_wp2
    exact⟨rfl,_,results_none rfl _ _ _,⟨fun _=>⟨rfl,_,HR.out⟩,fun h=>absurd HE6.out h⟩,L.out.drewN _⟩
  ·have h80:¬((q%8:Nat):Int)=0:=by omega
   have hlt:q<8*s.size:=by omega
   obtain⟨k,rfl⟩:∃k,n=k+1:=⟨n-1,by omega⟩
   have HES:Hid (rst s (k+1) q=if q%8=0 then(if q<8*s.size then 6 else 0)else if bitAt s q=1 then 6 else rst s k (q+1)):=rfl
   have HB:Hid (∀_:Unit,_):=fun _=>bitI_ok 0 c s q v wr hs (Nat.zero_le _) hlt HR.out
   have hb:=Math.bitAt_le s q
   generalize hr8:q%8=r at*
   by_cases hb1:bitAt s q=1
   ·rw[hb1]at HB
    have he:=HE.out.trans (HES.out.trans (by rw[if_neg h8,if_pos hb1]))
    have HE6:Hid (_):=he
    clear he HE HES
    go_wp2_with fail
    refine(HB.out ()).mono ?_
    rintro e w2 ⟨rfl,R2,M2,L2⟩
    have HB2:Hid (_):=L.out.trans (Bt.of M2 L2)
    clear M2 L2 R2
    go_wp2_with fail
    refine(HRY.out _).mono ?_
    rintro e x6 ⟨rfl,rfl⟩
    exact⟨rfl,⟨fun h=>absurd (HE6.out.symm.trans h) (by omega),fun _=>⟨HE6.out,rfl⟩⟩,HB2.out⟩
   ·have hb0:bitAt s q=0:=by omega
    rw[hb0]at HB
    have he:=HE.out.trans (HES.out.trans (by rw[if_neg h8,if_neg hb1]))
    have HE6:Hid (_):=he
    clear he HE HES
    go_wp2_with fail
    refine(HB.out ()).mono ?_
    rintro e w2 ⟨rfl,R2,M2,L2⟩
    have HB2:Hid (_):=L.out.trans (Bt.of M2 L2)
    have HR2:Hid (_):=R2
    clear M2 L2 R2
    go_wp2_with fail
    refine(HRF.out _).mono ?_
    rintro e x6 ⟨rfl,rfl⟩
    go_wp2
    go_roundw
    case rel=>exact⟨q+1,k,by omega,by omega,HE6.out,HR2.out,HB2.out⟩
    case measure=>
     have h9:=cell_at HR2.out 1
     rw[c1]
     have h9':x6.cell? ⟨c,1,none⟩=some (.int .i64 ((q+1:Nat):Int)):=h9
     simp only[h9',Option.getD_some,intOf]
     omega

end Pk
end Go.Proofs.YtcjgkmhpeedhiaaGreatDoor

/- A scope in which the run jumps to several labels, forward and back. -/
namespace Go.Proofs.YtcjgkmhpeedhiaaGreatDoor
namespace Pk

def Jumps (J:Nat→Act→World→Prop) (Q:Exit→Act→World→Prop):Exit→Act→World→Prop
 | .goto l,a,w=>J l a w
 |e,a,w=>Q e a w

theorem Jumps.mono {J J':Nat→Act→World→Prop} {Q:Exit→Act→World→Prop} (h:∀l a w,J l a w→J' l a w):∀e a w,Jumps J Q e a w→Jumps J' Q e a w:=by
 intro e a w hj
 cases e with
 |goto l=>exact h l a w hj
 |normal=>exact hj
 |exit id=>exact hj
 |ret=>exact hj
 |panic ch=>exact hj
 |outgrown=>exact hj

theorem scope_many {P:Program} {c:Code} {a:Act} {w:World} {Q:Exit→Act→World→Prop} (J:Nat→Act→World→Prop) (μ:Nat→Act→World→Nat)
 (pass:∀l a w,J l a w→∃r,findLabel c l=some (Code.skip.seq r)∧r.wp P (Jumps (fun l' a' w'=>J l' a' w'∧μ l' a' w'<μ l a w) Q) a w)
 (first:(∀l r a w,findLabel c l=some (Code.skip.seq r)→J l a w→r.wp P (Jumps J Q) a w)→c.wp P (Jumps J Q) a w):(Code.scope c).wp P Q a w:=by
 have fall:∀l r a w,findLabel c l=some (Code.skip.seq r)→J l a w→r.wp P (Jumps J Q) a w:=by
  intro l r a w hr hJ
  obtain⟨r',hr',hp⟩:=pass l a w hJ
  cases hr.symm.trans hr'
  exact wp_mono hp (Jumps.mono fun _ _ _ h=>h.1)
 have pass:∀l a w,J l a w→∃r,findLabel c l=some r∧r.wp P (Jumps (fun l' a' w'=>J l' a' w'∧μ l' a' w'<μ l a w) Q) a w:=fun l a w h=>by
  obtain⟨r,hr,hp⟩:=pass l a w h
  exact⟨_,hr,wp_seq (wp_skip hp)⟩
 intro b k cs
 have key:∀n l r a w,μ l a w=n→J l a w→findLabel c l=some r→∃e a' w',Q e a' w'∧Arrives P (lone (b.at a (.code r:: .inScope c::k)) cs w) b k cs e a' w':=by
  intro n
  induction n using Nat.strongRecOn with
  |_ n ih=>
   intro l r a w hn hJ hr
   obtain⟨r',hr',hp⟩:=pass l a w hJ
   cases hr.symm.trans hr'
   obtain⟨e,a₁,w₁,hq,harr⟩:=hp b (.inScope c::k) cs
   cases e with
   |normal=>exact⟨.normal,a₁,w₁,hq,Steps.trans harr (.one step_inScope)⟩
   |exit id=>exact⟨.exit id,a₁,w₁,hq,fun k' hk=>harr k' (by simp[exitTo,hk])⟩
   |goto l'=>
    obtain⟨hJ',hlt⟩:=hq
    obtain⟨r2,hr2,_⟩:=pass l' a₁ w₁ hJ'
    obtain⟨e₂,a₂,w₂,hq₂,harr₂⟩:=ih _ (by omega) l' r2 a₁ w₁ rfl hJ' hr2
    have hg:gotoIn l' (.inScope c::k)=some (.code r2:: .inScope c::k):=by simp[gotoIn,hr2]
    exact⟨e₂,a₂,w₂,hq₂,.of_steps (harr _ hg) harr₂⟩
   |ret=>exact⟨_,a₁,w₁,hq,harr⟩
   |panic ch=>exact⟨_,a₁,w₁,hq,harr⟩
   |outgrown=>exact⟨_,a₁,w₁,hq,harr⟩
 obtain⟨e,a₁,w₁,hq,harr⟩:=first fall b (.inScope c::k) cs
 cases e with
 |normal=>exact⟨.normal,a₁,w₁,hq,.head step_scope (Steps.trans harr (.one step_inScope))⟩
 |exit id=>exact⟨.exit id,a₁,w₁,hq,fun k' hk=> .head step_scope (harr k' (by simp[exitTo,hk]))⟩
 |goto l'=>
  obtain⟨r2,hr2,_⟩:=pass l' a₁ w₁ hq
  obtain⟨e₂,a₂,w₂,hq₂,harr₂⟩:=key _ l' r2 a₁ w₁ rfl hq hr2
  have hg:gotoIn l' (.inScope c::k)=some (.code r2:: .inScope c::k):=by simp[gotoIn,hr2]
  exact⟨e₂,a₂,w₂,hq₂,.of_steps (.head step_scope (harr _ hg)) harr₂⟩
 |ret=>exact⟨_,a₁,w₁,hq,.of_steps (.one step_scope) harr⟩
 |panic ch=>exact⟨_,a₁,w₁,hq,.of_steps (.one step_scope) harr⟩
 |outgrown=>exact⟨_,a₁,w₁,hq,.of_steps (.one step_scope) harr⟩

end Pk
end Go.Proofs.YtcjgkmhpeedhiaaGreatDoor

/- The program's reader of a block. -/
namespace Go.Proofs.YtcjgkmhpeedhiaaGreatDoor
namespace Pk
open Go.ChangeShapes Go.WideShapes Go.ChangeAt Go.RowKit
open Math (bitAt lowAt topAt symAt symLen lenBits lenTold backTold cleast cbits storedC rst body unpC unpT fixFrom p1 p2' bk dd nn copyN)
set_option linter.unusedSimpArgs false
set_option linter.unusedVariables false

theorem low_byte (s:ByteArray) (i:Nat):lowAt s (8*i) 8=(s.data.toList.getD i 0).toNat:=by
 have h (j:Nat) (hj:j<8):bitAt s (8*i+j)=(s.data.toList.getD i 0).toNat/2^j%2:=by
  unfold bitAt
  rw[show(8*i+j)/8=i by omega,show(8*i+j)%8=j by omega]
 have hb:=(s.data.toList.getD i 0).toNat_lt
 simp only[lowAt,h 0 (by omega),h 1 (by omega),h 2 (by omega),h 3 (by omega),h 4 (by omega),h 5 (by omega),h 6 (by omega),h 7 (by omega)]
 generalize (s.data.toList.getD i 0).toNat=x at*
 omega

theorem take_byte (s:ByteArray) (k:Nat) (h:5+k<s.size):(s.data.toList.drop 5).take (k+1)=(s.data.toList.drop 5).take k++ [s.data.toList.getD (5+k) 0]:=by
 have hl:5+k<s.data.toList.length:=by rw[Array.length_toList];exact h
 rw[List.take_add_one,List.getElem?_drop,List.getElem?_eq_getElem hl,List.getD_eq_getElem?_getD,List.getElem?_eq_getElem hl]
 rfl

theorem take_len (s:ByteArray) (k:Nat) (h:5+k≤s.size):((s.data.toList.drop 5).take k).length=k:=by
 have hl:s.data.toList.length=s.size:=Array.length_toList
 rw[List.length_take,List.length_drop]
 omega

structure Bk (B c:Nat) (s:ByteArray) (a:Nat) (out:List UInt8) (va:Option Addr) (vc:Nat) (w0 w:World):Prop where
 rd:RdI c s a (.slice va out.length vc) w
 own:w.ownsRow w0.heap.size 5 1 (.slice va out.length vc) out.length (bcells out)
 bl:Below B w0 w

theorem Bk.ne {B c:Nat} {s:ByteArray} {a:Nat} {out:List UInt8} {va:Option Addr} {vc:Nat} {w0 w:World} (h:Bk B c s a out va vc w0 w):(Value.slice va out.length vc).ownBlock≠some c:=own_ne' h.own h.rd (by decide)

theorem Bk.mv {B c:Nat} {s:ByteArray} {a a':Nat} {out:List UInt8} {va:Option Addr} {vc:Nat} {w0 w w':World} (h:Bk B c s a out va vc w0 w) (R:RdI c s a' (.slice va out.length vc) w') (T:Bt c w w') (hB:B≤c) (hB2:B≤w0.heap.size):Bk B c s a' out va vc w0 w':=
 ⟨R,T.own h.own h.ne,h.bl.trans (T.below hB (Nat.le_trans hB2 h.bl.size))⟩

theorem own_oth {w:World} {base e size:Nat} {v:Value} {n:Nat} {xs:List Value} {P:Nat} (h:w.ownsRow base e size v n xs) (hne:v.ownBlock≠some P) (i:Nat) (u:Value):(w.setCell ⟨P,i,none⟩ u).ownsRow base e size v n xs:=by
 obtain⟨hl,h2⟩:=h
 refine⟨hl,?_⟩
 rcases h2 with h2|⟨g,cap,cur,hv,hg,hh,hr⟩
 ·exact Or.inl h2
 ·refine Or.inr ⟨g,cap,cur,hv,hg,?_,hr⟩
  rw[Below.heap_setCell w ⟨P,i,none⟩ u g (by intro e;apply hne;rw[hv];exact congrArg some e)]
  exact hh

theorem Bk.put {B c:Nat} {s:ByteArray} {a:Nat} {out out':List UInt8} {va va':Option Addr} {vc vc':Nat} {w0 w w3:World} (h:Bk B c s a out va vc w0 w) (hB:B≤c) (m3:RdI c s a (.slice va out.length vc) w3) (hown:w3.ownsRow w0.heap.size 5 1 (.slice va' out'.length vc') out'.length (bcells out')) (L:Below B w0 w3):Bk B c s a out' va' vc' w0 (w3.setCell ⟨c,2,none⟩ (.slice va' out'.length vc')):=
 ⟨hp_set (w:=w3) (i:=2) m3 (.slice va' out'.length vc'),own_oth hown (own_ne' hown m3 (by decide)) 2 _,L.setCell hB _⟩

def BlkEnd (B:Nat) (s:ByteArray) (c:Nat) (w0:World) (e:Ending) (w:World):Prop:=
 (unpC s≠0→e=fault (unpC s:Nat))∧(unpC s=0→e= .returned (.tuple #[])∧∃(q:Nat) (va:Option Addr) (vc:Nat) (out:List UInt8),unpT s=⟨out.toArray⟩∧Bk B c s q out va vc w0 w)∧Below B w0 w

def Known (s:ByteArray):Prop:=¬6000<s.size∧¬s.size=0∧¬(bitAt s 0=0∨1<lowAt s 1 2)

theorem blk_bad {B:Nat} {s:ByteArray} {c:Nat} {w0 w:World} (hK:Known s) {k:Nat} {txt:List UInt8} {a:Nat} (hb:body s=(k,txt,a)) (hk:k≠0) (L:Below B w0 w):BlkEnd B s c w0 (fault (k:Nat)) w:=by
 obtain⟨h1,h2,h3⟩:=hK
 have e:=((Math.unp_body h1 h2 h3 hb).1 hk).1
 exact⟨fun _=>by rw[e],fun h=>absurd (e.symm.trans h) hk,L⟩

theorem blk_code {B:Nat} {s:ByteArray} {c:Nat} {w0 w:World} {k:Nat} (e:unpC s=k) (hk:k≠0) (L:Below B w0 w):BlkEnd B s c w0 (fault (k:Nat)) w:=
 ⟨fun _=>by rw[e],fun h=>absurd (e.symm.trans h) hk,L⟩

def bAct (c:Nat) (u:Nat→Value) (x3:Value):Act:= { tmps:= #[.pointer (some ⟨c,0,none⟩),u 1,u 2,x3,u 4,u 5,u 6,u 7,u 8,u 9,u 10,u 11,u 12,u 13,u 14,u 15,u 16,u 17,u 18,u 19,u 20,u 21,u 22,u 23,u 24,u 25,u 26,u 27,u 28,u 29,u 30,u 31,u 32,u 33,u 34,u 35,u 36,u 37,u 38,u 39,u 40,u 41,u 42,u 43,u 44,u 45,u 46,u 47,u 48,u 49,u 50,u 51,u 52,u 53,u 54,u 55,u 56,u 57,u 58,u 59,u 60,u 61,u 62,u 63,u 64,u 65,u 66,u 67,u 68,u 69,u 70,u 71,u 72,u 73,u 74,u 75,u 76,u 77,u 78,u 79,u 80,u 81,u 82,u 83,u 84],defers:= [] }

def JJ (B c:Nat) (s:ByteArray) (w:World) (l:Nat) (a':Act) (w':World):Prop:=((l=0∧a'=bAct c (fun i=>a'.tmps.getD i undef) (a'.tmps.getD 3 undef)∧Hid (lowAt s 1 2=0)∧RdI c s 3 (.slice none 0 0) w'∧Below B w w')∨(l=1∧a'=bAct c (fun i=>a'.tmps.getD i undef) (a'.tmps.getD 3 undef)∧∃(a g:Nat) (out:List UInt8) (va:Option Addr) (vc:Nat),a≤8*s.size∧out.length≤3000∧8*s.size<a+7*g∧Hid (body s=fixFrom s g a out)∧Bk B c s a out va vc w w')∨(l=2∧a'=bAct c (fun i=>a'.tmps.getD i undef) (a'.tmps.getD 3 undef)∧∃(a:Nat) (out:List UInt8) (va:Option Addr) (vc:Nat),a≤8*s.size∧Hid (body s=(0,out,a))∧Bk B c s a out va vc w w')∨(l=3∧∃(a g y nl:Nat),a'=bAct c (fun i=>a'.tmps.getD i undef) (.int .i64 (y:Int))∧∃(out:List UInt8) (va:Option Addr) (vc:Nat),a+nl≤8*s.size∧7≤nl∧nl≤9∧out.length≤3000∧8*s.size<a+7*(g+1)∧256<y∧y≤285∧Hid (symAt s a=y)∧Hid (symLen s a=nl)∧Hid (body s=fixFrom s (g+1) a out)∧Bk B c s (a+nl) out va vc w w'))

def MM (c:Nat) (s:ByteArray) (l:Nat) (a':Act) (w':World):Nat:=(if l=2 then 0 else if l=0 then 10000000 else 1+(8*s.size-(intOf ((w'.cell? ⟨c,1,none⟩).getD undef)).toNat))

set_option maxRecDepth 100000 in
set_option maxHeartbeats 400000 in
theorem blkI_val (B c:Nat) (s:ByteArray) (w:World) (hs:s.size≤6000) (hB:B≤c) (hB2:B≤w.heap.size) (hrB:6<B) (HRU:Hid (Runs w)) (H:RdI c s 0 (.slice none 0 0) w):
 Calls Tryz.prog 122 #[.pointer (some ⟨c,0,none⟩)] w fun e w'=>BlkEnd B s c w e w':=by
 have HRF:Hid (∀(k:Int) (W:World),_):=fun k W=>refuse_no k W
 have HRY:Hid (∀(k:Int) (W:World),_):=fun k W=>refuse_yes k W
 obtain⟨i0,hi,hz0,hz1,hz2⟩:=info_of info_u8
 have hcw:c<w.heap.size:=H.lt
 by_cases hz:s.size=0
 ·have HC:Hid (_):=bitI_cut B c s (.slice none 0 0) w (by omega) hB (by rw[hz];exact H)
  have HU:Hid (unpC s=1):=by show unpC s=1;unfold unpC;rw[if_neg (by omega),if_pos hz]
  go_enter Tryz.func122,Tryz.ntmps122
  go_wp2
  go_step3
  go_wp2_with fail
  refine Calls.mono HC.out ?_
  rintro e w2 ⟨rfl,M,L⟩
  exact⟨rfl,blk_code (k:=1) HU.out (by omega) L⟩
 have HB0:Hid (_):=bitI_ok B c s 0 (.slice none 0 0) w (by omega) hB (by omega) H
 have hb0:=Math.bitAt_le s 0
 by_cases hb:bitAt s 0=0
 ·have HU:Hid (unpC s=2):=by show unpC s=2;unfold unpC;rw[if_neg (by omega),if_neg hz,if_pos (Or.inl hb)]
  rw[hb]at HB0
  go_enter Tryz.func122,Tryz.ntmps122
  go_wp2
  go_step3
  go_wp2_with fail
  refine Calls.mono HB0.out ?_
  rintro e w2 ⟨rfl,R2,M,L⟩
  go_wp2_with fail
  refine(HRY.out 2 _).mono ?_
  rintro e w3 ⟨rfl,rfl⟩
  exact⟨rfl,blk_code (k:=2) HU.out (by omega) L⟩
 have hb1:bitAt s 0=1:=by omega
 rw[hb1]at HB0
 have HLO:Hid (∀W:World,RdI c s 1 (.slice none 0 0) W→Calls Tryz.prog 139 #[.pointer (some ⟨c,0,none⟩),.int .i64 2] W fun e w'=>e= .returned (.int .i64 (lowAt s 1 2:Nat))∧RdI c s 3 (.slice none 0 0) w'∧Mv c W w'∧Below B W w'):=fun W h=>lowI_ok B c s 1 2 (.slice none 0 0) W (by omega) hB (by omega) (by omega) h
 have hk4:=Math.lowAt_lt s 1 2
 by_cases hkd:1<lowAt s 1 2
 ·have HU:Hid (unpC s=2):=by show unpC s=2;unfold unpC;rw[if_neg (by omega),if_neg hz,if_pos (Or.inr hkd)]
  generalize lowAt s 1 2=kd at*
  have hq0:¬((kd:Int)=0):=by omega
  have hq1:¬((kd:Int)=1):=by omega
  have hn0:((kd:Int) !=0)=true:=bne_iff_ne.2 hq0
  have hn1:((kd:Int) !=1)=true:=bne_iff_ne.2 hq1
  go_enter Tryz.func122,Tryz.ntmps122
  go_wp2
  go_step3
  go_wp2_with fail
  refine Calls.mono HB0.out ?_
  rintro e w2 ⟨rfl,R2,M2,L2⟩
  go_wp2_with fail
  refine(HRF.out 2 _).mono ?_
  rintro e w3 ⟨rfl,rfl⟩
  go_wp2_with fail
  refine(HLO.out _ R2).mono ?_
  rintro e w4 ⟨rfl,R4,M4,L4⟩
  go_wp2_with fail
  refine(HRY.out 2 _).mono ?_
  rintro e w3 ⟨rfl,rfl⟩
  exact⟨rfl,blk_code (k:=2) HU.out (by omega) (L2.trans L4)⟩
 have HKN:Hid (Known s):=⟨by omega,hz,fun h=>h.elim hb hkd⟩
 go_enter Tryz.func122,Tryz.ntmps122
 go_wp2
 refine scope_many (JJ B c s w) (MM c s) ?_ ?_
 ·rintro l a' w' (⟨rfl,hA,HK0,R,L⟩|⟨rfl,hA,a,g,out,va,vc,ha,hol,hg,HF,K⟩|⟨rfl,hA,a,out,va,vc,ha,HF,K⟩|⟨rfl,a,g,y,nl,hA,out,va,vc,ha,hn7,hn9,hol,hg,hy6,hy5,HY,HN,HF,K⟩)
  ·obtain⟨u,x3,rfl⟩:∃u x3,a'=bAct c u x3:=⟨_,_,hA⟩
   clear hA
   refine⟨_,rfl,?_⟩
   unfold bAct
   have hBw:B≤w'.heap.size:=Nat.le_trans hB2 L.size
   have HST:Hid (_):=stoI_val c s 3 none 0 w' (by omega) (by omega) R
   unfold StoEnd at HST
   have HBO:Hid (body s=(storedC s,(Math.storedT s).data.toList,40+8*lowAt s 8 16)):=by show body s=_;unfold body;rw[if_neg (by rw[HK0.out];omega)]
   have HSC:Hid (storedC s=if s.size<5 then 1 else if lowAt s 8 16+lowAt s 24 16≠65535 then 3 else if 3000<lowAt s 8 16 then 5 else if s.size<lowAt s 8 16+5 then 1 else 0):=rfl
   have HTT:Hid (storedC s=0→Math.storedT s=s.extract 5 (5+lowAt s 8 16)):=fun h=>if_pos h
   have hl1:=Math.lowAt_lt s 8 16
   generalize lowAt s 8 16=n at*
   generalize lowAt s 24 16=z at*
   clear hk4 hkd
   go_wp2_with fail
   refine Calls.mono HST.out ?_
   rintro e w2 ⟨⟨e1,e2,e3,e0⟩,T⟩
   have L2:=L.trans (T.below hB hBw)
   by_cases h5:s.size<5
   ·obtain rfl:=e1 h5
    exact⟨rfl,blk_bad (k:=1) HKN.out (HBO.out.trans (by rw[HSC.out,if_pos h5])) (by omega) L2⟩
   by_cases hne:n+z≠65535
   ·obtain rfl:=e2 h5 hne
    exact⟨rfl,blk_bad (k:=3) HKN.out (HBO.out.trans (by rw[HSC.out,if_neg h5,if_pos hne])) (by omega) L2⟩
   by_cases h30:3000<n
   ·obtain rfl:=e3 h5 hne h30
    exact⟨rfl,blk_bad (k:=5) HKN.out (HBO.out.trans (by rw[HSC.out,if_neg h5,if_neg hne,if_pos h30])) (by omega) L2⟩
   obtain⟨rfl,R2⟩:=e0 h5 hne h30
   have HS2:Hid (storedC s=if s.size<n+5 then 1 else 0):=HSC.out.trans (by rw[if_neg h5,if_neg hne,if_neg h30])
   have HK2:Hid (Bk B c s (40+8*0) ((s.data.toList.drop 5).take 0) none 0 w w2):=⟨R2,World.ownsRow_nil _ _ _ _,L2⟩
   clear e1 e2 e3 e0 HST HSC T L2 R2
   go_wp2
   go_loopw [68] (fun i wr=>∃(k:Nat) (va:Option Addr) (vc:Nat),k≤n∧i= .int .i64 k∧5+k≤s.size∧Hid (Bk B c s (40+8*k) ((s.data.toList.drop 5).take k) va vc w wr)) (fun i _=>n-(intOf i).toNat)
   case atStart=>exact⟨0,none,0,by omega,rfl,by omega,HK2⟩
   case round=>
    clear HK2
    obtain⟨k,va,vc,hk,rfl,h5k,HK⟩:=hrel
    by_cases hkn:k<n
    ·have hkI:(k:Int)<(n:Int):=by omega
     have hol:=take_len s k h5k
     have R1:RdI c s (40+8*k) (.slice va k vc) wr:=by have h:=HK.out.rd;rw[hol]at h;exact h
     have O1:wr.ownsRow w.heap.size 5 1 (.slice va k vc) k (bcells ((s.data.toList.drop 5).take k)):=by have h:=HK.out.own;rw[hol]at h;exact h
     have hne:(Value.slice va k vc).ownBlock≠some c:=own_ne' O1 R1 (by decide)
     have HBL:Hid (Below B w wr):=HK.out.bl
     have hBwr:B≤wr.heap.size:=Nat.le_trans hB2 HBL.out.size
     have c2:wr.cell? ⟨c,2,none⟩=some (.slice va k vc):=cell_at R1 2
     by_cases hcut:s.size<6+k
     ·have HC:Hid (∀W:World,RdI c s (40+8*k) (.slice va k vc) W→Calls Tryz.prog 139 #[.pointer (some ⟨c,0,none⟩),.int .i64 8] W fun e w'=>e=fault 1∧Mv c W w'∧Below 0 W w'):=fun W h=>lowI_cut 0 c s (40+8*k) 8 _ W (by omega) (Nat.zero_le _) (by omega) (by omega) (by omega) h
      go_wp2
      refine wp_region_held_drew (S:=(fun w'=>w'.cell? ⟨c,2,none⟩=some (.slice va k vc))) (by kernel_rfl) ?_ (fun hHeld=> ?_)
      ·exact c2
      refine wpAnyH_take (i:=0) (oi:= { dst:=some 70,op:=Op.move (Operand.tmp 0),type:=184,pos:= "l03_pack.go:414",after:= #[],guard:=none }) (v:= ?_) rfl (by kernel_rfl) (by kernel_rfl) (by kernel_rfl) (fun _ _ _ h=>h) (Or.inl ⟨by rfl,?_⟩) (by assumption) ?_
      rotate_left 1
      ·(intro wS hSw;(try dsimp only at hSw);go_simp;try (with_reducible rfl))
      (try simp only[Act.put,List.setIfInBounds_toArray,List.set_cons_zero,List.set_cons_succ])
      refine wpAnyH_take (i:=1) (oi:= { dst:=some 71,op:=Op.move (Operand.tmp 0),type:=184,pos:= "l03_pack.go:414",after:= #[],guard:=none }) (v:= ?_) rfl (by kernel_rfl) (by kernel_rfl) (by kernel_rfl) (fun _ _ _ h=>h) (Or.inl ⟨by rfl,?_⟩) (by assumption) ?_
      rotate_left 1
      ·(intro wS hSw;(try dsimp only at hSw);go_simp;try (with_reducible rfl))
      (try simp only[Act.put,List.setIfInBounds_toArray,List.set_cons_zero,List.set_cons_succ])
      refine wpAnyH_take (i:=2) (oi:= { dst:=some 72,op:=Op.nilCheck (Operand.tmp 71),type:=0,pos:= "l03_pack.go:414",after:= #[{ on:=1,ground:=Ground.data }],guard:=none }) (v:= ?_) rfl (by kernel_rfl) (by kernel_rfl) (by kernel_rfl) (fun _ _ _ h=>h) (Or.inl ⟨by rfl,?_⟩) (by assumption) ?_
      rotate_left 1
      ·(intro wS hSw;(try dsimp only at hSw);go_simp;try (with_reducible rfl))
      (try simp only[Act.put,List.setIfInBounds_toArray,List.set_cons_zero,List.set_cons_succ])
      refine wpAnyH_take (i:=3) (oi:= { dst:=some 73,op:=Op.fieldAddr 163 (Operand.tmp 72) 2,type:=0,pos:= "l03_pack.go:414",after:= #[{ on:=2,ground:=Ground.data }],guard:=none }) (v:= ?_) rfl (by kernel_rfl) (by kernel_rfl) (by kernel_rfl) (fun _ _ _ h=>h) (Or.inl ⟨by rfl,?_⟩) (by assumption) ?_
      rotate_left 1
      ·(intro wS hSw;(try dsimp only at hSw);go_simp;try (with_reducible rfl))
      (try simp only[Act.put,List.setIfInBounds_toArray,List.set_cons_zero,List.set_cons_succ])
      refine wpAnyH_take (i:=4) (oi:= { dst:=some 74,op:=Op.load 22 (Operand.tmp 73),type:=22,pos:= "l03_pack.go:414",after:= #[{ on:=3,ground:=Ground.data }],guard:=none }) (v:= ?_) rfl (by kernel_rfl) (by kernel_rfl) (by kernel_rfl) (fun _ _ _ h=>h) (Or.inl ⟨by rfl,?_⟩) (by assumption) ?_
      rotate_left 1
      ·(intro wS hSw;(try dsimp only at hSw);go_simp;try (with_reducible rfl))
      (try simp only[Act.put,List.setIfInBounds_toArray,List.set_cons_zero,List.set_cons_succ])
      refine wpAnyH_take (i:=5) (oi:= { dst:=some 75,op:=Op.move (Operand.tmp 0),type:=184,pos:= "l03_pack.go:414",after:= #[],guard:=none }) (v:= ?_) rfl (by kernel_rfl) (by kernel_rfl) (by kernel_rfl) (fun _ _ _ h=>h) (Or.inl ⟨by rfl,?_⟩) (by assumption) ?_
      rotate_left 1
      ·(intro wS hSw;(try dsimp only at hSw);go_simp;try (with_reducible rfl))
      (try simp only[Act.put,List.setIfInBounds_toArray,List.set_cons_zero,List.set_cons_succ])
      refine wpAnyH_ready (rs:= [6]) (by kernel_rfl) (by simp) ?_
      refine AllReadyH.cons (o:= { dst:=some 76,op:=Op.call { callee:=Callee.value (Operand.func 139),args:= #[Operand.tmp 75,Operand.const (Value.int IntKind.i64 8)],argTypes:= #[184,3] },type:=3,pos:= "l03_pack.go:414",after:= #[{ on:=5,ground:=Ground.data }],guard:=none }) rfl (fun K hK=> ?_) AllReadyH.nil
      go_simp
      refine(HC.out wr.drew R1).mono ?_
      rintro e x1 ⟨rfl,M1,L1⟩
      have T1:Bt c wr x1:=((Bt.refl c wr).drew).trans (Bt.of M1 L1)
      exact⟨rfl,blk_bad (k:=1) HKN.out (HBO.out.trans (by rw[HS2.out,if_pos (by omega)])) (by omega) (HBL.out.trans (T1.below hB hBwr))⟩
     ·have hbb:=low_byte s (5+k)
      rw[show 8*(5+k)=40+8*k by omega]at hbb
      have hby:=take_byte s k (by omega)
      generalize s.data.toList.getD (5+k) 0=bb at*
      have hb8:=bb.toNat_lt
      have HT:Hid (∀W:World,RdI c s (40+8*k) (.slice va k vc) W→Calls Tryz.prog 139 #[.pointer (some ⟨c,0,none⟩),.int .i64 8] W fun e w'=>e= .returned (.int .i64 (bb.toNat:Int))∧RdI c s (40+8*k+8) (.slice va k vc) w'∧Mv c W w'∧Below 0 W w'):=fun W h=>by rw[←hbb];exact lowI_ok 0 c s (40+8*k) 8 _ W (by omega) (Nat.zero_le _) (by omega) (by omega) h
      have hol2:=take_len s (k+1) (by omega)
      have HSN:Hid (bcells ((s.data.toList.drop 5).take k)++ [.int .u8 (bb.toNat:Int)]=bcells ((s.data.toList.drop 5).take (k+1))):=by show _=_;rw[hby];exact bcells_snoc _ _
      have HPT:Hid (∀(w6:World) (gg cap6:Nat),RdI c s (40+8*k+8) (.slice va k vc) w6→w6.ownsRow w.heap.size 5 1 (.slice (some ⟨gg,0,none⟩) (k+1) cap6) (k+1) (bcells ((s.data.toList.drop 5).take (k+1)))→Below B w w6→Bk B c s (40+8*k+8) ((s.data.toList.drop 5).take (k+1)) (some ⟨gg,0,none⟩) cap6 w (w6.setCell ⟨c,2,none⟩ (.slice (some ⟨gg,0,none⟩) (k+1) cap6))):=by
       intro w6 gg cap6 m6 o6 L6
       refine⟨?_,?_,L6.setCell hB _⟩
       ·rw[hol2];exact hp_set (w:=w6) (i:=2) m6 (.slice (some ⟨gg,0,none⟩) (k+1) cap6)
       ·rw[hol2];exact own_oth o6 (own_ne' o6 m6 (by decide)) 2 _
      have hwb:IntKind.u8.wrap (bb.toNat:Int)=(bb.toNat:Int):=by rw[IntKind.wrap_u8];omega
      clear hbb hby HK hol hol2
      generalize (s.data.toList.drop 5).take k=out at*
      generalize hO2:(s.data.toList.drop 5).take (k+1)=out2 at*
      have HO2:Hid (_):=hO2
      clear hO2
      generalize bb.toNat=b at*
      go_wp2
      refine wp_region_held_drew (S:=(fun _=>True)) (by kernel_rfl) trivial (fun hHeld=> ?_)
      refine wpAnyH_take (i:=0) (oi:= { dst:=some 70,op:=Op.move (Operand.tmp 0),type:=184,pos:= "l03_pack.go:414",after:= #[],guard:=none }) (v:= ?_) rfl (by kernel_rfl) (by kernel_rfl) (by kernel_rfl) (fun _ _ _ h=>h) (Or.inl ⟨by rfl,?_⟩) (by assumption) ?_
      rotate_left 1
      ·(intro wS hSw;(try dsimp only at hSw);go_simp;try (with_reducible rfl))
      (try simp only[Act.put,List.setIfInBounds_toArray,List.set_cons_zero,List.set_cons_succ])
      refine wpAnyH_take (i:=1) (oi:= { dst:=some 71,op:=Op.move (Operand.tmp 0),type:=184,pos:= "l03_pack.go:414",after:= #[],guard:=none }) (v:= ?_) rfl (by kernel_rfl) (by kernel_rfl) (by kernel_rfl) (fun _ _ _ h=>h) (Or.inl ⟨by rfl,?_⟩) (by assumption) ?_
      rotate_left 1
      ·(intro wS hSw;(try dsimp only at hSw);go_simp;try (with_reducible rfl))
      (try simp only[Act.put,List.setIfInBounds_toArray,List.set_cons_zero,List.set_cons_succ])
      refine wpAnyH_take (i:=2) (oi:= { dst:=some 72,op:=Op.nilCheck (Operand.tmp 71),type:=0,pos:= "l03_pack.go:414",after:= #[{ on:=1,ground:=Ground.data }],guard:=none }) (v:= ?_) rfl (by kernel_rfl) (by kernel_rfl) (by kernel_rfl) (fun _ _ _ h=>h) (Or.inl ⟨by rfl,?_⟩) (by assumption) ?_
      rotate_left 1
      ·(intro wS hSw;(try dsimp only at hSw);go_simp;try (with_reducible rfl))
      (try simp only[Act.put,List.setIfInBounds_toArray,List.set_cons_zero,List.set_cons_succ])
      refine wpAnyH_take (i:=3) (oi:= { dst:=some 73,op:=Op.fieldAddr 163 (Operand.tmp 72) 2,type:=0,pos:= "l03_pack.go:414",after:= #[{ on:=2,ground:=Ground.data }],guard:=none }) (v:= ?_) rfl (by kernel_rfl) (by kernel_rfl) (by kernel_rfl) (fun _ _ _ h=>h) (Or.inl ⟨by rfl,?_⟩) (by assumption) ?_
      rotate_left 1
      ·(intro wS hSw;(try dsimp only at hSw);go_simp;try (with_reducible rfl))
      (try simp only[Act.put,List.setIfInBounds_toArray,List.set_cons_zero,List.set_cons_succ])
      refine wpAnyH_take (i:=5) (oi:= { dst:=some 75,op:=Op.move (Operand.tmp 0),type:=184,pos:= "l03_pack.go:414",after:= #[],guard:=none }) (v:= ?_) rfl (by kernel_rfl) (by kernel_rfl) (by kernel_rfl) (fun _ _ _ h=>h) (Or.inl ⟨by rfl,?_⟩) (by assumption) ?_
      rotate_left 1
      ·(intro wS hSw;(try dsimp only at hSw);go_simp;try (with_reducible rfl))
      (try simp only[Act.put,List.setIfInBounds_toArray,List.set_cons_zero,List.set_cons_succ])
      refine wpAnyH_ready (rs:= [4,6]) (by kernel_rfl) (by simp) ?_
      refine AllReadyH.cons (o:= { dst:=some 74,op:=Op.load 22 (Operand.tmp 73),type:=22,pos:= "l03_pack.go:414",after:= #[{ on:=3,ground:=Ground.data }],guard:=none }) rfl (fun K hK=> ?_) (AllReadyH.cons (o:= { dst:=some 76,op:=Op.call { callee:=Callee.value (Operand.func 139),args:= #[Operand.tmp 75,Operand.const (Value.int IntKind.i64 8)],argTypes:= #[184,3] },type:=3,pos:= "l03_pack.go:414",after:= #[{ on:=5,ground:=Ground.data }],guard:=none }) rfl (fun K hK=> ?_) AllReadyH.nil)
      ·skip
       go_simp
       refine hK.out _ _ trivial (fun hHeld=> ?_)
       clear hK K
       (try simp only[Act.put,List.setIfInBounds_toArray,List.set_cons_zero,List.set_cons_succ])
       refine wpAnyH_ready (rs:= [6]) (by kernel_rfl) (by simp) ?_
       refine AllReadyH.cons (o:= { dst:=some 76,op:=Op.call { callee:=Callee.value (Operand.func 139),args:= #[Operand.tmp 75,Operand.const (Value.int IntKind.i64 8)],argTypes:= #[184,3] },type:=3,pos:= "l03_pack.go:414",after:= #[{ on:=5,ground:=Ground.data }],guard:=none }) rfl (fun K hK=> ?_) AllReadyH.nil
       go_simp
       refine(HT.out wr.drew R1).mono ?_
       rintro e x5 ⟨rfl,R5,M5,L5⟩
       have T5:Bt c wr x5:=((Bt.refl c wr).drew).trans (Bt.of M5 L5)
       have O5:=T5.own O1 hne
       have B5:=HBL.out.trans (T5.below hB hBwr)
       have c52:x5.cell? ⟨c,2,none⟩=some (.slice va k vc):=cell_at R5 2
       have m52:=heap_old R5 (.cells #[.int .u8 (b:Int)] 5)
       have c62:(x5.alloc (.cells #[.int .u8 (b:Int)] 5)).cell? ⟨c,2,none⟩=some (.slice va k vc):=cell_at m52 2
       have hx5:w.heap.size≤x5.heap.size:=B5.size
       refine hK.out _ _ trivial (fun hHeld=> ?_)
       clear hK K
       (try simp only[Act.put,List.setIfInBounds_toArray,List.set_cons_zero,List.set_cons_succ])
       refine wpAnyH_take (i:=7) (oi:= { dst:=some 77,op:=Op.convert 3 5 (Operand.tmp 76),type:=5,pos:= "l03_pack.go:414",after:= #[{ on:=6,ground:=Ground.data }],guard:=none }) (v:= ?_) rfl (by kernel_rfl) (by kernel_rfl) (by kernel_rfl) (fun _ _ _ h=>h) (Or.inl ⟨by rfl,?_⟩) (by assumption) ?_
       rotate_left 1
       ·(intro wS hSw;(try dsimp only at hSw);go_simp;try (with_reducible rfl))
       (try simp only[Act.put,List.setIfInBounds_toArray,List.set_cons_zero,List.set_cons_succ])
       refine wpAnyH_ready (rs:= [8]) (by kernel_rfl) (by simp) ?_
       refine AllReadyH.cons (o:= { dst:=some 78,op:=Op.buildSlice 22 1 #[(0,Operand.tmp 77)],type:=22,pos:= "l03_pack.go:414",after:= #[{ on:=7,ground:=Ground.data }],guard:=none }) rfl (fun K hK=> ?_) AllReadyH.nil
       go_simp
       refine hK.out _ _ trivial (fun hHeld=> ?_)
       clear hK K
       (try simp only[Act.put,List.setIfInBounds_toArray,List.set_cons_zero,List.set_cons_succ])
       refine wpAnyH_ready (rs:= [9]) (by kernel_rfl) (by simp) ?_
       refine AllReadyH.cons (o:= { dst:=some 79,op:=Op.call { callee:=Callee.builtin Builtin.append,args:= #[Operand.tmp 74,Operand.tmp 78],argTypes:= #[22,22] },type:=22,pos:= "l03_pack.go:414",after:= #[{ on:=4,ground:=Ground.data },{ on:=8,ground:=Ground.data },{ on:=6,ground:=Ground.chain }],guard:=none }) rfl (fun K hK=> ?_) AllReadyH.nil
       refine step_append_lies _ (by rfl) _ _ _ (by rfl) w.heap.size 5 i0 _ 1 1 Tryz.underlying22 hi hz0 hz1 hz2 rfl (by omega) (.slice va k vc) k (bcells out) (by rfl) (O5.alloc _) ⟨x5.heap.size,0,none⟩ 1 1 [.int .u8 (b:Int)] (by rfl) (by rfl) (World.news_of_block (cs:= #[.int .u8 (b:Int)]) (t:=5) (fr:=(0,0)) (heap_alloc_new x5 _)) (by simp[Value.oneCell']) (by omega) (by unfold maxLen;omega) (by omega) (by simp;omega) (x5.heap.size+1) (by simp) ?_
       intro gg cap6 w6 hown1 hgrow hat hlt
       have m6:RdI c s (40+8*k+8) (.slice va k vc) w6:=(hgrow.block c (lt_of m52) (own_ne (O5.alloc _) m52 (by decide))).trans m52
       have L6:Below B w w6:=(B5.alloc (by omega) _).grown hgrow (by simp;omega) (fun m h=>Nat.le_trans hB2 (own_ge O5 m h))
       rw[HSN.out]at hown1
       have K7:Bk B c s (40+8*k+8) out2 (some ⟨gg,0,none⟩) cap6 w (w6.setCell ⟨c,2,none⟩ (.slice (some ⟨gg,0,none⟩) (k+1) cap6)):=HPT.out w6 gg cap6 m6 hown1 L6
       have c6:w6.cell? ⟨c,2,none⟩=some (.slice va k vc):=cell_at m6 2
       have f6:w6.frozen? ⟨c,2,none⟩=false:=frozen_at m6 2
       have HK7:Hid (_):=K7
       clear K7 hown1 hgrow m6 L6 O5 B5 T5 m52 c52 c62 R5 M5 L5
       refine hK.out _ _ trivial (fun hHeld=> ?_)
       clear hK K
       (try simp only[Act.put,List.setIfInBounds_toArray,List.set_cons_zero,List.set_cons_succ])
       refine wpAnyH_take (i:=10) (oi:= { dst:=some 80,op:=Op.nilCheck (Operand.tmp 70),type:=0,pos:= "l03_pack.go:414",after:= #[{ on:=0,ground:=Ground.data },{ on:=0,ground:=Ground.phase },{ on:=1,ground:=Ground.phase },{ on:=2,ground:=Ground.phase },{ on:=3,ground:=Ground.phase },{ on:=4,ground:=Ground.phase },{ on:=5,ground:=Ground.phase },{ on:=6,ground:=Ground.phase },{ on:=7,ground:=Ground.phase },{ on:=8,ground:=Ground.phase },{ on:=9,ground:=Ground.phase }],guard:=none }) (v:= ?_) rfl (by kernel_rfl) (by kernel_rfl) (by kernel_rfl) (fun _ _ _ h=>h) (Or.inl ⟨by rfl,?_⟩) (by assumption) ?_
       rotate_left 1
       ·(intro wS hSw;(try dsimp only at hSw);go_simp;try (with_reducible rfl))
       (try simp only[Act.put,List.setIfInBounds_toArray,List.set_cons_zero,List.set_cons_succ])
       refine wpAnyH_take (i:=11) (oi:= { dst:=some 81,op:=Op.fieldAddr 163 (Operand.tmp 80) 2,type:=0,pos:= "l03_pack.go:414",after:= #[{ on:=10,ground:=Ground.data },{ on:=0,ground:=Ground.phase },{ on:=1,ground:=Ground.phase },{ on:=2,ground:=Ground.phase },{ on:=3,ground:=Ground.phase },{ on:=4,ground:=Ground.phase },{ on:=5,ground:=Ground.phase },{ on:=6,ground:=Ground.phase },{ on:=7,ground:=Ground.phase },{ on:=8,ground:=Ground.phase },{ on:=9,ground:=Ground.phase }],guard:=none }) (v:= ?_) rfl (by kernel_rfl) (by kernel_rfl) (by kernel_rfl) (fun _ _ _ h=>h) (Or.inl ⟨by rfl,?_⟩) (by assumption) ?_
       rotate_left 1
       ·(intro wS hSw;(try dsimp only at hSw);go_simp;try (with_reducible rfl))
       (try simp only[Act.put,List.setIfInBounds_toArray,List.set_cons_zero,List.set_cons_succ])
       refine wpAnyH_ready (rs:= [12]) (by kernel_rfl) (by simp) ?_
       refine AllReadyH.cons (o:= { dst:=none,op:=Op.store 22 (Operand.tmp 81) (Operand.tmp 79),type:=0,pos:= "l03_pack.go:414",after:= #[{ on:=11,ground:=Ground.data },{ on:=9,ground:=Ground.data },{ on:=9,ground:=Ground.chain },{ on:=0,ground:=Ground.phase },{ on:=1,ground:=Ground.phase },{ on:=2,ground:=Ground.phase },{ on:=3,ground:=Ground.phase },{ on:=4,ground:=Ground.phase },{ on:=5,ground:=Ground.phase },{ on:=6,ground:=Ground.phase },{ on:=7,ground:=Ground.phase },{ on:=8,ground:=Ground.phase },{ on:=9,ground:=Ground.phase }],guard:=none }) rfl (fun K hK=> ?_) AllReadyH.nil
       go_simp
       refine hK.out _ _ trivial (fun hHeld=> ?_)
       clear hK K
       (try simp only[Act.put,List.setIfInBounds_toArray,List.set_cons_zero,List.set_cons_succ])
       refine wpAnyH_done (by kernel_rfl) ?_ _
       go_wp2
       go_roundw
       case rel=>exact⟨k+1,some ⟨gg,0,none⟩,cap6,by omega,by go_num,by omega,by rw[show 40+8*(k+1)=40+8*k+8 by omega,HO2.out];exact HK7⟩
       case measure=>simp[intOf];omega
      ·skip
       go_simp
       refine(HT.out wr.drew R1).mono ?_
       rintro e x5 ⟨rfl,R5,M5,L5⟩
       have T5:Bt c wr x5:=((Bt.refl c wr).drew).trans (Bt.of M5 L5)
       have O5:=T5.own O1 hne
       have B5:=HBL.out.trans (T5.below hB hBwr)
       have c52:x5.cell? ⟨c,2,none⟩=some (.slice va k vc):=cell_at R5 2
       have m52:=heap_old R5 (.cells #[.int .u8 (b:Int)] 5)
       have c62:(x5.alloc (.cells #[.int .u8 (b:Int)] 5)).cell? ⟨c,2,none⟩=some (.slice va k vc):=cell_at m52 2
       have hx5:w.heap.size≤x5.heap.size:=B5.size
       refine hK.out _ _ trivial (fun hHeld=> ?_)
       clear hK K
       (try simp only[Act.put,List.setIfInBounds_toArray,List.set_cons_zero,List.set_cons_succ])
       refine wpAnyH_take (i:=7) (oi:= { dst:=some 77,op:=Op.convert 3 5 (Operand.tmp 76),type:=5,pos:= "l03_pack.go:414",after:= #[{ on:=6,ground:=Ground.data }],guard:=none }) (v:= ?_) rfl (by kernel_rfl) (by kernel_rfl) (by kernel_rfl) (fun _ _ _ h=>h) (Or.inl ⟨by rfl,?_⟩) (by assumption) ?_
       rotate_left 1
       ·(intro wS hSw;(try dsimp only at hSw);go_simp;try (with_reducible rfl))
       (try simp only[Act.put,List.setIfInBounds_toArray,List.set_cons_zero,List.set_cons_succ])
       refine wpAnyH_ready (rs:= [4,8]) (by kernel_rfl) (by simp) ?_
       refine AllReadyH.cons (o:= { dst:=some 74,op:=Op.load 22 (Operand.tmp 73),type:=22,pos:= "l03_pack.go:414",after:= #[{ on:=3,ground:=Ground.data }],guard:=none }) rfl (fun K hK=> ?_) (AllReadyH.cons (o:= { dst:=some 78,op:=Op.buildSlice 22 1 #[(0,Operand.tmp 77)],type:=22,pos:= "l03_pack.go:414",after:= #[{ on:=7,ground:=Ground.data }],guard:=none }) rfl (fun K hK=> ?_) AllReadyH.nil)
       ·skip
        go_simp
        refine hK.out _ _ trivial (fun hHeld=> ?_)
        clear hK K
        (try simp only[Act.put,List.setIfInBounds_toArray,List.set_cons_zero,List.set_cons_succ])
        refine wpAnyH_ready (rs:= [8]) (by kernel_rfl) (by simp) ?_
        refine AllReadyH.cons (o:= { dst:=some 78,op:=Op.buildSlice 22 1 #[(0,Operand.tmp 77)],type:=22,pos:= "l03_pack.go:414",after:= #[{ on:=7,ground:=Ground.data }],guard:=none }) rfl (fun K hK=> ?_) AllReadyH.nil
        go_simp
        refine hK.out _ _ trivial (fun hHeld=> ?_)
        clear hK K
        (try simp only[Act.put,List.setIfInBounds_toArray,List.set_cons_zero,List.set_cons_succ])
        refine wpAnyH_ready (rs:= [9]) (by kernel_rfl) (by simp) ?_
        refine AllReadyH.cons (o:= { dst:=some 79,op:=Op.call { callee:=Callee.builtin Builtin.append,args:= #[Operand.tmp 74,Operand.tmp 78],argTypes:= #[22,22] },type:=22,pos:= "l03_pack.go:414",after:= #[{ on:=4,ground:=Ground.data },{ on:=8,ground:=Ground.data },{ on:=6,ground:=Ground.chain }],guard:=none }) rfl (fun K hK=> ?_) AllReadyH.nil
        refine step_append_lies _ (by rfl) _ _ _ (by rfl) w.heap.size 5 i0 _ 1 1 Tryz.underlying22 hi hz0 hz1 hz2 rfl (by omega) (.slice va k vc) k (bcells out) (by rfl) (O5.alloc _) ⟨x5.heap.size,0,none⟩ 1 1 [.int .u8 (b:Int)] (by rfl) (by rfl) (World.news_of_block (cs:= #[.int .u8 (b:Int)]) (t:=5) (fr:=(0,0)) (heap_alloc_new x5 _)) (by simp[Value.oneCell']) (by omega) (by unfold maxLen;omega) (by omega) (by simp;omega) (x5.heap.size+1) (by simp) ?_
        intro gg cap6 w6 hown1 hgrow hat hlt
        have m6:RdI c s (40+8*k+8) (.slice va k vc) w6:=(hgrow.block c (lt_of m52) (own_ne (O5.alloc _) m52 (by decide))).trans m52
        have L6:Below B w w6:=(B5.alloc (by omega) _).grown hgrow (by simp;omega) (fun m h=>Nat.le_trans hB2 (own_ge O5 m h))
        rw[HSN.out]at hown1
        have K7:Bk B c s (40+8*k+8) out2 (some ⟨gg,0,none⟩) cap6 w (w6.setCell ⟨c,2,none⟩ (.slice (some ⟨gg,0,none⟩) (k+1) cap6)):=HPT.out w6 gg cap6 m6 hown1 L6
        have c6:w6.cell? ⟨c,2,none⟩=some (.slice va k vc):=cell_at m6 2
        have f6:w6.frozen? ⟨c,2,none⟩=false:=frozen_at m6 2
        have HK7:Hid (_):=K7
        clear K7 hown1 hgrow m6 L6 O5 B5 T5 m52 c52 c62 R5 M5 L5
        refine hK.out _ _ trivial (fun hHeld=> ?_)
        clear hK K
        (try simp only[Act.put,List.setIfInBounds_toArray,List.set_cons_zero,List.set_cons_succ])
        refine wpAnyH_take (i:=10) (oi:= { dst:=some 80,op:=Op.nilCheck (Operand.tmp 70),type:=0,pos:= "l03_pack.go:414",after:= #[{ on:=0,ground:=Ground.data },{ on:=0,ground:=Ground.phase },{ on:=1,ground:=Ground.phase },{ on:=2,ground:=Ground.phase },{ on:=3,ground:=Ground.phase },{ on:=4,ground:=Ground.phase },{ on:=5,ground:=Ground.phase },{ on:=6,ground:=Ground.phase },{ on:=7,ground:=Ground.phase },{ on:=8,ground:=Ground.phase },{ on:=9,ground:=Ground.phase }],guard:=none }) (v:= ?_) rfl (by kernel_rfl) (by kernel_rfl) (by kernel_rfl) (fun _ _ _ h=>h) (Or.inl ⟨by rfl,?_⟩) (by assumption) ?_
        rotate_left 1
        ·(intro wS hSw;(try dsimp only at hSw);go_simp;try (with_reducible rfl))
        (try simp only[Act.put,List.setIfInBounds_toArray,List.set_cons_zero,List.set_cons_succ])
        refine wpAnyH_take (i:=11) (oi:= { dst:=some 81,op:=Op.fieldAddr 163 (Operand.tmp 80) 2,type:=0,pos:= "l03_pack.go:414",after:= #[{ on:=10,ground:=Ground.data },{ on:=0,ground:=Ground.phase },{ on:=1,ground:=Ground.phase },{ on:=2,ground:=Ground.phase },{ on:=3,ground:=Ground.phase },{ on:=4,ground:=Ground.phase },{ on:=5,ground:=Ground.phase },{ on:=6,ground:=Ground.phase },{ on:=7,ground:=Ground.phase },{ on:=8,ground:=Ground.phase },{ on:=9,ground:=Ground.phase }],guard:=none }) (v:= ?_) rfl (by kernel_rfl) (by kernel_rfl) (by kernel_rfl) (fun _ _ _ h=>h) (Or.inl ⟨by rfl,?_⟩) (by assumption) ?_
        rotate_left 1
        ·(intro wS hSw;(try dsimp only at hSw);go_simp;try (with_reducible rfl))
        (try simp only[Act.put,List.setIfInBounds_toArray,List.set_cons_zero,List.set_cons_succ])
        refine wpAnyH_ready (rs:= [12]) (by kernel_rfl) (by simp) ?_
        refine AllReadyH.cons (o:= { dst:=none,op:=Op.store 22 (Operand.tmp 81) (Operand.tmp 79),type:=0,pos:= "l03_pack.go:414",after:= #[{ on:=11,ground:=Ground.data },{ on:=9,ground:=Ground.data },{ on:=9,ground:=Ground.chain },{ on:=0,ground:=Ground.phase },{ on:=1,ground:=Ground.phase },{ on:=2,ground:=Ground.phase },{ on:=3,ground:=Ground.phase },{ on:=4,ground:=Ground.phase },{ on:=5,ground:=Ground.phase },{ on:=6,ground:=Ground.phase },{ on:=7,ground:=Ground.phase },{ on:=8,ground:=Ground.phase },{ on:=9,ground:=Ground.phase }],guard:=none }) rfl (fun K hK=> ?_) AllReadyH.nil
        go_simp
        refine hK.out _ _ trivial (fun hHeld=> ?_)
        clear hK K
        (try simp only[Act.put,List.setIfInBounds_toArray,List.set_cons_zero,List.set_cons_succ])
        refine wpAnyH_done (by kernel_rfl) ?_ _
        go_wp2
        go_roundw
        case rel=>exact⟨k+1,some ⟨gg,0,none⟩,cap6,by omega,by go_num,by omega,by rw[show 40+8*(k+1)=40+8*k+8 by omega,HO2.out];exact HK7⟩
        case measure=>simp[intOf];omega
       ·skip
        go_simp
        refine hK.out _ _ trivial (fun hHeld=> ?_)
        clear hK K
        (try simp only[Act.put,List.setIfInBounds_toArray,List.set_cons_zero,List.set_cons_succ])
        refine wpAnyH_ready (rs:= [4]) (by kernel_rfl) (by simp) ?_
        refine AllReadyH.cons (o:= { dst:=some 74,op:=Op.load 22 (Operand.tmp 73),type:=22,pos:= "l03_pack.go:414",after:= #[{ on:=3,ground:=Ground.data }],guard:=none }) rfl (fun K hK=> ?_) AllReadyH.nil
        go_simp
        refine hK.out _ _ trivial (fun hHeld=> ?_)
        clear hK K
        (try simp only[Act.put,List.setIfInBounds_toArray,List.set_cons_zero,List.set_cons_succ])
        refine wpAnyH_ready (rs:= [9]) (by kernel_rfl) (by simp) ?_
        refine AllReadyH.cons (o:= { dst:=some 79,op:=Op.call { callee:=Callee.builtin Builtin.append,args:= #[Operand.tmp 74,Operand.tmp 78],argTypes:= #[22,22] },type:=22,pos:= "l03_pack.go:414",after:= #[{ on:=4,ground:=Ground.data },{ on:=8,ground:=Ground.data },{ on:=6,ground:=Ground.chain }],guard:=none }) rfl (fun K hK=> ?_) AllReadyH.nil
        refine step_append_lies _ (by rfl) _ _ _ (by rfl) w.heap.size 5 i0 _ 1 1 Tryz.underlying22 hi hz0 hz1 hz2 rfl (by omega) (.slice va k vc) k (bcells out) (by rfl) (O5.alloc _) ⟨x5.heap.size,0,none⟩ 1 1 [.int .u8 (b:Int)] (by rfl) (by rfl) (World.news_of_block (cs:= #[.int .u8 (b:Int)]) (t:=5) (fr:=(0,0)) (heap_alloc_new x5 _)) (by simp[Value.oneCell']) (by omega) (by unfold maxLen;omega) (by omega) (by simp;omega) (x5.heap.size+1) (by simp) ?_
        intro gg cap6 w6 hown1 hgrow hat hlt
        have m6:RdI c s (40+8*k+8) (.slice va k vc) w6:=(hgrow.block c (lt_of m52) (own_ne (O5.alloc _) m52 (by decide))).trans m52
        have L6:Below B w w6:=(B5.alloc (by omega) _).grown hgrow (by simp;omega) (fun m h=>Nat.le_trans hB2 (own_ge O5 m h))
        rw[HSN.out]at hown1
        have K7:Bk B c s (40+8*k+8) out2 (some ⟨gg,0,none⟩) cap6 w (w6.setCell ⟨c,2,none⟩ (.slice (some ⟨gg,0,none⟩) (k+1) cap6)):=HPT.out w6 gg cap6 m6 hown1 L6
        have c6:w6.cell? ⟨c,2,none⟩=some (.slice va k vc):=cell_at m6 2
        have f6:w6.frozen? ⟨c,2,none⟩=false:=frozen_at m6 2
        have HK7:Hid (_):=K7
        clear K7 hown1 hgrow m6 L6 O5 B5 T5 m52 c52 c62 R5 M5 L5
        refine hK.out _ _ trivial (fun hHeld=> ?_)
        clear hK K
        (try simp only[Act.put,List.setIfInBounds_toArray,List.set_cons_zero,List.set_cons_succ])
        refine wpAnyH_take (i:=10) (oi:= { dst:=some 80,op:=Op.nilCheck (Operand.tmp 70),type:=0,pos:= "l03_pack.go:414",after:= #[{ on:=0,ground:=Ground.data },{ on:=0,ground:=Ground.phase },{ on:=1,ground:=Ground.phase },{ on:=2,ground:=Ground.phase },{ on:=3,ground:=Ground.phase },{ on:=4,ground:=Ground.phase },{ on:=5,ground:=Ground.phase },{ on:=6,ground:=Ground.phase },{ on:=7,ground:=Ground.phase },{ on:=8,ground:=Ground.phase },{ on:=9,ground:=Ground.phase }],guard:=none }) (v:= ?_) rfl (by kernel_rfl) (by kernel_rfl) (by kernel_rfl) (fun _ _ _ h=>h) (Or.inl ⟨by rfl,?_⟩) (by assumption) ?_
        rotate_left 1
        ·(intro wS hSw;(try dsimp only at hSw);go_simp;try (with_reducible rfl))
        (try simp only[Act.put,List.setIfInBounds_toArray,List.set_cons_zero,List.set_cons_succ])
        refine wpAnyH_take (i:=11) (oi:= { dst:=some 81,op:=Op.fieldAddr 163 (Operand.tmp 80) 2,type:=0,pos:= "l03_pack.go:414",after:= #[{ on:=10,ground:=Ground.data },{ on:=0,ground:=Ground.phase },{ on:=1,ground:=Ground.phase },{ on:=2,ground:=Ground.phase },{ on:=3,ground:=Ground.phase },{ on:=4,ground:=Ground.phase },{ on:=5,ground:=Ground.phase },{ on:=6,ground:=Ground.phase },{ on:=7,ground:=Ground.phase },{ on:=8,ground:=Ground.phase },{ on:=9,ground:=Ground.phase }],guard:=none }) (v:= ?_) rfl (by kernel_rfl) (by kernel_rfl) (by kernel_rfl) (fun _ _ _ h=>h) (Or.inl ⟨by rfl,?_⟩) (by assumption) ?_
        rotate_left 1
        ·(intro wS hSw;(try dsimp only at hSw);go_simp;try (with_reducible rfl))
        (try simp only[Act.put,List.setIfInBounds_toArray,List.set_cons_zero,List.set_cons_succ])
        refine wpAnyH_ready (rs:= [12]) (by kernel_rfl) (by simp) ?_
        refine AllReadyH.cons (o:= { dst:=none,op:=Op.store 22 (Operand.tmp 81) (Operand.tmp 79),type:=0,pos:= "l03_pack.go:414",after:= #[{ on:=11,ground:=Ground.data },{ on:=9,ground:=Ground.data },{ on:=9,ground:=Ground.chain },{ on:=0,ground:=Ground.phase },{ on:=1,ground:=Ground.phase },{ on:=2,ground:=Ground.phase },{ on:=3,ground:=Ground.phase },{ on:=4,ground:=Ground.phase },{ on:=5,ground:=Ground.phase },{ on:=6,ground:=Ground.phase },{ on:=7,ground:=Ground.phase },{ on:=8,ground:=Ground.phase },{ on:=9,ground:=Ground.phase }],guard:=none }) rfl (fun K hK=> ?_) AllReadyH.nil
        go_simp
        refine hK.out _ _ trivial (fun hHeld=> ?_)
        clear hK K
        (try simp only[Act.put,List.setIfInBounds_toArray,List.set_cons_zero,List.set_cons_succ])
        refine wpAnyH_done (by kernel_rfl) ?_ _
        go_wp2
        go_roundw
        case rel=>exact⟨k+1,some ⟨gg,0,none⟩,cap6,by omega,by go_num,by omega,by rw[show 40+8*(k+1)=40+8*k+8 by omega,HO2.out];exact HK7⟩
        case measure=>simp[intOf];omega
    ·obtain rfl:k=n:=by omega
     have hkI:¬(k:Int)<(k:Int):=by omega
     have h0:storedC s=0:=HS2.out.trans (if_neg (by omega))
     have hT:=HTT.out h0
     have hlist:(Math.storedT s).data.toList=(s.data.toList.drop 5).take k:=by rw[hT,ByteArray.data_extract,Array.toList_extract];simp[List.extract]
     have HF:Hid (body s=(0,(s.data.toList.drop 5).take k,40+8*k)):=by show body s=_;rw[HBO.out,h0,hlist]
     have HR:Hid (_):=restI_val c s (40+8*k) (.slice va ((s.data.toList.drop 5).take k).length vc) wr (by omega) (by omega) HK.out.rd
     clear HTT HBO h0 hT hlist
     go_wp2
     go_step3
     rename_i hK2
     refine hK2 _ _ ?_
     go_wp2_with fail
     refine Calls.mono HR.out ?_
     rintro e w9 ⟨⟨h0,h6⟩,T⟩
     obtain⟨k1,k2,k3⟩:=HKN.out
     have hu:=(Math.unp_body k1 k2 k3 HF.out).2 rfl
     by_cases hr:rst s 8 (40+8*k)=0
     ·obtain⟨rfl,q,R⟩:=h0 hr
      have K2:=HK.out.mv R T hB hB2
      go_wp2
      exact⟨rfl,_,results_none rfl _ _ _,⟨fun h=>absurd (hu.1.trans hr) h,fun _=>⟨rfl,q,va,vc,_,hu.2 (hu.1.trans hr),K2⟩,K2.bl⟩⟩
     ·obtain⟨h7,rfl⟩:=h6 hr
      exact⟨rfl,blk_code (k:=6) (hu.1.trans h7) (by omega) (HK.out.bl.trans (T.below hB (Nat.le_trans hB2 HK.out.bl.size)))⟩
  ·obtain⟨u,x3,rfl⟩:∃u x3,a'=bAct c u x3:=⟨_,_,hA⟩
   clear hA
   refine⟨_,rfl,?_⟩
   unfold bAct
   have hBw:B≤w'.heap.size:=Nat.le_trans hB2 K.bl.size
   have HS:Hid (_):=symI_val 0 c s a (.slice va out.length vc) w' (by omega) (Nat.zero_le _) (Nat.zero_le _) ha (HRU.out.on K.bl hrB) K.rd
   obtain⟨hn7,hn9⟩:=Math.symLen_bd s a
   have hys:=Math.symAt_lt s a
   obtain⟨g,rfl⟩:∃k,g=k+1:=⟨g-1,by omega⟩
   obtain⟨nl,hnl⟩:∃nl,symLen s a=nl:=⟨_,rfl⟩
   obtain⟨y,hy⟩:∃y,symAt s a=y:=⟨_,rfl⟩
   have HNN:Hid (symLen s a=nl):=hnl
   have HYY:Hid (symAt s a=y):=hy
   unfold SymEnd at HS
   rw[hnl,hy]at HS
   rw[hnl]at hn7 hn9
   rw[hy]at hys
   clear hnl hy
   have c1:w'.cell? ⟨c,1,none⟩=some (.int .i64 (a:Int)):=cell_at K.rd 1
   have HMS:Hid (∀A,MM c s 1 A w'=1+(8*s.size-a)):=fun A=>by unfold MM;rw[if_neg (by omega),if_neg (by omega),c1];simp[intOf]
   clear c1
   go_wp2_with fail
   refine Calls.mono HS.out ?_
   rintro e w2 ⟨⟨e1,e2,e3⟩,T⟩
   have L2:=K.bl.trans (T.below hB hBw)
   by_cases hcut:8*s.size<a+nl
   ·obtain rfl:=e1 hcut
    have HX:=HF.out.trans (Math.fix_cut (by rw[HNN.out];exact hcut))
    exact⟨rfl,blk_bad (k:=1) HKN.out HX (by omega) L2⟩
   by_cases h285:285<y
   ·obtain rfl:=e2 hcut h285
    have HX:=HF.out.trans (Math.fix_sym (by rw[HNN.out];exact hcut) (by rw[HYY.out];exact h285))
    exact⟨rfl,blk_bad (k:=3) HKN.out HX (by omega) L2⟩
   obtain⟨rfl,R2⟩:=e3 hcut h285
   have K2:=K.mv R2 T hB hB2
   clear e1 e2 e3 T HS L2
   have c21:w2.cell? ⟨c,1,none⟩=some (.int .i64 ((a+nl:Nat):Int)):=cell_at R2 1
   have HK2:Hid (_):=K2
   by_cases h256:y=256
   ·subst h256
    have HX:Hid (_):=HF.out.trans (Math.fix_end (by rw[HNN.out];exact hcut) HYY.out)
    rw[HNN.out]at HX
    clear K2 R2 c21 K HF
    go_wp2
    go_step3
    refine⟨Or.inr (Or.inr (Or.inl ⟨rfl,rfl,a+nl,out,va,vc,by omega,HX,HK2.out⟩)),?_⟩
    rw[HMS.out]
    show 0<_
    omega
   have h256I:¬(y:Int)=256:=by omega
   by_cases hgt:256<y
   ·have hgI:(256:Int)<(y:Int):=by omega
    clear K2 R2 K
    go_wp2
    go_step3
    refine⟨Or.inr (Or.inr (Or.inr ⟨rfl,a,g,y,nl,rfl,out,va,vc,by omega,hn7,hn9,hol,hg,hgt,by omega,HYY,HNN,HF,HK2.out⟩)),?_⟩
    rw[HMS.out]
    show(1+(8*s.size-(intOf ((w2.cell? ⟨c,1,none⟩).getD undef)).toNat))<_
    rw[c21]
    simp[intOf]
    omega
   have hlt:y<256:=by omega
   have hgI:¬(256:Int)<(y:Int):=by omega
   have HBY:Hid (_):=beyond_val c s (a+nl) out.length 1 va vc w2 (by omega) (by omega) R2
   rw[show((1:Nat):Int)=1 from rfl]at HBY
   clear R2 K
   go_wp2_with fail
   refine Calls.mono HBY.out ?_
   rintro e w3 ⟨⟨e5,e0⟩,rfl⟩
   by_cases hful:3000<out.length+1
   ·obtain rfl:=e5 hful
    have HX:=HF.out.trans (Math.fix_full (by rw[HNN.out];exact hcut) (by rw[HYY.out];exact hlt) hful)
    exact⟨rfl,blk_bad (k:=5) HKN.out HX (by omega) K2.bl⟩
   obtain rfl:=e0 hful
   have HX:Hid (_):=HF.out.trans (Math.fix_byte (by rw[HNN.out];exact hcut) (by rw[HYY.out];exact hlt) hful)
   rw[HNN.out,HYY.out]at HX
   have c22:w3.cell? ⟨c,2,none⟩=some (.slice va out.length vc):=cell_at K2.rd 2
   have f22:w3.frozen? ⟨c,2,none⟩=false:=frozen_at K2.rd 2
   have hown2:=K2.own
   have hB3:B≤w3.heap.size:=Nat.le_trans hB2 K2.bl.size
   have HL3:Hid (_):=K2.bl
   have hw3w:w.heap.size≤w3.heap.size:=K2.bl.size
   have HRD:Hid (_):=K2.rd
   have hwy:IntKind.u8.wrap (y:Int)=(y:Int):=by rw[IntKind.wrap_u8];omega
   have HBT:Hid (((UInt8.ofNat y).toNat:Int)=(y:Int)):=by show((UInt8.ofNat y).toNat:Int)=(y:Int);rw[UInt8.toNat_ofNat'];omega
   clear K2 e5 e0 HBY HF
   go_wp2_with (at_builtin;refine wpList_append_own _ rfl _ _ 22 rfl w.heap.size 5 i0 (.int .u8 0) 1 1 Tryz.underlying22 hi hz0 hz1 hz2 rfl (by decide) _ _ _ rfl (hown2.alloc _) ⟨w3.heap.size,0,none⟩ 1 1 [.int .u8 (y:Int)] rfl rfl ?c1 ?c2 ?c3 ?c4 ?c5 ?_)
   case c1=>exact cell_one_new _ _ _
   case c2=>intro u hu;simp at hu;subst hu;rfl
   case c3=>unfold maxLen;omega
   case c4=>omega
   case c5=>simp;omega
   intro v' w4 hown3 hgrow _
   rw[←HBT.out,bcells_snoc]at hown3
   have m2:=heap_old HRD.out (.cells #[.int .u8 (y:Int)] 5)
   have m4:RdI c s (a+nl) (.slice va out.length vc) w4:=(hgrow.block c (lt_of m2) (own_ne (hown2.alloc _) m2 (by decide))).trans m2
   have L4:Below B w w4:=(HL3.out.alloc (by omega) _).grown hgrow (by simp;omega) (fun m h=>Nat.le_trans hB2 (own_ge hown2 m h))
   obtain⟨va3,vc3,rfl,-⟩:=own_form hown3
   have hown4:w4.ownsRow w.heap.size 5 1 (.slice va3 (out++ [UInt8.ofNat y]).length vc3) (out++ [UInt8.ofNat y]).length (bcells (out++ [UInt8.ofNat y])):=by rw[List.length_append];exact hown3
   have K5:=HK2.out.put hB m4 hown4 L4
   rw[show(out++ [UInt8.ofNat y]).length=out.length+1 from List.length_append]at K5
   have c42:w4.cell? ⟨c,2,none⟩=some (.slice va out.length vc):=cell_at m4 2
   have f42:w4.frozen? ⟨c,2,none⟩=false:=frozen_at m4 2
   have HK5:Hid (_):=K5
   have c51:Hid ((w4.setCell ⟨c,2,none⟩ (.slice va3 (out.length+1) vc3)).cell? ⟨c,1,none⟩=some (.int .i64 ((a+nl:Nat):Int))):=cell_at K5.rd 1
   clear K5 hown3 hown4 hown2 hgrow m2 L4 c21 c22 f22 m4
   go_wp2
   go_step3
   refine⟨Or.inr (Or.inl ⟨rfl,rfl,a+nl,g,out++ [UInt8.ofNat y],va3,vc3,by omega,by rw[List.length_append];simp;omega,by omega,HX,HK5.out⟩),?_⟩
   rw[HMS.out]
   show(1+(8*s.size-(intOf (((w4.setCell ⟨c,2,none⟩ (.slice va3 (out.length+1) vc3)).cell? ⟨c,1,none⟩).getD undef)).toNat))<_
   rw[c51.out]
   simp[intOf]
   omega
  ·obtain⟨u,x3,rfl⟩:∃u x3,a'=bAct c u x3:=⟨_,_,hA⟩
   clear hA
   have HR:Hid (_):=restI_val c s a (.slice va out.length vc) w' (by omega) ha K.rd
   refine⟨_,rfl,?_⟩
   unfold bAct
   go_wp2_with fail
   refine Calls.mono HR.out ?_
   rintro e w2 ⟨⟨h0,h6⟩,T⟩
   obtain⟨k1,k2,k3⟩:=HKN.out
   have hu:=(Math.unp_body k1 k2 k3 HF.out).2 rfl
   by_cases hr:rst s 8 a=0
   ·obtain⟨rfl,q,R⟩:=h0 hr
    have K2:=K.mv R T hB hB2
    go_wp2
    exact⟨rfl,_,results_none rfl _ _ _,⟨fun h=>absurd (hu.1.trans hr) h,fun _=>⟨rfl,q,va,vc,out,hu.2 (hu.1.trans hr),K2⟩,K2.bl⟩⟩
   ·obtain⟨h7,rfl⟩:=h6 hr
    have hBw:B≤w'.heap.size:=Nat.le_trans hB2 K.bl.size
    exact⟨rfl,blk_code (k:=6) (hu.1.trans h7) (by omega) (K.bl.trans (T.below hB hBw))⟩
  ·obtain⟨u,rfl⟩:∃u,a'=bAct c u (.int .i64 (y:Int)):=⟨_,hA⟩
   clear hA
   refine⟨_,rfl,?_⟩
   unfold bAct
   have hBw:B≤w'.heap.size:=Nat.le_trans hB2 K.bl.size
   have c1:w'.cell? ⟨c,1,none⟩=some (.int .i64 ((a+nl:Nat):Int)):=cell_at K.rd 1
   have HMS:Hid (∀A,MM c s 3 A w'=1+(8*s.size-(a+nl))):=fun A=>by unfold MM;rw[if_neg (by omega),if_neg (by omega),c1];simp[intOf];omega
   have HLE:Hid (_):=lenI_val c s (a+nl) y (.slice va out.length vc) w' (by omega) ha (by omega) hy5 K.rd
   have hx1:¬8*s.size<a+symLen s a:=by rw[HN.out];omega
   have hx2:256<symAt s a:=by rw[HY.out];exact hy6
   have hx3:symAt s a≤285:=by rw[HY.out];exact hy5
   have hp1:p1 s a=a+nl+lenBits y:=by unfold p1;rw[HN.out,HY.out]
   have hnn:nn s a=lenTold s (a+nl) y:=by unfold nn;rw[HN.out,HY.out]
   have hnb:nn s a≤290:=by
    have h:=len_bds y (by omega) hy5
    have h5:lowAt s (a+nl) (lenBits y)<32:=Nat.lt_of_lt_of_le (Math.lowAt_lt s (a+nl) (lenBits y)) (Nat.le_trans (Nat.pow_le_pow_right (by omega) h.2) (by decide))
    rw[hnn,Math.lenTold_is]
    omega
   have HX1:Hid (_):=hx1
   have HX2:Hid (_):=hx2
   have HX3:Hid (_):=hx3
   have HP1:Hid (_):=hp1
   have HNV:Hid (_):=hnn
   rw[←hnn,←hp1]at HLE
   clear hx1 hx2 hx3 hnn c1
   obtain⟨n,hn⟩:∃n,nn s a=n:=⟨_,rfl⟩
   have HNQ:Hid (nn s a=n):=hn
   rw[hn]at HLE hnb
   obtain⟨P,hP⟩:∃P,p1 s a=P:=⟨_,rfl⟩
   have HPQ:Hid (p1 s a=P):=hP
   rw[hP]at HLE hp1
   have hPa:a+nl≤P:=by omega
   clear hn hP hp1
   go_wp2_with fail
   refine Calls.mono HLE.out ?_
   rintro e w2 ⟨⟨e1,e0⟩,T⟩
   have L2:=K.bl.trans (T.below hB hBw)
   by_cases hcut:8*s.size<P
   ·obtain rfl:=e1 hcut
    have HX:=HF.out.trans (Math.fix_cut2 HX1.out HX2.out HX3.out (by rw[HPQ.out];omega))
    exact⟨rfl,blk_bad (k:=1) HKN.out HX (by omega) L2⟩
   obtain⟨rfl,R2⟩:=e0 hcut
   have K2:=K.mv R2 T hB hB2
   have HBA:Hid (_):=backI_val c s P (.slice va out.length vc) w2 (by omega) (by omega) R2
   have hBw2:B≤w2.heap.size:=Nat.le_trans hB2 K2.bl.size
   have hbk:bk s a=topAt s P 5:=by unfold bk;rw[HPQ.out]
   have hp2:p2' s a=P+5+cbits 2 (bk s a):=by unfold p2';rw[HPQ.out]
   have hdd:dd s a=backTold s (P+5) (bk s a):=by unfold dd;rw[HPQ.out]
   rw[←hbk,←hdd,←hp2]at HBA
   have hdb:¬29<bk s a→1≤dd s a∧dd s a≤50000:=by
    intro h
    obtain⟨h1,h2⟩:=Math.back_bds (bk s a) (by omega)
    have h5:lowAt s (P+5) (cbits 2 (bk s a))<8192:=Nat.lt_of_lt_of_le (Math.lowAt_lt s (P+5) (cbits 2 (bk s a))) (Nat.le_trans (Nat.pow_le_pow_right (by omega) h2) (by decide))
    rw[Math.dd_is,HPQ.out]
    omega
   have hp2b:P+5≤p2' s a:=by omega
   have HDB:Hid (_):=hdb
   clear e1 e0 T HLE L2 K R2 hbk hdd hdb hp2
   obtain⟨d,hd⟩:∃d,dd s a=d:=⟨_,rfl⟩
   have HDQ:Hid (dd s a=d):=hd
   obtain⟨P2,hP2⟩:∃P2,p2' s a=P2:=⟨_,rfl⟩
   have HP2:Hid (p2' s a=P2):=hP2
   rw[hd,hP2]at HBA
   rw[hP2]at hp2b
   rw[hd]at HDB
   clear hd hP2
   go_wp2_with fail
   refine Calls.mono HBA.out ?_
   rintro e w3 ⟨⟨e1,e2,e3,e0⟩,T⟩
   have L3:=K2.bl.trans (T.below hB hBw2)
   by_cases hcut2:8*s.size<P+5
   ·obtain rfl:=e1 hcut2
    have HX:=HF.out.trans (Math.fix_cut2 HX1.out HX2.out HX3.out (by rw[HPQ.out];exact hcut2))
    exact⟨rfl,blk_bad (k:=1) HKN.out HX (by omega) L3⟩
   have HX4:Hid (¬8*s.size<p1 s a+5):=by show ¬_;rw[HPQ.out];exact hcut2
   by_cases h29:29<bk s a
   ·obtain rfl:=e2 hcut2 h29
    have HX:=HF.out.trans (Math.fix_sym2 HX1.out HX2.out HX3.out HX4.out h29)
    exact⟨rfl,blk_bad (k:=3) HKN.out HX (by omega) L3⟩
   by_cases hcut3:8*s.size<P2
   ·obtain rfl:=e3 hcut2 h29 hcut3
    have HX:=HF.out.trans (Math.fix_cut3 HX1.out HX2.out HX3.out HX4.out h29 (by rw[HP2.out];exact hcut3))
    exact⟨rfl,blk_bad (k:=1) HKN.out HX (by omega) L3⟩
   obtain⟨rfl,R3⟩:=e0 hcut2 h29 hcut3
   have K3:=K2.mv R3 T hB hB2
   have HX6:Hid (¬8*s.size<p2' s a):=by show ¬_;rw[HP2.out];exact hcut3
   have HX5:Hid (¬29<bk s a):=h29
   obtain⟨hd1,hd2⟩:=HDB.out h29
   clear e1 e2 e3 e0 T HBA L3 K2 h29 HDB
   have c2:w3.cell? ⟨c,2,none⟩=some (.slice va out.length vc):=cell_at K3.rd 2
   have HK3:Hid (_):=K3
   have HBY:Hid (_):=beyond_val c s P2 out.length n va vc w3 (by omega) (by omega) R3
   clear R3 K3
   by_cases hbk:out.length<d
   ·have hbI:(out.length:Int)<(d:Int):=by omega
    go_wp2_with fail
    refine(HRY.out 4 _).mono ?_
    rintro e w4 ⟨rfl,rfl⟩
    have HX:=HF.out.trans (Math.fix_back HX1.out HX2.out HX3.out HX4.out HX5.out HX6.out (by rw[HDQ.out];exact hbk))
    exact⟨rfl,blk_bad (k:=4) HKN.out HX (by omega) HK3.out.bl⟩
   have HX7:Hid (¬out.length<dd s a):=by show ¬_;rw[HDQ.out];exact hbk
   have hbI:¬(out.length:Int)<(d:Int):=by omega
   go_wp2_with fail
   refine(HRF.out 4 _).mono ?_
   rintro e w4 ⟨rfl,rfl⟩
   go_wp2_with fail
   refine Calls.mono HBY.out ?_
   rintro e w5 ⟨⟨e5,e0⟩,rfl⟩
   by_cases hlg:3000<out.length+n
   ·obtain rfl:=e5 hlg
    have HX:=HF.out.trans (Math.fix_long HX1.out HX2.out HX3.out HX4.out HX5.out HX6.out HX7.out (by rw[HNQ.out];exact hlg))
    exact⟨rfl,blk_bad (k:=5) HKN.out HX (by omega) HK3.out.bl⟩
   obtain rfl:=e0 hlg
   have HX:Hid (_):=HF.out.trans (Math.fix_copy HX1.out HX2.out HX3.out HX4.out HX5.out HX6.out HX7.out (by rw[HNQ.out];exact hlg))
   rw[HP2.out,HDQ.out,HNQ.out]at HX
   have hown3:=HK3.out.own
   have hw5:w.heap.size≤w5.heap.size:=HK3.out.bl.size
   have hn3k:out.length+n≤3000:=by omega
   have HWC:Hid (_):=withCopy_val w.heap.size (.slice va out.length vc) out n d w5 hw5 hown3 hd1 (by omega) (by omega) (by omega)
   clear hown3 e5 e0 HBY
   go_wp2_with fail
   refine Calls.mono HWC.out ?_
   rintro e w6 ⟨v',rfl,hown6,L6⟩
   have m6:RdI c s P2 (.slice va out.length vc) w6:=(L6.block c hcw).trans HK3.out.rd
   have L7:Below B w w6:=HK3.out.bl.trans (L6.mono hB2)
   have hlen:=Math.copyN_length out d n
   obtain⟨va6,vc6,rfl,-⟩:=own_form hown6
   have hown7:w6.ownsRow w.heap.size 5 1 (.slice va6 (copyN out d n).length vc6) (copyN out d n).length (bcells (copyN out d n)):=by rw[hlen];exact hown6
   have K7:=HK3.out.put hB m6 hown7 L7
   rw[hlen]at K7
   have c62:w6.cell? ⟨c,2,none⟩=some (.slice va out.length vc):=cell_at m6 2
   have f62:w6.frozen? ⟨c,2,none⟩=false:=frozen_at m6 2
   have HK7:Hid (_):=K7
   have c71:Hid ((w6.setCell ⟨c,2,none⟩ (.slice va6 (out.length+n) vc6)).cell? ⟨c,1,none⟩=some (.int .i64 (P2:Int))):=cell_at K7.rd 1
   have HLN:Hid (_):=hlen
   clear K7 hown6 hown7 m6 L6 L7 c2 HWC hlen
   go_wp2
   go_step3
   refine⟨Or.inr (Or.inl ⟨rfl,rfl,P2,g,copyN out d n,va6,vc6,by omega,by rw[HLN.out];omega,by omega,HX,HK7.out⟩),?_⟩
   rw[HMS.out]
   show(1+(8*s.size-(intOf (((w6.setCell ⟨c,2,none⟩ (.slice va6 (out.length+n) vc6)).cell? ⟨c,1,none⟩).getD undef)).toNat))<_
   rw[c71.out]
   simp[intOf]
   omega
 ·intro fall
  go_wp2_with fail
  refine Calls.mono HB0.out ?_
  rintro e w2 ⟨rfl,R2,M2,L2⟩
  go_wp2_with fail
  refine(HRF.out 2 _).mono ?_
  rintro e w3 ⟨rfl,rfl⟩
  go_wp2_with fail
  refine(HLO.out _ R2).mono ?_
  rintro e w4 ⟨rfl,R4,M4,L4⟩
  have L5:=L2.trans L4
  clear M2 M4 L2 L4 R2
  by_cases hk0:lowAt s 1 2=0
  ·rw[hk0]
   go_wp2_with fail
   refine(HRF.out 2 _).mono ?_
   rintro e w3 ⟨rfl,rfl⟩
   go_wp2
   go_step3
   exact Or.inl ⟨rfl,rfl,hk0,R4,L5⟩
  ·have hk1:lowAt s 1 2=1:=by omega
   have HB1:Hid (body s=fixFrom s (8*s.size+1) 3 []):=by show body s=_;unfold body;rw[if_pos hk1]
   rw[hk1]
   go_wp2_with fail
   refine(HRF.out 2 _).mono ?_
   rintro e w3 ⟨rfl,rfl⟩
   go_wp2
   go_step3
   rename_i hK
   refine hK _ _ (fall 1 _ _ _ rfl ?_)
   exact Or.inr (Or.inl ⟨rfl,rfl,3,8*s.size+1,[],none,0,by omega,by simp,by omega,HB1,⟨R4,World.ownsRow_nil _ _ _ _,L5⟩⟩)

end Pk
end Go.Proofs.YtcjgkmhpeedhiaaGreatDoor

/- The contracts of Unpack's deferred closure: of a frame that panics with a fault, of one that returns. -/
namespace Go.Proofs.YtcjgkmhpeedhiaaGreatDoor
namespace Pk
open Go.ChangeShapes Go.WideShapes Go.ChangeAt Go.RowKit
set_option linter.unusedSimpArgs false
set_option linter.unusedVariables false

set_option maxRecDepth 100000 in
theorem told_yes (t:TypeId) (k:Int) (w:World):(Instr.typeAssert (.iface 160 (.int .i64 k)) t 160 true).run Tryz.prog w= .ok (.tuple #[.int .i64 k,.bool true]) w:=by rfl

set_option maxRecDepth 100000 in
theorem told_no (t:TypeId) (w:World):(Instr.typeAssert .nilIface t 160 true).run Tryz.prog w= .ok (.tuple #[.int .i64 0,.bool false]) w:=by rfl

set_option maxRecDepth 100000 in
set_option maxHeartbeats 400000 in
theorem catch_fault (p q:Addr) (x:ByteArray) (y k:Int) (w:World) (hp:w.cell? p=some (.string x)) (hp2:w.frozen? p=false) (hq:(w.setCell p (.string ⟨#[]⟩)).cell? q=some (.int .i64 y)) (hq2:(w.setCell p (.string ⟨#[]⟩)).frozen? q=false):
 CallsD Tryz.prog 121 #[.pointer (some p),.pointer (some q)] (.panicking [{ v:= .iface 160 (.int .i64 k),recovered:=false }]) w fun e u' w'=>
  e= .returned (.tuple #[])∧u'= .panicking [{ v:= .iface 160 (.int .i64 k),recovered:=true }]∧w'=(w.setCell p (.string ⟨#[]⟩)).setCell q (.int .i64 k):=by
 refine callsD_of_wpS Tryz.func121 rfl fun c₀ cs hu=> ?_
 apply wpS_seq
 apply wpS_region
 simp[wpOpsS,go_sem,recoverD,hu,told_yes,told_no,Tryz.ntmps121,Exit.thenS,Array.replicate,List.replicate]
 apply wpS_seq
 apply wpS_region
 simp[wpOpsS,go_sem,Exit.thenS]
 refine wpS_cond (t:=true) (by simp[Act.eval]) ?_
 simp only[if_true]
 apply wpS_region
 simp[wpOpsS,go_sem,hp,hp2,hq,hq2,bodyPostS,results,Tryz.results121]

set_option maxRecDepth 100000 in
set_option maxHeartbeats 400000 in
theorem catch_none (p q:Addr) (w:World):
 CallsD Tryz.prog 121 #[.pointer (some p),.pointer (some q)] .returning w fun e u' w'=>e= .returned (.tuple #[])∧u'= .returning∧w'=w:=by
 refine callsD_of_wpS Tryz.func121 rfl fun c₀ cs hu=> ?_
 apply wpS_seq
 apply wpS_region
 simp[wpOpsS,go_sem,recoverD,hu,told_yes,told_no,Tryz.ntmps121,Exit.thenS,Array.replicate,List.replicate]
 apply wpS_seq
 apply wpS_region
 simp[wpOpsS,go_sem,Exit.thenS]
 refine wpS_cond (t:=false) (by simp[Act.eval]) ?_
 simp only[Bool.false_eq_true,if_false]
 refine wpS_of_wp (wp_skip ?_)
 cases c₀
 simp_all [bodyPostS,results,Tryz.results121]

end Pk
end Go.Proofs.YtcjgkmhpeedhiaaGreatDoor

/- The contract of the program's Unpack. -/
namespace Go.Proofs.YtcjgkmhpeedhiaaGreatDoor
namespace Pk
open Go.ChangeShapes Go.WideShapes Go.ChangeAt Go.RowKit
open Math (unpC unpT)
set_option linter.unusedSimpArgs false
set_option linter.unusedVariables false

theorem unp_long {s:ByteArray} (h:6000<s.size):unpC s=5∧unpT s=⟨#[]⟩:=by
 have e:unpC s=5:=by unfold unpC;rw[if_pos h]
 exact⟨e,Math.unpT_no (by rw[e];omega)⟩

set_option maxRecDepth 100000 in
set_option maxHeartbeats 400000 in
theorem implUnpack_val (s:ByteArray) (w:World) (R:Runs w):
 Calls Tryz.prog 82 #[.string s] w fun e w'=>e= .returned (.tuple #[.string (unpT s),.int .i64 (unpC s:Nat)])∧Below w.heap.size w w':=by
 have hmf:∀(fn:Fn) (first cap:Array Value) (w:World),(Instr.makeFunc fn first cap).run Tryz.prog w= .ok (.func fn first cap) w:=fun _ _ _ _=>rfl
 have hrl:=R.lt
 by_cases hbig:6000<s.size
 ·obtain⟨e1,e2⟩:=unp_long hbig
  rw[e1,e2]
  have hbI:(6000:Int)<(s.size:Int):=by omega
  go_enter_defers Tryz.func82,Tryz.ntmps82
  go_wp2
  have L:Below w.heap.size w ((w.alloc (.cells #[.string ⟨#[]⟩] 9)).alloc (.cells #[.int .i64 5] 3)):=((Below.refl _ _).alloc (Nat.le_refl _) _).alloc (by simp) _
  have mA:=heap_old (heap_new w (.cells #[.string ⟨#[]⟩] 9)) (.cells #[.int .i64 5] 3)
  have mB:((w.alloc (.cells #[.string ⟨#[]⟩] 9)).alloc (.cells #[.int .i64 5] 3)).heap[w.heap.size+1]? =some (.cells #[.int .i64 5] 3):=by have h:=heap_new (w.alloc (.cells #[.string ⟨#[]⟩] 9)) (.cells #[.int .i64 5] 3);simp at h⊢;exact h
  generalize (w.alloc (.cells #[.string ⟨#[]⟩] 9)).alloc (.cells #[.int .i64 5] 3)=W at*
  have cA:=cell_at mA 0
  have cB:=cell_at mB 0
  simp at cA cB
  simp[bodyPostD,Leaves,settle,results,Tryz.results82,go_sem,cA,cB]
  exact L
 ·have hbI:¬(6000:Int)<(s.size:Int):=by omega
  obtain⟨t,hTT⟩:∃t,unpT s=t:=⟨_,rfl⟩
  obtain⟨k,hCC⟩:∃k,unpC s=k:=⟨_,rfl⟩
  rw[hTT,hCC]
  have HTT:Hid (unpT s=t):=hTT
  have HCC:Hid (unpC s=k):=hCC
  clear hTT hCC
  have L3:Below w.heap.size w (((w.alloc (.cells #[.string ⟨#[]⟩] 9)).alloc (.cells #[.int .i64 0] 3)).alloc (.cells #[.string s,.int .i64 0,.slice none 0 0] 163)):=(((Below.refl _ _).alloc (Nat.le_refl _) _).alloc (by simp) _).alloc (by simp;omega) _
  have mA:=heap_old (heap_old (heap_new w (.cells #[.string ⟨#[]⟩] 9)) (.cells #[.int .i64 0] 3)) (.cells #[.string s,.int .i64 0,.slice none 0 0] 163)
  have mB:=heap_old (heap_new (w.alloc (.cells #[.string ⟨#[]⟩] 9)) (.cells #[.int .i64 0] 3)) (.cells #[.string s,.int .i64 0,.slice none 0 0] 163)
  have mC:=heap_new ((w.alloc (.cells #[.string ⟨#[]⟩] 9)).alloc (.cells #[.int .i64 0] 3)) (.cells #[.string s,.int .i64 0,.slice none 0 0] 163)
  have hz1:(w.alloc (.cells #[.string ⟨#[]⟩] 9)).heap.size=w.heap.size+1:=by simp
  have hz2:((w.alloc (.cells #[.string ⟨#[]⟩] 9)).alloc (.cells #[.int .i64 0] 3)).heap.size=w.heap.size+1+1:=by simp
  have hz3:(((w.alloc (.cells #[.string ⟨#[]⟩] 9)).alloc (.cells #[.int .i64 0] 3)).alloc (.cells #[.string s,.int .i64 0,.slice none 0 0] 163)).heap.size=w.heap.size+1+1+1:=by simp
  rw[hz1]at mB
  rw[hz2]at mC
  have HB:Hid (_):=blkI_val (w.heap.size+1+1) (w.heap.size+1+1) s _ (by omega) (Nat.le_refl _) (by rw[hz3];omega) (by omega) (R.on L3 hrl) mC
  have HM:Hid (_∧_∧_):=⟨L3,mA,mB⟩
  clear mA mB mC hz1 hz2 L3
  go_enter_defers Tryz.func82,Tryz.ntmps82
  go_wp2_with fail
  refine Calls.mono HB.out ?_
  rintro e w2 ⟨h1,h0,L⟩
  obtain⟨L3,mA,mB⟩:=HM.out
  have mA2:=(L.block w.heap.size (by omega)).trans mA
  have mB2:=(L.block (w.heap.size+1) (by omega)).trans mB
  have L4:Below w.heap.size w w2:=L3.trans (L.mono (by omega))
  clear HB HM mA mB L3 L hz3
  have hA:=(cell_at mA2 0).trans (show _=some (.string ⟨#[]⟩)from rfl)
  have fA:=frozen_at mA2 0
  have hne:w.heap.size+1≠w.heap.size:=by omega
  have hne2:w.heap.size≠w.heap.size+1:=by omega
  by_cases hu:unpC s=0
  ·obtain⟨rfl,q,va,vc,out,hT,K⟩:=h0 hu
   obtain rfl:t=⟨out.toArray⟩:=HTT.out.symm.trans hT
   obtain rfl:k=0:=HCC.out.symm.trans hu
   have hconv:=conv_own K.own
   have c2:=(cell_at K.rd 2).trans (show _=some (.slice va out.length vc)from rfl)
   have mB3:∀x,(w2.setCell ⟨w.heap.size,0,none⟩ x).heap[w.heap.size+1]? =_:=fun x=>(Below.heap_setCell w2 ⟨w.heap.size,0,none⟩ x (w.heap.size+1) hne).trans mB2
   have hB3:=(cell_at (mB3 (.string ⟨out.toArray⟩)) 0).trans (show _=some (.int .i64 0)from rfl)
   have fB3:=frozen_at (mB3 (.string ⟨out.toArray⟩)) 0
   have L5:Below w.heap.size w ((w2.setCell ⟨w.heap.size,0,none⟩ (.string ⟨out.toArray⟩)).setCell ⟨w.heap.size+1,0,none⟩ (.int .i64 0)):=(L4.setCell (Nat.le_refl _) _).setCell (Nat.le_succ _) _
   have mB4:=hp_set (i:=0) (mB3 (.string ⟨out.toArray⟩)) (.int .i64 0)
   have mA4:=(Below.heap_setCell (w2.setCell ⟨w.heap.size,0,none⟩ (.string ⟨out.toArray⟩)) ⟨w.heap.size+1,0,none⟩ (.int .i64 0) w.heap.size hne2).trans (hp_set (i:=0) mA2 (.string ⟨out.toArray⟩))
   have cA:=cell_at mA4 0
   have cB:=cell_at mB4 0
   have HL5:Hid (_):=L5
   clear mA2 mB2 mB3 mA4 mB4 L5 L4 K h1 h0 hT
   go_wp2
   refine leaves_cons (f:=121) (args:= #[.pointer (some ⟨w.heap.size,0,none⟩),.pointer (some ⟨w.heap.size+1,0,none⟩)]) (by simp) (by simp[go_sem]) ?_
   refine(catch_none ⟨w.heap.size,0,none⟩ ⟨w.heap.size+1,0,none⟩ _).mono ?_
   rintro e u' w4 ⟨rfl,rfl,rfl⟩
   generalize (w2.setCell ⟨w.heap.size,0,none⟩ (.string ⟨out.toArray⟩)).setCell ⟨w.heap.size+1,0,none⟩ (.int .i64 0)=W at*
   simp at cA cB
   simp[Leaves,settle,results,Tryz.results82,go_sem,cA,cB]
   exact HL5.out
  ·have he:=h1 hu
   rw[HCC.out]at he
   subst he
   obtain rfl:t=⟨#[]⟩:=HTT.out.symm.trans (Math.unpT_no hu)
   have mB3:∀x,(w2.setCell ⟨w.heap.size,0,none⟩ x).heap[w.heap.size+1]? =_:=fun x=>(Below.heap_setCell w2 ⟨w.heap.size,0,none⟩ x (w.heap.size+1) hne).trans mB2
   have hB3:=(cell_at (mB3 (.string ⟨#[]⟩)) 0).trans (show _=some (.int .i64 0)from rfl)
   have fB3:=frozen_at (mB3 (.string ⟨#[]⟩)) 0
   refine leaves_cons (f:=121) (args:= #[.pointer (some ⟨w.heap.size,0,none⟩),.pointer (some ⟨w.heap.size+1,0,none⟩)]) (by simp) (by simp[go_sem]) ?_
   refine(catch_fault ⟨w.heap.size,0,none⟩ ⟨w.heap.size+1,0,none⟩ _ _ _ w2 hA fA hB3 fB3).mono ?_
   rintro e u' w4 ⟨rfl,rfl,rfl⟩
   have L5:Below w.heap.size w ((w2.setCell ⟨w.heap.size,0,none⟩ (.string ⟨#[]⟩)).setCell ⟨w.heap.size+1,0,none⟩ (.int .i64 (k:Nat))):=(L4.setCell (Nat.le_refl _) _).setCell (Nat.le_succ _) _
   have mB4:=hp_set (i:=0) (mB3 (.string ⟨#[]⟩)) (.int .i64 (k:Nat))
   have mA4:=(Below.heap_setCell (w2.setCell ⟨w.heap.size,0,none⟩ (.string ⟨#[]⟩)) ⟨w.heap.size+1,0,none⟩ (.int .i64 (k:Nat)) w.heap.size hne2).trans (hp_set (i:=0) mA2 (.string ⟨#[]⟩))
   have cA:=cell_at mA4 0
   have cB:=cell_at mB4 0
   generalize (w2.setCell ⟨w.heap.size,0,none⟩ (.string ⟨#[]⟩)).setCell ⟨w.heap.size+1,0,none⟩ (.int .i64 (k:Nat))=W at*
   simp at cA cB
   simp[Leaves,settle,results,Tryz.results82,go_sem,cA,cB]
   exact L5

end Pk
end Go.Proofs.YtcjgkmhpeedhiaaGreatDoor

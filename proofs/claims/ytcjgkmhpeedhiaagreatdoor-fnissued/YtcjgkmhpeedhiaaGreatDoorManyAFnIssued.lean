/- Texts laid into one, in their order: PkRuns, Tabs, CurKb, CurTk, CurVer, CurIs, IsFour, MathPack, MathBit, PkCode, MathUnp, UnRead, UnSym, UnLen, UnStored, MathWhole, MathFix, PkWhole, UnFixed, MathFix2, UnFixS, UnSpec, FrMath, FrAns, PkFix, MathPieces, MathPk, MathPcs, PkBits, PkStored. -/
import Derived.Test.YtcjgkmhpeedhiaaGreatDoorPkRow
import Derived.Test.YtcjgkmhpeedhiaaGreatDoorErrs
import Derived.Deep.Strs
import Derived.Test.YtcjgkmhpeedhiaaGreatDoorDecDoor
import Derived.WalkKit
import Derived.ProofKit
import Derived.OpenShut
import Derived.Deep.DeepHandedRow
import Derived.Lib.LaidTab
import Derived.Stop.LaidErr
import Derived.ChangeOld
import Derived.Below
import Derived.Test.YtcjgkmhpeedhiaaGreatDoorCurSign
import Derived.Test.YtcjgkmhpeedhiaaGreatDoorCurBytes
import Derived.BigRegion
import Derived.Deep.RegionHeld3
import Derived.Test.YtcjgkmhpeedhiaaGreatDoorCurDec
import Derived.Test.YtcjgkmhpeedhiaaGreatDoorGtLegs
import Derived.Deep.Cut
import Derived.Deep.CutRange
import Derived.Test.YtcjgkmhpeedhiaaGreatDoorSignVals
import Derived.Test.YtcjgkmhpeedhiaaGreatDoorSignVer
import Derived.Test.YtcjgkmhpeedhiaaGreatDoorNumDec
import Derived.Test.YtcjgkmhpeedhiaaGreatDoorRows
import Derived.Handy
import Derived.Laws.Bits64
import Derived.Laws.BitsLemmas
import Derived.Lib.BitFns
import Derived.Test.YtcjgkmhpeedhiaaGreatDoorShelf
import Derived.Test.YtcjgkmhpeedhiaaGreatDoorSignRead
import Derived.OneCell
/- The program's table of runs: what the rows list of it, and what its cells hold. -/
namespace Go.Proofs.YtcjgkmhpeedhiaaGreatDoor
namespace Pk
open Go.ChangeShapes Go.WideShapes Go.ChangeAt Go.RowKit
set_option linter.unusedSimpArgs false
set_option linter.unusedVariables false

def runVals:List Int:= [256,279,7,0,0,143,8,48,280,287,8,192,144,255,9,400]

def Runs (w:World):Prop:=∀i,i<16→w.cell? ⟨6,i,none⟩=some (.int .i64 (runVals.getD i 0))

def runsW (w:World):World:= { w with heap:=w.heap.modify 6 (Errs.put (runVals.map fun z=>Value.int .i64 z).toArray) }

theorem Runs.lt {w:World} (h:Runs w):6<w.heap.size:=by
 have ha:=h 0 (by omega)
 apply Nat.lt_of_not_le
 intro hle
 unfold World.cell? at ha
 rw[Array.getElem?_eq_none hle]at ha
 simp at ha

theorem Runs.on {w w1:World} (h:Runs w) {B:Nat} (L:Below B w w1) (hB:6<B):Runs w1:=by
 intro i hi
 rw[L.cell (p:=⟨6,i,none⟩) hB]
 exact h i hi

set_option maxRecDepth 100000 in
theorem run_cells {H:Type} {enc:TypeId×Value→H} {W:World} {base:Nat} {spare:Nat→Bool} {held:Bool} {fuel:Nat} {cs:List Value} {a b c d:Int} {y:DataW H×List MemPlace} (h:DataW.trod enc Tryz.prog W base spare held fuel 191 cs=some y) (hy:y.1= .agg [.lit (.int .i64 a),.lit (.int .i64 b),.lit (.int .i64 c),.lit (.int .i64 d)]):
 cs= [.int .i64 a,.int .i64 b,.int .i64 c,.int .i64 d]:=by
 obtain⟨xs,n,-,rfl,hl,hxl,hf⟩:=DataW.trod_struct Tryz.underlying191 h
 have hl4:cs.length=4:=hl.trans (by kernel_rfl)
 have c1:Tryz.prog.cellsOf 3=1:=by kernel_rfl
 match xs,hxl,cs,hl4 with
 | [y0,y1,y2,y3],_,[v0,v1,v2,v3],_=>
   simp at hy
   have h0:=hf 0 _ rfl
   have h1:=hf 1 _ rfl
   have h2:=hf 2 _ rfl
   have h3:=hf 3 _ rfl
   simp[c1]at h0 h1 h2 h3
   obtain⟨a0,e0,z0,-⟩:=DataW.trod_int Tryz.underlying3 h0
   obtain⟨a1,e1,z1,-⟩:=DataW.trod_int Tryz.underlying3 h1
   obtain⟨a2,e2,z2,-⟩:=DataW.trod_int Tryz.underlying3 h2
   obtain⟨a3,e3,z3,-⟩:=DataW.trod_int Tryz.underlying3 h3
   subst z0 z1 z2 z3
   simp at e0 e1 e2 e3 hy
   obtain⟨rfl,rfl,rfl,rfl⟩:=hy
   rw[e0,e1,e2,e3]

set_option maxRecDepth 100000 in
theorem runs_of {r:List (String×DataW Unit)} {W:World} (h:laidMet Tryz.prog (("loop.example/g00211/impl.fixedRuns",Rows.laid_loop_example_g00211_impl_fixedRuns)::r) W):Runs W:=by
 obtain⟨ps,⟨g',t',cs,fuel,p,q,hg',ht',hvar,hd,-,-⟩,-⟩:=h
 have hg:Tryz.prog.globalNamed "loop.example/g00211/impl.fixedRuns" =some 6:=by kernel_rfl
 have hty:(Tryz.prog.globals[6]?).map (·.type)=some 192:=by kernel_rfl
 obtain rfl:=Option.some.inj (hg.symm.trans hg')
 obtain rfl:=Option.some.inj (hty.symm.trans ht')
 obtain⟨cs⟩:=cs
 obtain⟨xs,m,-,hx,hl,hxl,hf⟩:=DataW.trod_array Tryz.underlying192 hd
 have c4:Tryz.prog.cellsOf 191=4:=by kernel_rfl
 have hl16:cs.length=16:=hl.trans (by kernel_rfl)
 match xs,hxl with
 | [y0,y1,y2,y3],_=>
   simp[Rows.laid_loop_example_g00211_impl_fixedRuns]at hx
   obtain⟨⟨hx0,hx1,hx2,hx3⟩,-⟩:=hx
   have h0:=hf 0 (by omega)
   have h1:=hf 1 (by omega)
   have h2:=hf 2 (by omega)
   have h3:=hf 3 (by omega)
   rw[c4]at h0 h1 h2 h3
   have k0:=run_cells h0 hx0.symm
   have k1:=run_cells h1 hx1.symm
   have k2:=run_cells h2 hx2.symm
   have k3:=run_cells h3 hx3.symm
   have hcs:cs=runVals.map (fun z=>Value.int .i64 z):=by
    match cs,hl16 with
    | [v0,v1,v2,v3,v4,v5,v6,v7,v8,v9,v10,v11,v12,v13,v14,v15],_=>
      simp at k0 k1 k2 k3
      simp[runVals,k0,k1,k2,k3]
   intro i hi
   rw[World.var?_cell hg hvar i,hcs]
   have:i<runVals.length:=hi
   simp[List.getD,this]

end Pk
end Go.Proofs.YtcjgkmhpeedhiaaGreatDoor

/- What the rows of this seat list of the library's tables, one by one, and worlds that hold them. -/
namespace Go.Proofs.YtcjgkmhpeedhiaaGreatDoor
namespace Tabs
open Go.ChangeShapes Go.WideShapes Go.ChangeAt Go.RowKit

def flat1:DataW Unit→List Value
 | .lit (.int k z)=> [Value.int k z]
 | .agg l=>l.map fun d=>match d with| .lit (.int k z)=>Value.int k z|_=>Value.bool false
 |_=> [Value.bool false]

def vals:DataW Unit→Array Value
 | .agg l=>(l.flatMap flat1).toArray
 |_=> #[]

def put (c:Array Value):Obj→Obj
 | .cells _ t frozen=> .cells c t frozen
 |o=>o

def tabW (g:Nat) (d:DataW Unit) (w:World):World:= { w with heap:=w.heap.modify g (put (vals d)) }

theorem gTab:Tryz.prog.globalNamed "internal/strconv.uint64pow10" =some 8:=by kernel_rfl

theorem gTabType:(Tryz.prog.globals[8]?).map (·.type)=some 207:=by kernel_rfl

theorem cellsT:Tryz.prog.cellsOf 207=20:=by kernel_rfl

theorem cellsE:Tryz.prog.cellsOf 113=1:=by kernel_rfl

theorem tens_eq:(Rows.laid_internal_strconv_uint64pow10:DataW Unit)=Lib.tabData .u64 Lib.pow10Tab:=by kernel_rfl

theorem tens_of {r:List (String×DataW Unit)} {W:World} (h:laidMet Tryz.prog (("internal/strconv.uint64pow10",Rows.laid_internal_strconv_uint64pow10)::r) W):Num.Tens W:=by
 rw[tens_eq]at h
 exact Lib.tabIs_of_head (rest:=r) gTab gTabType Tryz.underlying207 Tryz.underlying113 cellsE cellsT h

end Tabs
end Go.Proofs.YtcjgkmhpeedhiaaGreatDoor

/- The draw of a text that tells which blocks it keeps. -/
namespace Go.Proofs.YtcjgkmhpeedhiaaGreatDoor
namespace Cur
open Go.ChangeShapes Go.WideShapes Go.ChangeAt Go.RowKit
set_option linter.unusedSimpArgs false
set_option linter.unusedVariables false

theorem Is.kept {W0:World} {a:Option Addr} {n cap c:Nat} {w w1:World} (C:Is W0 a n cap c w) (hb:Below w.heap.size w w1):Is W0 a n cap c w1:=by
 refine⟨C.below.trans (hb.mono C.below.size),C.ge,Nat.lt_of_lt_of_le C.lt hb.size,C.len,C.code,?_,?_,?_,?_,?_⟩
 ·rw[hb.cell (p:=⟨c,0,none⟩) C.lt];exact C.cb
 ·obtain⟨i,h1,h2⟩:=C.ci
  exact⟨i,h1,by rw[hb.cell (p:=⟨c,1,none⟩) C.lt];exact h2⟩
 ·obtain⟨h0,h2⟩:=C.ch
  exact⟨h0,by rw[hb.cell (p:=⟨c,2,none⟩) C.lt];exact h2⟩
 ·rw[hb.frozen (p:=⟨c,1,none⟩) C.lt];exact C.fi
 ·rw[hb.frozen (p:=⟨c,2,none⟩) C.lt];exact C.fh

theorem bytes_kb {W0:World} {a:Option Addr} {n cap c:Nat} {w:World} (C:Is W0 a n cap c w) (m:Nat) (hm:m≤1000000):
 Calls Tryz.prog 70 #[.pointer (some ⟨c,0,none⟩),.int .i64 m] w fun e w'=>(∃s:ByteArray,e= .returned (.string s)∧s.size=m)∧Is W0 a n cap c w'∧Kb c w w':=by
 have hlt:=C.lt
 obtain⟨i0,hi,hz0,hz1,hz2⟩:=info_parts Tryz.info5
 go_enter Tryz.func70,Tryz.ntmps70
 go_wp2
 go_loopw [5,6] (fun v i wr=>∃(k:Nat) (l:List UInt8),k≤m∧l.length=k∧i= .int .i64 k∧wr.ownsRow w.heap.size 5 1 v k (bcells l)∧Is W0 a n cap c wr∧Kb c w wr) (fun _ i _=>m-(intOf i).toNat)
 case atStart=>exact⟨0,[],by omega,rfl,rfl,⟨rfl,Or.inr ⟨w.heap.size,0,#[],rfl,Nat.le_refl _,(MapKept.heap_alloc w _).1,by omega,by unfold maxLen;omega,rfl,rfl⟩⟩,C.alloc _,(Kb.refl c w).alloc _⟩
 case round=>
  obtain⟨k,l,hk,hl,rfl,hown,Cr,K⟩:=hrel
  by_cases hkm:k<m
  ·go_wp2_with fail
   refine(below_any Cr _).mono ?_
   rintro e w2 ⟨⟨x,rfl,hx0,hx1⟩,C2,M2⟩
   have hx2:=hx1 (by omega)
   clear hx1
   have hown2:=owns_moved hown M2 hlt
   have K2:=K.trans (Kb.moved M2)
   have hsz2:=K2.size
   clear hown M2
   go_wp2_with (at_builtin;refine wpList_append_own _ rfl _ _ 22 rfl w.heap.size 5 i0 (.int .u8 0) 1 1 Tryz.underlying22 hi hz0 hz1 hz2 rfl (by decide) _ _ _ rfl (hown2.alloc _) ⟨w2.heap.size,0,none⟩ 1 1 [.int .u8 x] rfl rfl ?c1 ?c2 ?c3 ?c4 ?c5 ?_)
   try (case c1=>exact cell_one_new _ _ _)
   case c2=>first|(intro u hu;simp at hu;subst hu;rfl)|rfl|(simp;done)
   case c3=>unfold maxLen;omega
   case c4=>omega
   case c5=>first|omega|(simp;omega)
   ·intro v' w3 hown3 hgrow _
    have hb3:=own_block hown2
    have C3:Is W0 a n cap c w3:=(C2.alloc _).grown hgrow (fun h=>by have:=hb3 _ h;omega) (fun k h=>by have:=hb3 _ h;have:=C.below.size;omega)
    have K3:Kb c w w3:=(K2.alloc _).grown hgrow (fun k h=>hb3 _ h)
    rw[bcells_snoc l x hx0 (by omega)]at hown3
    clear hown2 hgrow C2 hb3
    go_wp2
    go_roundw
    case rel=>exact⟨k+1,l++ [UInt8.ofNat x.toNat],by omega,by simp[hl],by go_num,hown3,C3,K3⟩
    case measure=>simp[intOf];omega
  ·obtain rfl:k=m:=by omega
   have hconv:=conv_own hown
   go_wp2
   go_ret
   exact⟨⟨_,rfl,by simpa [ByteArray.size]using hl⟩,Cr,K⟩

end Cur
end Go.Proofs.YtcjgkmhpeedhiaaGreatDoor

/- The draw of a right ticket: some ticket with one to three legs in a row of its own. -/
namespace Go.Proofs.YtcjgkmhpeedhiaaGreatDoor
namespace Cur
open Go.ChangeShapes Go.WideShapes Go.ChangeAt Go.RowKit
open Pk (own_form new_below join_below heap_new lt_of kept cell_at heap_old frozen_at info_of)
open Tk (Lg Hd tkV tkB)
open Gt (lcells)
set_option linter.unusedSimpArgs false
set_option linter.unusedVariables false

theorem tk_set {w:World} {c i:Nat} {cs:Array Value} {t:TypeId} {f:Nat×Nat} (h:w.heap[c]? =some (.cells cs t f)) (u:Value):(w.setCell ⟨c,i,none⟩ u).heap[c]? =some (.cells (cs.setIfInBounds i u) t f):=by
 unfold World.setCell
 simp[Array.getElem?_modify,h]

theorem add_any (b o i:Nat):Addr.add ⟨b,o,none⟩ i=⟨b,o+i,none⟩:=by simp[Addr.add]

theorem leg_at {w:World} {b:Nat} {p:Lg} {t:TypeId} {f:Nat×Nat} (h:w.heap[b]? =some (.cells #[.int .i64 p.tr,.int .i64 p.dy,.int .i64 p.fr,.int .i64 p.to,.int .i64 p.co,.int .i64 p.se] t f)):∀j u,(Gt.lc1 p)[j]? =some u→w.cell? (Addr.add ⟨b,0,none⟩ j)=some u:=by
 intro j u hu
 rw[add_any,Nat.zero_add,cell_at h j,←hu]
 match j with
 |0=>rfl
 |1=>rfl
 |2=>rfl
 |3=>rfl
 |4=>rfl
 |5=>rfl
 |j+6=>simp[Gt.lc1]

theorem is_below {W0:World} {a:Option Addr} {n cap c B:Nat} {w w1:World} (C:Is W0 a n cap c w) (L:Below B w w1) (hc:c<B) (hB:W0.heap.size≤B):Is W0 a n cap c w1:=by
 refine⟨C.below.trans (L.mono hB),C.ge,Nat.lt_of_lt_of_le C.lt L.size,C.len,C.code,?_,?_,?_,?_,?_⟩
 ·rw[L.cell (p:=⟨c,0,none⟩) hc];exact C.cb
 ·obtain⟨i,h1,h2⟩:=C.ci
  exact⟨i,h1,by rw[L.cell (p:=⟨c,1,none⟩) hc];exact h2⟩
 ·obtain⟨h0,h2⟩:=C.ch
  exact⟨h0,by rw[L.cell (p:=⟨c,2,none⟩) hc];exact h2⟩
 ·rw[L.frozen (p:=⟨c,1,none⟩) hc];exact C.fi
 ·rw[L.frozen (p:=⟨c,2,none⟩) hc];exact C.fh

theorem own_kb {w w1:World} {base e size n c:Nat} {v:Value} {xs:List Value} (h:w.ownsRow base e size v n xs) (K:Kb c w w1) (hc:c<base):w1.ownsRow base e size v n xs:=by
 obtain⟨h1,h2⟩:=h
 refine⟨h1,?_⟩
 rcases h2 with h2|⟨g,cap,cur,hv,hg,hh,hr⟩
 ·exact Or.inl h2
 ·exact Or.inr ⟨g,cap,cur,hv,hg,K.at (by omega) hh,hr⟩

theorem own_else {w:World} {base e size n P i:Nat} {v u:Value} {xs:List Value} (h:w.ownsRow base e size v n xs) (hne:v.ownBlock≠some P):(w.setCell ⟨P,i,none⟩ u).ownsRow base e size v n xs:=by
 obtain⟨h1,h2⟩:=h
 refine⟨h1,?_⟩
 rcases h2 with h2|⟨g,cap,cur,hv,hg,hh,hr⟩
 ·exact Or.inl h2
 ·refine Or.inr ⟨g,cap,cur,hv,hg,?_,hr⟩
  rw[Below.heap_setCell w ⟨P,i,none⟩ u g (by show g≠P;intro e;rw[hv,e]at hne;exact hne rfl)]
  exact hh

theorem set6_heap {w:World} {P:Nat} {a0 a1 a2 a3 a4 a5:Value} {t:TypeId} (h:w.heap[P]? =some (.cells #[a0,a1,a2,a3,a4,a5] t (0,0))) (v0 v1 v2 v3 v4 v5:Value):((((((w.setCell ⟨P,0,none⟩ v0).setCell ⟨P,1,none⟩ v1).setCell ⟨P,2,none⟩ v2).setCell ⟨P,3,none⟩ v3).setCell ⟨P,4,none⟩ v4).setCell ⟨P,5,none⟩ v5).heap[P]? =some (.cells #[v0,v1,v2,v3,v4,v5] t (0,0)):=by
 unfold World.setCell
 simp[Array.getElem?_modify,h]

abbrev nm5:Obj:= .cells #[.string ⟨#[]⟩,.string ⟨#[65,32,80,101,114,115,111,110]⟩,.string ⟨#[116,119,111,32,32,98,108,97,110,107,115]⟩,.string ⟨#[120]⟩,.string ⟨#[32]⟩] 9

set_option maxRecDepth 100000 in
set_option maxHeartbeats 4000000 in
theorem right_any {W0:World} {a:Option Addr} {n cap c:Nat} {w:World} (C:Is W0 a n cap c w):
 Calls Tryz.prog 19 #[.pointer (some ⟨c,0,none⟩)] w fun e w'=>(∃(t:Hd) (nm:ByteArray) (va:Option Addr) (vc:Nat) (ls:List Lg),e= .returned (tkV t nm va ls.length vc)∧nm.size≤40∧1≤ls.length∧ls.length≤3∧w'.ownsRow w.heap.size 64 6 (.slice va ls.length vc) ls.length (lcells ls))∧Is W0 a n cap c w'∧Kb c w w':=by
 have hlt:=C.lt
 have C0:=C.alloc (tkB ⟨0,0,0,0,0⟩ ⟨#[]⟩ none 0 0 28)
 have m0:=heap_new w (tkB ⟨0,0,0,0,0⟩ ⟨#[]⟩ none 0 0 28)
 have K0:Kb c w (w.alloc (tkB ⟨0,0,0,0,0⟩ ⟨#[]⟩ none 0 0 28)):=(Kb.refl c w).alloc _
 have hRc:w.heap.size≠c:=by omega
 go_enter Tryz.func19,Tryz.ntmps19
 go_wp2_with fail
 refine(below_any C0 9999).mono ?_
 generalize w.alloc (tkB ⟨0,0,0,0,0⟩ ⟨#[]⟩ none 0 0 28)=V0 at*
 rintro e w1 ⟨⟨id,rfl,hid0,hid1⟩,C1,M1⟩
 have hid2:=hid1 (by omega)
 have m1:w1.heap[w.heap.size]? =_:=(M1.block _ hRc).trans m0
 have K1:=K0.trans (Kb.moved M1)
 have C1a:=C1.alloc nm5
 have RW:RowOfS (fun z=>z.size≤40) (w1.alloc nm5) w1.heap.size 5:=rowOfS_new (fun z=>z.size≤40) w1 [⟨#[]⟩,⟨#[65,32,80,101,114,115,111,110]⟩,⟨#[116,119,111,32,32,98,108,97,110,107,115]⟩,⟨#[120]⟩,⟨#[32]⟩] 9 (by
  intro z hz
  simp at hz
  rcases hz with rfl|rfl|rfl|rfl|rfl<;>decide)
 have hwc:w1.heap.size≠c:=by have:=C1.lt;omega
 have HPK:Hid (∀_:Unit,_):=fun _=>pick_any C1a (fun z=>z.size≤40) w1.heap.size 5 5 hwc (by omega) (by omega) RW
 have m1a:=heap_old m1 nm5
 have K1a:=K1.alloc nm5
 clear hid1 m0 K0 M1 C0 C1 m1 K1 C1a RW
 go_wp2_with fail
 refine(HPK.out ()).mono ?_
 generalize w1.alloc nm5=V1 at*
 rintro e w2 ⟨⟨nm,rfl,hnm⟩,C2,M2⟩
 have m2:w2.heap[w.heap.size]? =_:=(M2.block _ hRc).trans m1a
 have K2:=K1a.trans (Kb.moved M2)
 clear m1a K1a M2 HPK
 go_wp2_with fail
 refine(below_any C2 2).mono ?_
 rintro e w3 ⟨⟨cl,rfl,hcl0,hcl1⟩,C3,M3⟩
 have hcl2:=hcl1 (by omega)
 have m3:w3.heap[w.heap.size]? =_:=(M3.block _ hRc).trans m2
 have K3:=K2.trans (Kb.moved M3)
 clear m2 K2 M3 C2 hcl1
 go_wp2_with fail
 refine(below_any C3 20000).mono ?_
 rintro e w4 ⟨⟨pr,rfl,hpr0,hpr1⟩,C4,M4⟩
 have hpr2:=hpr1 (by omega)
 have m4:w4.heap[w.heap.size]? =_:=(M4.block _ hRc).trans m3
 have K4:=K3.trans (Kb.moved M4)
 clear m3 K3 M4 C3 hpr1
 go_wp2_with fail
 refine(below_any C4 400).mono ?_
 rintro e w5 ⟨⟨fi,rfl,hfi0,hfi1⟩,C5,M5⟩
 have hfi2:=hfi1 (by omega)
 have m5:w5.heap[w.heap.size]? =_:=(M5.block _ hRc).trans m4
 have K5:=K4.trans (Kb.moved M5)
 clear m4 K4 M5 C4 hfi1
 have C6:=C5.alloc (tkB ⟨1+id,1+cl,pr,fi,0⟩ nm none 0 0 28)
 have m6:=heap_old m5 (tkB ⟨1+id,1+cl,pr,fi,0⟩ nm none 0 0 28)
 have x6:=heap_new w5 (tkB ⟨1+id,1+cl,pr,fi,0⟩ nm none 0 0 28)
 have K6:=K5.alloc (tkB ⟨1+id,1+cl,pr,fi,0⟩ nm none 0 0 28)
 have hQc:w5.heap.size≠c:=by have:=C5.lt;omega
 have hQR:w5.heap.size≠w.heap.size:=by have:=lt_of m5;omega
 have hQw:w.heap.size≤w5.heap.size:=by have:=lt_of m5;omega
 have hQW:W0.heap.size≤w5.heap.size:=C5.below.size
 clear m5 K5 C5
 go_wp2
 generalize w5.alloc (tkB ⟨1+id,1+cl,pr,fi,0⟩ nm none 0 0 28)=V6 at*
 generalize hQQ:w5.heap.size=Q at*
 have HB4:Hid (∀wx,Is W0 a n cap c wx→Calls Tryz.prog 18 #[.pointer (some ⟨c,0,none⟩),.int .i64 4] wx fun e w'=>(∃x:Int,e= .returned (.int .i64 x)∧0≤x∧(0<(4:Int)→x<4))∧Is W0 a n cap c w'∧Moved c wx w'):=fun wx h=>below_any h 4
 have t4:V6.cell? ⟨Q,4,none⟩=some (.int .i64 fi):=cell_at x6 4
 have t5:V6.cell? ⟨Q,5,none⟩=some (.int .i64 0):=cell_at x6 5
 have g5:V6.frozen? ⟨Q,5,none⟩=false:=frozen_at x6 5
 go_cut []from 7 (fun wc=>∃la:Int,0≤la∧la<4∧Is W0 a n cap c wc∧wc.heap[Q]? =some (tkB ⟨1+id,1+cl,pr,fi,fi+la⟩ nm none 0 0 28)∧wc.heap[w.heap.size]? =some (tkB ⟨0,0,0,0,0⟩ ⟨#[]⟩ none 0 0 28)∧Kb c w wc)
 case first=>
  go_region_held3 (fun w'=>w'.cell? ⟨Q,4,none⟩=some (.int .i64 fi)) (go_keep) (first
   |(go_at_call 18;refine(HB4.out _ ?_).mono ?_;(first|exact C6|exact C6.drewN 1);rintro e v7 ⟨⟨la,rfl,hla0,hla1⟩,C7,M7⟩;have hla2:=hla1 (by omega);have x7:v7.heap[Q]? =_:=(M7.block _ hQc).trans x6;have m7:v7.heap[w.heap.size]? =_:=(M7.block _ hRc).trans m6;have K7:Kb c w v7:=K6.trans (Kb.moved ⟨M7.size,M7.block⟩);have u4:v7.cell? ⟨Q,4,none⟩=some (.int .i64 fi):=cell_at x7 4;have u5:v7.cell? ⟨Q,5,none⟩=some (.int .i64 0):=cell_at x7 5;have h5:v7.frozen? ⟨Q,5,none⟩=false:=frozen_at x7 5;have hw2:IntKind.i64.wrap (fi+la)=fi+la:=(by rw[IntKind.wrap_i64];omega);have z4:(v7.setCell ⟨Q,5,none⟩ (.int .i64 (fi+la))).cell? ⟨Q,4,none⟩=some (.int .i64 fi):=(by rw[World.cell?_setCell_other _ _ _ _ (by simp)];exact u4)))
  all_goals
   have C8:=C7.set Q 5 (.int .i64 (fi+la)) hQc hQW
   have x8:(v7.setCell ⟨Q,5,none⟩ (.int .i64 (fi+la))).heap[Q]? =some (tkB ⟨1+id,1+cl,pr,fi,fi+la⟩ nm none 0 0 28):=tk_set x7 _
   have m8:(v7.setCell ⟨Q,5,none⟩ (.int .i64 (fi+la))).heap[w.heap.size]? =_:=(Below.heap_setCell _ _ _ _ (fun h=>hQR h.symm)).trans m7
   have K8:=K7.set Q 5 (.int .i64 (fi+la)) hQw
   go_wp2
   go_meet
   case rel=>exact⟨la,hla0,hla2,C8,x8,m8,K8⟩
 case rest=>
  obtain⟨la,hla0,hla2,C8,x8,m8,K8⟩:=hcut
  obtain⟨V8,hV8⟩:∃V,V=wc:=⟨_,rfl⟩
  subst hV8
  clear t4 t5 g5 x6 m6 K6 C6 HB4
  have HCW:Hid (c<w.heap.size∧W0.heap.size≤w.heap.size):=⟨hlt,C.below.size⟩
  go_wp2_with fail
  refine(below_any C8 3).mono ?_
  rintro e w9 ⟨⟨mm,rfl,hmm0,hmm1⟩,C9,M9⟩
  have hmm2:=hmm1 (by omega)
  obtain⟨m9,rfl⟩:=Int.eq_ofNat_of_zero_le hmm0
  have x9:w9.heap[Q]? =_:=(M9.block _ hQc).trans x8
  have y9:w9.heap[w.heap.size]? =_:=(M9.block _ hRc).trans m8
  have K9:=K8.trans (Kb.moved M9)
  clear x8 m8 K8 C8 M9 hmm1
  go_wp2
  go_loopw [5] (fun i wr=>∃(k:Nat) (ls:List Lg) (va:Option Addr) (vc:Nat),k≤1+m9∧i= .int .i64 k∧ls.length=k∧Is W0 a n cap c wr∧Kb c w wr∧wr.heap[w.heap.size]? =some (tkB ⟨0,0,0,0,0⟩ ⟨#[]⟩ none 0 0 28)∧wr.heap[Q]? =some (tkB ⟨1+id,1+cl,pr,fi,fi+la⟩ nm va k vc 28)∧wr.ownsRow w.heap.size 64 6 (.slice va k vc) k (lcells ls)) (fun i _=>1+m9-(intOf i).toNat)
  case atStart=>exact⟨0,[],none,0,by omega,rfl,rfl,C9,K9,y9,x9,⟨rfl,Or.inl ⟨rfl,rfl⟩⟩⟩
  case round=>
   clear C9 K9 y9 x9
   obtain⟨k,ls,va,vc,hk,rfl,hlk,CR,KR,yR,xR,OR⟩:=hrel
   by_cases hkn:k<1+m9
   ·have hkd:decide ((k:Int)<1+(m9:Int))=true:=decide_eq_true (by omega)
    have hQlt:=lt_of xR
    have hcw:c<w.heap.size:=HCW.out.1
    have hW0w:W0.heap.size≤w.heap.size:=HCW.out.2
    have t4:wr.cell? ⟨Q,4,none⟩=some (.int .i64 fi):=cell_at xR 4
    have t5:wr.cell? ⟨Q,5,none⟩=some (.int .i64 (fi+la)):=cell_at xR 5
    have HS:Hid (∀W,Kb c wr W→W.cell? ⟨Q,4,none⟩=some (.int .i64 fi)∧W.cell? ⟨Q,5,none⟩=some (.int .i64 (fi+la))):=fun W K=>⟨cell_at (K.at hQc xR) 4,cell_at (K.at hQc xR) 5⟩
    have hwa:IntKind.i64.wrap (fi+la-fi)=la:=by rw[IntKind.wrap_i64];omega
    have hwc:wrap64 (fi+la-fi)=la:=by unfold wrap64;omega
    have hwd:IntKind.i64.wrap la=la:=by rw[IntKind.wrap_i64];omega
    have hwe:wrap64 la=la:=by unfold wrap64;omega
    have hwb:IntKind.i64.wrap (la+1)=la+1:=by rw[IntKind.wrap_i64];omega
    have hwf:wrap64 (la+1)=la+1:=by unfold wrap64;omega
    have HLK:Hid (ls.length=k):=hlk
    have HKN:Hid (k<1+m9):=hkn
    clear hlk hkn hk
    go_wp2
    go_cut [6]from 30 to 71 (fun p wc=>∃(X:Nat) (d1 d2 d3 d4:Int),p= .pointer (some ⟨X,0,none⟩)∧wr.heap.size≤X∧wc.heap[X]? =some (.cells #[.int .i64 d1,.int .i64 d2,.int .i64 d3,.int .i64 d4,.int .i64 0,.int .i64 0] 64)∧Is W0 a n cap c wc∧Kb c wr wc)
    case first=>
     have K0:Kb c wr (World.drew wr):=(Kb.refl c wr).drew
     have C0:Is W0 a n cap c (World.drew wr):=CR.drewN 1
     refine wp_region_held_drew (S:=(fun w'=>w'.cell? ⟨Q,4,none⟩=some (.int .i64 fi)∧w'.cell? ⟨Q,5,none⟩=some (.int .i64 (fi+la)))) (by kernel_rfl) ?_ (fun hHeld=> ?_)
     ·exact HS.out _ K0
     refine wpAnyH_take (i:=0) (v:= .pointer (some ⟨c,0,none⟩)) rfl (by kernel_rfl) (by kernel_rfl) (by kernel_rfl) (fun _ _ _ h=>h) (Or.inl ⟨by kernel_rfl,fun w hSw=>by first|(go_simp;done)|(dsimp only at hSw;obtain⟨s0,s1⟩:=hSw;go_simp;done)|rfl⟩) (by assumption) ?_
     simp only[Act.put,List.getElem_toArray,List.getElem_cons_succ,List.getElem_cons_zero,List.setIfInBounds_toArray,List.set_cons_succ,List.set_cons_zero]
     refine wpAnyH_take (i:=3) (v:= .pointer (some ⟨Q,4,none⟩)) rfl (by kernel_rfl) (by kernel_rfl) (by kernel_rfl) (fun _ _ _ h=>h) (Or.inl ⟨by kernel_rfl,fun w hSw=>by first|(go_simp;done)|(dsimp only at hSw;obtain⟨s0,s1⟩:=hSw;go_simp;done)|rfl⟩) (by assumption) ?_
     simp only[Act.put,List.getElem_toArray,List.getElem_cons_succ,List.getElem_cons_zero,List.setIfInBounds_toArray,List.set_cons_succ,List.set_cons_zero]
     refine wpAnyH_take (i:=4) (v:= .int .i64 fi) rfl (by kernel_rfl) (by kernel_rfl) (by kernel_rfl) (fun _ _ _ h=>h) (Or.inl ⟨by kernel_rfl,fun w hSw=>by first|(go_simp;done)|(dsimp only at hSw;obtain⟨s0,s1⟩:=hSw;go_simp;done)|rfl⟩) (by assumption) ?_
     simp only[Act.put,List.getElem_toArray,List.getElem_cons_succ,List.getElem_cons_zero,List.setIfInBounds_toArray,List.set_cons_succ,List.set_cons_zero]
     refine wpAnyH_take (i:=5) (v:= .pointer (some ⟨c,0,none⟩)) rfl (by kernel_rfl) (by kernel_rfl) (by kernel_rfl) (fun _ _ _ h=>h) (Or.inl ⟨by kernel_rfl,fun w hSw=>by first|(go_simp;done)|(dsimp only at hSw;obtain⟨s0,s1⟩:=hSw;go_simp;done)|rfl⟩) (by assumption) ?_
     simp only[Act.put,List.getElem_toArray,List.getElem_cons_succ,List.getElem_cons_zero,List.setIfInBounds_toArray,List.set_cons_succ,List.set_cons_zero]
     refine wpAnyH_take (i:=6) (v:= .pointer (some ⟨Q,5,none⟩)) rfl (by kernel_rfl) (by kernel_rfl) (by kernel_rfl) (fun _ _ _ h=>h) (Or.inl ⟨by kernel_rfl,fun w hSw=>by first|(go_simp;done)|(dsimp only at hSw;obtain⟨s0,s1⟩:=hSw;go_simp;done)|rfl⟩) (by assumption) ?_
     simp only[Act.put,List.getElem_toArray,List.getElem_cons_succ,List.getElem_cons_zero,List.setIfInBounds_toArray,List.set_cons_succ,List.set_cons_zero]
     refine wpAnyH_take (i:=7) (v:= .int .i64 (fi+la)) rfl (by kernel_rfl) (by kernel_rfl) (by kernel_rfl) (fun _ _ _ h=>h) (Or.inl ⟨by kernel_rfl,fun w hSw=>by first|(go_simp;done)|(dsimp only at hSw;obtain⟨s0,s1⟩:=hSw;go_simp;done)|rfl⟩) (by assumption) ?_
     simp only[Act.put,List.getElem_toArray,List.getElem_cons_succ,List.getElem_cons_zero,List.setIfInBounds_toArray,List.set_cons_succ,List.set_cons_zero]
     refine wpAnyH_take (i:=8) (v:= .pointer (some ⟨Q,4,none⟩)) rfl (by kernel_rfl) (by kernel_rfl) (by kernel_rfl) (fun _ _ _ h=>h) (Or.inl ⟨by kernel_rfl,fun w hSw=>by first|(go_simp;done)|(dsimp only at hSw;obtain⟨s0,s1⟩:=hSw;go_simp;done)|rfl⟩) (by assumption) ?_
     simp only[Act.put,List.getElem_toArray,List.getElem_cons_succ,List.getElem_cons_zero,List.setIfInBounds_toArray,List.set_cons_succ,List.set_cons_zero]
     refine wpAnyH_take (i:=9) (v:= .int .i64 fi) rfl (by kernel_rfl) (by kernel_rfl) (by kernel_rfl) (fun _ _ _ h=>h) (Or.inl ⟨by kernel_rfl,fun w hSw=>by first|(go_simp;done)|(dsimp only at hSw;obtain⟨s0,s1⟩:=hSw;go_simp;done)|rfl⟩) (by assumption) ?_
     simp only[Act.put,List.getElem_toArray,List.getElem_cons_succ,List.getElem_cons_zero,List.setIfInBounds_toArray,List.set_cons_succ,List.set_cons_zero]
     refine wpAnyH_take (i:=10) (v:= .int .i64 la) rfl (by kernel_rfl) (by kernel_rfl) (by kernel_rfl) (fun _ _ _ h=>h) (Or.inl ⟨by kernel_rfl,fun w hSw=>by first|(go_simp;done)|(dsimp only at hSw;obtain⟨s0,s1⟩:=hSw;go_simp;done)|rfl⟩) (by assumption) ?_
     simp only[Act.put,List.getElem_toArray,List.getElem_cons_succ,List.getElem_cons_zero,List.setIfInBounds_toArray,List.set_cons_succ,List.set_cons_zero]
     refine wpAnyH_take (i:=11) (v:= .int .i64 (la+1)) rfl (by kernel_rfl) (by kernel_rfl) (by kernel_rfl) (fun _ _ _ h=>h) (Or.inl ⟨by kernel_rfl,fun w hSw=>by first|(go_simp;done)|(dsimp only at hSw;obtain⟨s0,s1⟩:=hSw;go_simp;done)|rfl⟩) (by assumption) ?_
     simp only[Act.put,List.getElem_toArray,List.getElem_cons_succ,List.getElem_cons_zero,List.setIfInBounds_toArray,List.set_cons_succ,List.set_cons_zero]
     refine wpAnyH_take (i:=14) (v:= .pointer (some ⟨c,0,none⟩)) rfl (by kernel_rfl) (by kernel_rfl) (by kernel_rfl) (fun _ _ _ h=>h) (Or.inl ⟨by kernel_rfl,fun w hSw=>by first|(go_simp;done)|(dsimp only at hSw;obtain⟨s0,s1⟩:=hSw;go_simp;done)|rfl⟩) (by assumption) ?_
     simp only[Act.put,List.getElem_toArray,List.getElem_cons_succ,List.getElem_cons_zero,List.setIfInBounds_toArray,List.set_cons_succ,List.set_cons_zero]
     refine wpAnyH_take (i:=17) (v:= .pointer (some ⟨c,0,none⟩)) rfl (by kernel_rfl) (by kernel_rfl) (by kernel_rfl) (fun _ _ _ h=>h) (Or.inl ⟨by kernel_rfl,fun w hSw=>by first|(go_simp;done)|(dsimp only at hSw;obtain⟨s0,s1⟩:=hSw;go_simp;done)|rfl⟩) (by assumption) ?_
     simp only[Act.put,List.getElem_toArray,List.getElem_cons_succ,List.getElem_cons_zero,List.setIfInBounds_toArray,List.set_cons_succ,List.set_cons_zero]
     generalize World.drew wr=w7 at*
     refine wpAnyH_ready (rs:= [1,21]) (by kernel_rfl) (by simp) ?_
     refine AllReadyH.cons rfl (fun K hK=> ?_) (AllReadyH.cons rfl (fun K hK=> ?_) (AllReadyH.nil))
     ·go_simp
      go_wp2_with (go_at_call 18;(with_reducible refine(below_any C0 (900)).mono ?_);rintro e w1 ⟨⟨x1,rfl,hx1a,hx1b⟩,C1,M1⟩)
      have K1:=K0.trans (Kb.moved M1)
      refine hK.out _ _ ?_ (fun hHeld2=> ?_)
      ·exact HS.out _ (K1)
      clear hK K hHeld
      have hHeld:=hHeld2
      clear hHeld2
      have hx1c:=hx1b (by omega)
      obtain⟨d1,hd1⟩:∃d:Int,1+x1=d:=⟨_,rfl⟩
      have qd1a:wrap64 (1+x1)=d1:=by rw[hd1];unfold wrap64;omega
      have qd1b:IntKind.i64.wrap (1+x1)=d1:=by rw[hd1,IntKind.wrap_i64];omega
      clear hd1 hx1a hx1b hx1c
      refine wpAnyH_take (i:=2) (v:= .int .i64 d1) rfl (by kernel_rfl) (by kernel_rfl) (by kernel_rfl) (fun _ _ _ h=>h) (Or.inl ⟨by kernel_rfl,fun w hSw=>by first|(go_simp;done)|(dsimp only at hSw;obtain⟨s0,s1⟩:=hSw;go_simp;done)|rfl⟩) (by assumption) ?_
      simp only[Act.put,List.getElem_toArray,List.getElem_cons_succ,List.getElem_cons_zero,List.setIfInBounds_toArray,List.set_cons_succ,List.set_cons_zero]
      clear qd1a qd1b
      refine wpAnyH_ready (rs:= [12,21]) (by kernel_rfl) (by simp) ?_
      refine AllReadyH.cons rfl (fun K hK=> ?_) (AllReadyH.cons rfl (fun K hK=> ?_) (AllReadyH.nil))
      ·go_simp
       go_wp2_with (go_at_call 18;(with_reducible refine(below_any C1 (la+1)).mono ?_);rintro e w2 ⟨⟨x2,rfl,hx2a,hx2b⟩,C2,M2⟩)
       have K2:=K1.trans (Kb.moved M2)
       refine hK.out _ _ ?_ (fun hHeld2=> ?_)
       ·exact HS.out _ (K2)
       clear hK K hHeld
       have hHeld:=hHeld2
       clear hHeld2
       have hx2c:=hx2b (by omega)
       obtain⟨d2,hd2⟩:∃d:Int,fi+x2=d:=⟨_,rfl⟩
       have qd2a:wrap64 (fi+x2)=d2:=by rw[hd2];unfold wrap64;omega
       have qd2b:IntKind.i64.wrap (fi+x2)=d2:=by rw[hd2,IntKind.wrap_i64];omega
       clear hd2 hx2a hx2b hx2c
       refine wpAnyH_take (i:=13) (v:= .int .i64 d2) rfl (by kernel_rfl) (by kernel_rfl) (by kernel_rfl) (fun _ _ _ h=>h) (Or.inl ⟨by kernel_rfl,fun w hSw=>by first|(go_simp;done)|(dsimp only at hSw;obtain⟨s0,s1⟩:=hSw;go_simp;done)|rfl⟩) (by assumption) ?_
       simp only[Act.put,List.getElem_toArray,List.getElem_cons_succ,List.getElem_cons_zero,List.setIfInBounds_toArray,List.set_cons_succ,List.set_cons_zero]
       clear qd2a qd2b
       refine wpAnyH_ready (rs:= [15,21]) (by kernel_rfl) (by simp) ?_
       refine AllReadyH.cons rfl (fun K hK=> ?_) (AllReadyH.cons rfl (fun K hK=> ?_) (AllReadyH.nil))
       ·go_simp
        go_wp2_with (go_at_call 18;(with_reducible refine(below_any C2 (20)).mono ?_);rintro e w3 ⟨⟨x3,rfl,hx3a,hx3b⟩,C3,M3⟩)
        have K3:=K2.trans (Kb.moved M3)
        refine hK.out _ _ ?_ (fun hHeld2=> ?_)
        ·exact HS.out _ (K3)
        clear hK K hHeld
        have hHeld:=hHeld2
        clear hHeld2
        have hx3c:=hx3b (by omega)
        obtain⟨d3,hd3⟩:∃d:Int,1+x3=d:=⟨_,rfl⟩
        have qd3a:wrap64 (1+x3)=d3:=by rw[hd3];unfold wrap64;omega
        have qd3b:IntKind.i64.wrap (1+x3)=d3:=by rw[hd3,IntKind.wrap_i64];omega
        clear hd3 hx3a hx3b hx3c
        refine wpAnyH_take (i:=16) (v:= .int .i64 d3) rfl (by kernel_rfl) (by kernel_rfl) (by kernel_rfl) (fun _ _ _ h=>h) (Or.inl ⟨by kernel_rfl,fun w hSw=>by first|(go_simp;done)|(dsimp only at hSw;obtain⟨s0,s1⟩:=hSw;go_simp;done)|rfl⟩) (by assumption) ?_
        simp only[Act.put,List.getElem_toArray,List.getElem_cons_succ,List.getElem_cons_zero,List.setIfInBounds_toArray,List.set_cons_succ,List.set_cons_zero]
        clear qd3a qd3b
        refine wpAnyH_ready (rs:= [18,21]) (by kernel_rfl) (by simp) ?_
        refine AllReadyH.cons rfl (fun K hK=> ?_) (AllReadyH.cons rfl (fun K hK=> ?_) (AllReadyH.nil))
        ·go_simp
         go_wp2_with (go_at_call 18;(with_reducible refine(below_any C3 (20)).mono ?_);rintro e w4 ⟨⟨x4,rfl,hx4a,hx4b⟩,C4,M4⟩)
         have K4:=K3.trans (Kb.moved M4)
         refine hK.out _ _ ?_ (fun hHeld2=> ?_)
         ·exact HS.out _ (K4)
         clear hK K hHeld
         have hHeld:=hHeld2
         clear hHeld2
         have hx4c:=hx4b (by omega)
         obtain⟨d4,hd4⟩:∃d:Int,21+x4=d:=⟨_,rfl⟩
         have qd4a:wrap64 (21+x4)=d4:=by rw[hd4];unfold wrap64;omega
         have qd4b:IntKind.i64.wrap (21+x4)=d4:=by rw[hd4,IntKind.wrap_i64];omega
         clear hd4 hx4a hx4b hx4c
         refine wpAnyH_take (i:=19) (v:= .int .i64 d4) rfl (by kernel_rfl) (by kernel_rfl) (by kernel_rfl) (fun _ _ _ h=>h) (Or.inl ⟨by kernel_rfl,fun w hSw=>by first|(go_simp;done)|(dsimp only at hSw;obtain⟨s0,s1⟩:=hSw;go_simp;done)|rfl⟩) (by assumption) ?_
         simp only[Act.put,List.getElem_toArray,List.getElem_cons_succ,List.getElem_cons_zero,List.setIfInBounds_toArray,List.set_cons_succ,List.set_cons_zero]
         clear qd4a qd4b
         refine wpAnyH_take (i:=20) (v:= .agg #[.int .i64 d1,.int .i64 d2,.int .i64 d3,.int .i64 d4,.int .i64 0,.int .i64 0]) rfl (by kernel_rfl) (by kernel_rfl) (by kernel_rfl) (fun _ _ _ h=>h) (Or.inl ⟨by kernel_rfl,fun w hSw=>by first|(go_simp;done)|(dsimp only at hSw;obtain⟨s0,s1⟩:=hSw;go_simp;done)|rfl⟩) (by assumption) ?_
         simp only[Act.put,List.getElem_toArray,List.getElem_cons_succ,List.getElem_cons_zero,List.setIfInBounds_toArray,List.set_cons_succ,List.set_cons_zero]
         refine wpAnyH_ready (rs:= [21]) (by kernel_rfl) (by simp) ?_
         refine AllReadyH.cons rfl (fun K hK=> ?_) (AllReadyH.nil)
         go_simp
         have K5:Kb c wr (w4.alloc (.cells #[.int .i64 0,.int .i64 0,.int .i64 0,.int .i64 0,.int .i64 0,.int .i64 0] 64)):=K4.alloc _
         have C5:=C4.alloc (.cells #[.int .i64 0,.int .i64 0,.int .i64 0,.int .i64 0,.int .i64 0,.int .i64 0] 64)
         have X5:=heap_new w4 (.cells #[.int .i64 0,.int .i64 0,.int .i64 0,.int .i64 0,.int .i64 0,.int .i64 0] 64)
         have hXw:wr.heap.size≤w4.heap.size:=K4.size
         have hXc:w4.heap.size≠c:=by have:=C4.lt;omega
         have hXW:W0.heap.size≤w4.heap.size:=C4.below.size
         refine hK.out _ _ ?_ (fun hHeld2=> ?_)
         ·exact HS.out _ (K5)
         clear hK K hHeld
         have hHeld:=hHeld2
         clear hHeld2
         obtain⟨X,hXe⟩:∃X,w4.heap.size=X:=⟨_,rfl⟩
         rw[hXe]at X5 hXw hXc hXW
         try rw[hXe]
         clear hXe
         generalize w4.alloc (.cells #[.int .i64 0,.int .i64 0,.int .i64 0,.int .i64 0,.int .i64 0,.int .i64 0] 64)=w5 at*
         have z0:w5.cell? ⟨X,0,none⟩=some (.int .i64 0):=cell_at X5 0
         have fz0:w5.frozen? ⟨X,0,none⟩=false:=frozen_at X5 0
         have z1:w5.cell? ⟨X,1,none⟩=some (.int .i64 0):=cell_at X5 1
         have fz1:w5.frozen? ⟨X,1,none⟩=false:=frozen_at X5 1
         have z2:w5.cell? ⟨X,2,none⟩=some (.int .i64 0):=cell_at X5 2
         have fz2:w5.frozen? ⟨X,2,none⟩=false:=frozen_at X5 2
         have z3:w5.cell? ⟨X,3,none⟩=some (.int .i64 0):=cell_at X5 3
         have fz3:w5.frozen? ⟨X,3,none⟩=false:=frozen_at X5 3
         have z4:w5.cell? ⟨X,4,none⟩=some (.int .i64 0):=cell_at X5 4
         have fz4:w5.frozen? ⟨X,4,none⟩=false:=frozen_at X5 4
         have z5:w5.cell? ⟨X,5,none⟩=some (.int .i64 0):=cell_at X5 5
         have fz5:w5.frozen? ⟨X,5,none⟩=false:=frozen_at X5 5
         have K9:Kb c wr ((((((w5.setCell ⟨X,0,none⟩ (.int .i64 d1)).setCell ⟨X,1,none⟩ (.int .i64 d2)).setCell ⟨X,2,none⟩ (.int .i64 d3)).setCell ⟨X,3,none⟩ (.int .i64 d4)).setCell ⟨X,4,none⟩ (.int .i64 0)).setCell ⟨X,5,none⟩ (.int .i64 0)):=((((((K5.set X 0 (.int .i64 d1) hXw).set X 1 (.int .i64 d2) hXw).set X 2 (.int .i64 d3) hXw).set X 3 (.int .i64 d4) hXw).set X 4 (.int .i64 0) hXw).set X 5 (.int .i64 0) hXw)
         have C9:Is W0 a n cap c ((((((w5.setCell ⟨X,0,none⟩ (.int .i64 d1)).setCell ⟨X,1,none⟩ (.int .i64 d2)).setCell ⟨X,2,none⟩ (.int .i64 d3)).setCell ⟨X,3,none⟩ (.int .i64 d4)).setCell ⟨X,4,none⟩ (.int .i64 0)).setCell ⟨X,5,none⟩ (.int .i64 0)):=((((((C5.set X 0 (.int .i64 d1) hXc hXW).set X 1 (.int .i64 d2) hXc hXW).set X 2 (.int .i64 d3) hXc hXW).set X 3 (.int .i64 d4) hXc hXW).set X 4 (.int .i64 0) hXc hXW).set X 5 (.int .i64 0) hXc hXW)
         have X9:((((((w5.setCell ⟨X,0,none⟩ (.int .i64 d1)).setCell ⟨X,1,none⟩ (.int .i64 d2)).setCell ⟨X,2,none⟩ (.int .i64 d3)).setCell ⟨X,3,none⟩ (.int .i64 d4)).setCell ⟨X,4,none⟩ (.int .i64 0)).setCell ⟨X,5,none⟩ (.int .i64 0)).heap[X]? =some (.cells #[.int .i64 d1,.int .i64 d2,.int .i64 d3,.int .i64 d4,.int .i64 0,.int .i64 0] 64):=set6_heap X5 ..
         refine wpAnyH_ready (rs:= [22]) (by kernel_rfl) (by simp) ?_
         refine AllReadyH.cons rfl (fun K hK=> ?_) (AllReadyH.nil)
         go_simp
         refine hK.out _ _ ?_ (fun hHeld2=> ?_)
         ·exact HS.out _ (K9)
         clear hK K hHeld
         have hHeld:=hHeld2
         clear hHeld2
         refine wpAnyH_done (by kernel_rfl) ?_ _
         clear hHeld z0 fz0 z1 fz1 z2 fz2 z3 fz3 z4 fz4 z5 fz5
         go_wp2
         go_meet
         case rel=>exact⟨X,d1,d2,d3,d4,rfl,hXw,X9,C9,K9⟩
        ·go_simp
         have K6:Kb c wr (w3.alloc (.cells #[.int .i64 0,.int .i64 0,.int .i64 0,.int .i64 0,.int .i64 0,.int .i64 0] 64)):=K3.alloc _
         have C6:=C3.alloc (.cells #[.int .i64 0,.int .i64 0,.int .i64 0,.int .i64 0,.int .i64 0,.int .i64 0] 64)
         have X6:=heap_new w3 (.cells #[.int .i64 0,.int .i64 0,.int .i64 0,.int .i64 0,.int .i64 0,.int .i64 0] 64)
         have hXw:wr.heap.size≤w3.heap.size:=K3.size
         have hXc:w3.heap.size≠c:=by have:=C3.lt;omega
         have hXW:W0.heap.size≤w3.heap.size:=C3.below.size
         refine hK.out _ _ ?_ (fun hHeld2=> ?_)
         ·exact HS.out _ (K6)
         clear hK K hHeld
         have hHeld:=hHeld2
         clear hHeld2
         obtain⟨X,hXe⟩:∃X,w3.heap.size=X:=⟨_,rfl⟩
         rw[hXe]at X6 hXw hXc hXW
         try rw[hXe]
         clear hXe
         generalize w3.alloc (.cells #[.int .i64 0,.int .i64 0,.int .i64 0,.int .i64 0,.int .i64 0,.int .i64 0] 64)=w6 at*
         refine wpAnyH_ready (rs:= [18]) (by kernel_rfl) (by simp) ?_
         refine AllReadyH.cons rfl (fun K hK=> ?_) (AllReadyH.nil)
         go_simp
         go_wp2_with (go_at_call 18;(with_reducible refine(below_any C6 (20)).mono ?_);rintro e w7 ⟨⟨x7,rfl,hx7a,hx7b⟩,C7,M7⟩)
         have K7:=K6.trans (Kb.moved M7)
         have X7:w7.heap[X]? =some (.cells #[.int .i64 0,.int .i64 0,.int .i64 0,.int .i64 0,.int .i64 0,.int .i64 0] 64):=(M7.block X hXc).trans X6
         refine hK.out _ _ ?_ (fun hHeld2=> ?_)
         ·exact HS.out _ (K7)
         clear hK K hHeld
         have hHeld:=hHeld2
         clear hHeld2
         have hx7c:=hx7b (by omega)
         obtain⟨d4,hd4⟩:∃d:Int,21+x7=d:=⟨_,rfl⟩
         have qd4a:wrap64 (21+x7)=d4:=by rw[hd4];unfold wrap64;omega
         have qd4b:IntKind.i64.wrap (21+x7)=d4:=by rw[hd4,IntKind.wrap_i64];omega
         clear hd4 hx7a hx7b hx7c
         refine wpAnyH_take (i:=19) (v:= .int .i64 d4) rfl (by kernel_rfl) (by kernel_rfl) (by kernel_rfl) (fun _ _ _ h=>h) (Or.inl ⟨by kernel_rfl,fun w hSw=>by first|(go_simp;done)|(dsimp only at hSw;obtain⟨s0,s1⟩:=hSw;go_simp;done)|rfl⟩) (by assumption) ?_
         simp only[Act.put,List.getElem_toArray,List.getElem_cons_succ,List.getElem_cons_zero,List.setIfInBounds_toArray,List.set_cons_succ,List.set_cons_zero]
         clear qd4a qd4b
         refine wpAnyH_take (i:=20) (v:= .agg #[.int .i64 d1,.int .i64 d2,.int .i64 d3,.int .i64 d4,.int .i64 0,.int .i64 0]) rfl (by kernel_rfl) (by kernel_rfl) (by kernel_rfl) (fun _ _ _ h=>h) (Or.inl ⟨by kernel_rfl,fun w hSw=>by first|(go_simp;done)|(dsimp only at hSw;obtain⟨s0,s1⟩:=hSw;go_simp;done)|rfl⟩) (by assumption) ?_
         simp only[Act.put,List.getElem_toArray,List.getElem_cons_succ,List.getElem_cons_zero,List.setIfInBounds_toArray,List.set_cons_succ,List.set_cons_zero]
         have z0:w7.cell? ⟨X,0,none⟩=some (.int .i64 0):=cell_at X7 0
         have fz0:w7.frozen? ⟨X,0,none⟩=false:=frozen_at X7 0
         have z1:w7.cell? ⟨X,1,none⟩=some (.int .i64 0):=cell_at X7 1
         have fz1:w7.frozen? ⟨X,1,none⟩=false:=frozen_at X7 1
         have z2:w7.cell? ⟨X,2,none⟩=some (.int .i64 0):=cell_at X7 2
         have fz2:w7.frozen? ⟨X,2,none⟩=false:=frozen_at X7 2
         have z3:w7.cell? ⟨X,3,none⟩=some (.int .i64 0):=cell_at X7 3
         have fz3:w7.frozen? ⟨X,3,none⟩=false:=frozen_at X7 3
         have z4:w7.cell? ⟨X,4,none⟩=some (.int .i64 0):=cell_at X7 4
         have fz4:w7.frozen? ⟨X,4,none⟩=false:=frozen_at X7 4
         have z5:w7.cell? ⟨X,5,none⟩=some (.int .i64 0):=cell_at X7 5
         have fz5:w7.frozen? ⟨X,5,none⟩=false:=frozen_at X7 5
         have K9:Kb c wr ((((((w7.setCell ⟨X,0,none⟩ (.int .i64 d1)).setCell ⟨X,1,none⟩ (.int .i64 d2)).setCell ⟨X,2,none⟩ (.int .i64 d3)).setCell ⟨X,3,none⟩ (.int .i64 d4)).setCell ⟨X,4,none⟩ (.int .i64 0)).setCell ⟨X,5,none⟩ (.int .i64 0)):=((((((K7.set X 0 (.int .i64 d1) hXw).set X 1 (.int .i64 d2) hXw).set X 2 (.int .i64 d3) hXw).set X 3 (.int .i64 d4) hXw).set X 4 (.int .i64 0) hXw).set X 5 (.int .i64 0) hXw)
         have C9:Is W0 a n cap c ((((((w7.setCell ⟨X,0,none⟩ (.int .i64 d1)).setCell ⟨X,1,none⟩ (.int .i64 d2)).setCell ⟨X,2,none⟩ (.int .i64 d3)).setCell ⟨X,3,none⟩ (.int .i64 d4)).setCell ⟨X,4,none⟩ (.int .i64 0)).setCell ⟨X,5,none⟩ (.int .i64 0)):=((((((C7.set X 0 (.int .i64 d1) hXc hXW).set X 1 (.int .i64 d2) hXc hXW).set X 2 (.int .i64 d3) hXc hXW).set X 3 (.int .i64 d4) hXc hXW).set X 4 (.int .i64 0) hXc hXW).set X 5 (.int .i64 0) hXc hXW)
         have X9:((((((w7.setCell ⟨X,0,none⟩ (.int .i64 d1)).setCell ⟨X,1,none⟩ (.int .i64 d2)).setCell ⟨X,2,none⟩ (.int .i64 d3)).setCell ⟨X,3,none⟩ (.int .i64 d4)).setCell ⟨X,4,none⟩ (.int .i64 0)).setCell ⟨X,5,none⟩ (.int .i64 0)).heap[X]? =some (.cells #[.int .i64 d1,.int .i64 d2,.int .i64 d3,.int .i64 d4,.int .i64 0,.int .i64 0] 64):=set6_heap X7 ..
         refine wpAnyH_ready (rs:= [22]) (by kernel_rfl) (by simp) ?_
         refine AllReadyH.cons rfl (fun K hK=> ?_) (AllReadyH.nil)
         go_simp
         refine hK.out _ _ ?_ (fun hHeld2=> ?_)
         ·exact HS.out _ (K9)
         clear hK K hHeld
         have hHeld:=hHeld2
         clear hHeld2
         refine wpAnyH_done (by kernel_rfl) ?_ _
         clear hHeld z0 fz0 z1 fz1 z2 fz2 z3 fz3 z4 fz4 z5 fz5
         go_wp2
         go_meet
         case rel=>exact⟨X,d1,d2,d3,d4,rfl,hXw,X9,C9,K9⟩
       ·go_simp
        have K8:Kb c wr (w2.alloc (.cells #[.int .i64 0,.int .i64 0,.int .i64 0,.int .i64 0,.int .i64 0,.int .i64 0] 64)):=K2.alloc _
        have C8:=C2.alloc (.cells #[.int .i64 0,.int .i64 0,.int .i64 0,.int .i64 0,.int .i64 0,.int .i64 0] 64)
        have X8:=heap_new w2 (.cells #[.int .i64 0,.int .i64 0,.int .i64 0,.int .i64 0,.int .i64 0,.int .i64 0] 64)
        have hXw:wr.heap.size≤w2.heap.size:=K2.size
        have hXc:w2.heap.size≠c:=by have:=C2.lt;omega
        have hXW:W0.heap.size≤w2.heap.size:=C2.below.size
        refine hK.out _ _ ?_ (fun hHeld2=> ?_)
        ·exact HS.out _ (K8)
        clear hK K hHeld
        have hHeld:=hHeld2
        clear hHeld2
        obtain⟨X,hXe⟩:∃X,w2.heap.size=X:=⟨_,rfl⟩
        rw[hXe]at X8 hXw hXc hXW
        try rw[hXe]
        clear hXe
        generalize w2.alloc (.cells #[.int .i64 0,.int .i64 0,.int .i64 0,.int .i64 0,.int .i64 0,.int .i64 0] 64)=w8 at*
        refine wpAnyH_ready (rs:= [15]) (by kernel_rfl) (by simp) ?_
        refine AllReadyH.cons rfl (fun K hK=> ?_) (AllReadyH.nil)
        go_simp
        go_wp2_with (go_at_call 18;(with_reducible refine(below_any C8 (20)).mono ?_);rintro e w9 ⟨⟨x9,rfl,hx9a,hx9b⟩,C9,M9⟩)
        have K9:=K8.trans (Kb.moved M9)
        have X9:w9.heap[X]? =some (.cells #[.int .i64 0,.int .i64 0,.int .i64 0,.int .i64 0,.int .i64 0,.int .i64 0] 64):=(M9.block X hXc).trans X8
        refine hK.out _ _ ?_ (fun hHeld2=> ?_)
        ·exact HS.out _ (K9)
        clear hK K hHeld
        have hHeld:=hHeld2
        clear hHeld2
        have hx9c:=hx9b (by omega)
        obtain⟨d3,hd3⟩:∃d:Int,1+x9=d:=⟨_,rfl⟩
        have qd3a:wrap64 (1+x9)=d3:=by rw[hd3];unfold wrap64;omega
        have qd3b:IntKind.i64.wrap (1+x9)=d3:=by rw[hd3,IntKind.wrap_i64];omega
        clear hd3 hx9a hx9b hx9c
        refine wpAnyH_take (i:=16) (v:= .int .i64 d3) rfl (by kernel_rfl) (by kernel_rfl) (by kernel_rfl) (fun _ _ _ h=>h) (Or.inl ⟨by kernel_rfl,fun w hSw=>by first|(go_simp;done)|(dsimp only at hSw;obtain⟨s0,s1⟩:=hSw;go_simp;done)|rfl⟩) (by assumption) ?_
        simp only[Act.put,List.getElem_toArray,List.getElem_cons_succ,List.getElem_cons_zero,List.setIfInBounds_toArray,List.set_cons_succ,List.set_cons_zero]
        clear qd3a qd3b
        refine wpAnyH_ready (rs:= [18]) (by kernel_rfl) (by simp) ?_
        refine AllReadyH.cons rfl (fun K hK=> ?_) (AllReadyH.nil)
        go_simp
        go_wp2_with (go_at_call 18;(with_reducible refine(below_any C9 (20)).mono ?_);rintro e w10 ⟨⟨x10,rfl,hx10a,hx10b⟩,C10,M10⟩)
        have K10:=K9.trans (Kb.moved M10)
        have X10:w10.heap[X]? =some (.cells #[.int .i64 0,.int .i64 0,.int .i64 0,.int .i64 0,.int .i64 0,.int .i64 0] 64):=(M10.block X hXc).trans X9
        refine hK.out _ _ ?_ (fun hHeld2=> ?_)
        ·exact HS.out _ (K10)
        clear hK K hHeld
        have hHeld:=hHeld2
        clear hHeld2
        have hx10c:=hx10b (by omega)
        obtain⟨d4,hd4⟩:∃d:Int,21+x10=d:=⟨_,rfl⟩
        have qd4a:wrap64 (21+x10)=d4:=by rw[hd4];unfold wrap64;omega
        have qd4b:IntKind.i64.wrap (21+x10)=d4:=by rw[hd4,IntKind.wrap_i64];omega
        clear hd4 hx10a hx10b hx10c
        refine wpAnyH_take (i:=19) (v:= .int .i64 d4) rfl (by kernel_rfl) (by kernel_rfl) (by kernel_rfl) (fun _ _ _ h=>h) (Or.inl ⟨by kernel_rfl,fun w hSw=>by first|(go_simp;done)|(dsimp only at hSw;obtain⟨s0,s1⟩:=hSw;go_simp;done)|rfl⟩) (by assumption) ?_
        simp only[Act.put,List.getElem_toArray,List.getElem_cons_succ,List.getElem_cons_zero,List.setIfInBounds_toArray,List.set_cons_succ,List.set_cons_zero]
        clear qd4a qd4b
        refine wpAnyH_take (i:=20) (v:= .agg #[.int .i64 d1,.int .i64 d2,.int .i64 d3,.int .i64 d4,.int .i64 0,.int .i64 0]) rfl (by kernel_rfl) (by kernel_rfl) (by kernel_rfl) (fun _ _ _ h=>h) (Or.inl ⟨by kernel_rfl,fun w hSw=>by first|(go_simp;done)|(dsimp only at hSw;obtain⟨s0,s1⟩:=hSw;go_simp;done)|rfl⟩) (by assumption) ?_
        simp only[Act.put,List.getElem_toArray,List.getElem_cons_succ,List.getElem_cons_zero,List.setIfInBounds_toArray,List.set_cons_succ,List.set_cons_zero]
        have z0:w10.cell? ⟨X,0,none⟩=some (.int .i64 0):=cell_at X10 0
        have fz0:w10.frozen? ⟨X,0,none⟩=false:=frozen_at X10 0
        have z1:w10.cell? ⟨X,1,none⟩=some (.int .i64 0):=cell_at X10 1
        have fz1:w10.frozen? ⟨X,1,none⟩=false:=frozen_at X10 1
        have z2:w10.cell? ⟨X,2,none⟩=some (.int .i64 0):=cell_at X10 2
        have fz2:w10.frozen? ⟨X,2,none⟩=false:=frozen_at X10 2
        have z3:w10.cell? ⟨X,3,none⟩=some (.int .i64 0):=cell_at X10 3
        have fz3:w10.frozen? ⟨X,3,none⟩=false:=frozen_at X10 3
        have z4:w10.cell? ⟨X,4,none⟩=some (.int .i64 0):=cell_at X10 4
        have fz4:w10.frozen? ⟨X,4,none⟩=false:=frozen_at X10 4
        have z5:w10.cell? ⟨X,5,none⟩=some (.int .i64 0):=cell_at X10 5
        have fz5:w10.frozen? ⟨X,5,none⟩=false:=frozen_at X10 5
        have K9:Kb c wr ((((((w10.setCell ⟨X,0,none⟩ (.int .i64 d1)).setCell ⟨X,1,none⟩ (.int .i64 d2)).setCell ⟨X,2,none⟩ (.int .i64 d3)).setCell ⟨X,3,none⟩ (.int .i64 d4)).setCell ⟨X,4,none⟩ (.int .i64 0)).setCell ⟨X,5,none⟩ (.int .i64 0)):=((((((K10.set X 0 (.int .i64 d1) hXw).set X 1 (.int .i64 d2) hXw).set X 2 (.int .i64 d3) hXw).set X 3 (.int .i64 d4) hXw).set X 4 (.int .i64 0) hXw).set X 5 (.int .i64 0) hXw)
        have C9:Is W0 a n cap c ((((((w10.setCell ⟨X,0,none⟩ (.int .i64 d1)).setCell ⟨X,1,none⟩ (.int .i64 d2)).setCell ⟨X,2,none⟩ (.int .i64 d3)).setCell ⟨X,3,none⟩ (.int .i64 d4)).setCell ⟨X,4,none⟩ (.int .i64 0)).setCell ⟨X,5,none⟩ (.int .i64 0)):=((((((C10.set X 0 (.int .i64 d1) hXc hXW).set X 1 (.int .i64 d2) hXc hXW).set X 2 (.int .i64 d3) hXc hXW).set X 3 (.int .i64 d4) hXc hXW).set X 4 (.int .i64 0) hXc hXW).set X 5 (.int .i64 0) hXc hXW)
        have X9:((((((w10.setCell ⟨X,0,none⟩ (.int .i64 d1)).setCell ⟨X,1,none⟩ (.int .i64 d2)).setCell ⟨X,2,none⟩ (.int .i64 d3)).setCell ⟨X,3,none⟩ (.int .i64 d4)).setCell ⟨X,4,none⟩ (.int .i64 0)).setCell ⟨X,5,none⟩ (.int .i64 0)).heap[X]? =some (.cells #[.int .i64 d1,.int .i64 d2,.int .i64 d3,.int .i64 d4,.int .i64 0,.int .i64 0] 64):=set6_heap X10 ..
        refine wpAnyH_ready (rs:= [22]) (by kernel_rfl) (by simp) ?_
        refine AllReadyH.cons rfl (fun K hK=> ?_) (AllReadyH.nil)
        go_simp
        refine hK.out _ _ ?_ (fun hHeld2=> ?_)
        ·exact HS.out _ (K9)
        clear hK K hHeld
        have hHeld:=hHeld2
        clear hHeld2
        refine wpAnyH_done (by kernel_rfl) ?_ _
        clear hHeld z0 fz0 z1 fz1 z2 fz2 z3 fz3 z4 fz4 z5 fz5
        go_wp2
        go_meet
        case rel=>exact⟨X,d1,d2,d3,d4,rfl,hXw,X9,C9,K9⟩
      ·go_simp
       have K11:Kb c wr (w1.alloc (.cells #[.int .i64 0,.int .i64 0,.int .i64 0,.int .i64 0,.int .i64 0,.int .i64 0] 64)):=K1.alloc _
       have C11:=C1.alloc (.cells #[.int .i64 0,.int .i64 0,.int .i64 0,.int .i64 0,.int .i64 0,.int .i64 0] 64)
       have X11:=heap_new w1 (.cells #[.int .i64 0,.int .i64 0,.int .i64 0,.int .i64 0,.int .i64 0,.int .i64 0] 64)
       have hXw:wr.heap.size≤w1.heap.size:=K1.size
       have hXc:w1.heap.size≠c:=by have:=C1.lt;omega
       have hXW:W0.heap.size≤w1.heap.size:=C1.below.size
       refine hK.out _ _ ?_ (fun hHeld2=> ?_)
       ·exact HS.out _ (K11)
       clear hK K hHeld
       have hHeld:=hHeld2
       clear hHeld2
       obtain⟨X,hXe⟩:∃X,w1.heap.size=X:=⟨_,rfl⟩
       rw[hXe]at X11 hXw hXc hXW
       try rw[hXe]
       clear hXe
       generalize w1.alloc (.cells #[.int .i64 0,.int .i64 0,.int .i64 0,.int .i64 0,.int .i64 0,.int .i64 0] 64)=w11 at*
       refine wpAnyH_ready (rs:= [12]) (by kernel_rfl) (by simp) ?_
       refine AllReadyH.cons rfl (fun K hK=> ?_) (AllReadyH.nil)
       go_simp
       go_wp2_with (go_at_call 18;(with_reducible refine(below_any C11 (la+1)).mono ?_);rintro e w12 ⟨⟨x12,rfl,hx12a,hx12b⟩,C12,M12⟩)
       have K12:=K11.trans (Kb.moved M12)
       have X12:w12.heap[X]? =some (.cells #[.int .i64 0,.int .i64 0,.int .i64 0,.int .i64 0,.int .i64 0,.int .i64 0] 64):=(M12.block X hXc).trans X11
       refine hK.out _ _ ?_ (fun hHeld2=> ?_)
       ·exact HS.out _ (K12)
       clear hK K hHeld
       have hHeld:=hHeld2
       clear hHeld2
       have hx12c:=hx12b (by omega)
       obtain⟨d2,hd2⟩:∃d:Int,fi+x12=d:=⟨_,rfl⟩
       have qd2a:wrap64 (fi+x12)=d2:=by rw[hd2];unfold wrap64;omega
       have qd2b:IntKind.i64.wrap (fi+x12)=d2:=by rw[hd2,IntKind.wrap_i64];omega
       clear hd2 hx12a hx12b hx12c
       refine wpAnyH_take (i:=13) (v:= .int .i64 d2) rfl (by kernel_rfl) (by kernel_rfl) (by kernel_rfl) (fun _ _ _ h=>h) (Or.inl ⟨by kernel_rfl,fun w hSw=>by first|(go_simp;done)|(dsimp only at hSw;obtain⟨s0,s1⟩:=hSw;go_simp;done)|rfl⟩) (by assumption) ?_
       simp only[Act.put,List.getElem_toArray,List.getElem_cons_succ,List.getElem_cons_zero,List.setIfInBounds_toArray,List.set_cons_succ,List.set_cons_zero]
       clear qd2a qd2b
       refine wpAnyH_ready (rs:= [15]) (by kernel_rfl) (by simp) ?_
       refine AllReadyH.cons rfl (fun K hK=> ?_) (AllReadyH.nil)
       go_simp
       go_wp2_with (go_at_call 18;(with_reducible refine(below_any C12 (20)).mono ?_);rintro e w13 ⟨⟨x13,rfl,hx13a,hx13b⟩,C13,M13⟩)
       have K13:=K12.trans (Kb.moved M13)
       have X13:w13.heap[X]? =some (.cells #[.int .i64 0,.int .i64 0,.int .i64 0,.int .i64 0,.int .i64 0,.int .i64 0] 64):=(M13.block X hXc).trans X12
       refine hK.out _ _ ?_ (fun hHeld2=> ?_)
       ·exact HS.out _ (K13)
       clear hK K hHeld
       have hHeld:=hHeld2
       clear hHeld2
       have hx13c:=hx13b (by omega)
       obtain⟨d3,hd3⟩:∃d:Int,1+x13=d:=⟨_,rfl⟩
       have qd3a:wrap64 (1+x13)=d3:=by rw[hd3];unfold wrap64;omega
       have qd3b:IntKind.i64.wrap (1+x13)=d3:=by rw[hd3,IntKind.wrap_i64];omega
       clear hd3 hx13a hx13b hx13c
       refine wpAnyH_take (i:=16) (v:= .int .i64 d3) rfl (by kernel_rfl) (by kernel_rfl) (by kernel_rfl) (fun _ _ _ h=>h) (Or.inl ⟨by kernel_rfl,fun w hSw=>by first|(go_simp;done)|(dsimp only at hSw;obtain⟨s0,s1⟩:=hSw;go_simp;done)|rfl⟩) (by assumption) ?_
       simp only[Act.put,List.getElem_toArray,List.getElem_cons_succ,List.getElem_cons_zero,List.setIfInBounds_toArray,List.set_cons_succ,List.set_cons_zero]
       clear qd3a qd3b
       refine wpAnyH_ready (rs:= [18]) (by kernel_rfl) (by simp) ?_
       refine AllReadyH.cons rfl (fun K hK=> ?_) (AllReadyH.nil)
       go_simp
       go_wp2_with (go_at_call 18;(with_reducible refine(below_any C13 (20)).mono ?_);rintro e w14 ⟨⟨x14,rfl,hx14a,hx14b⟩,C14,M14⟩)
       have K14:=K13.trans (Kb.moved M14)
       have X14:w14.heap[X]? =some (.cells #[.int .i64 0,.int .i64 0,.int .i64 0,.int .i64 0,.int .i64 0,.int .i64 0] 64):=(M14.block X hXc).trans X13
       refine hK.out _ _ ?_ (fun hHeld2=> ?_)
       ·exact HS.out _ (K14)
       clear hK K hHeld
       have hHeld:=hHeld2
       clear hHeld2
       have hx14c:=hx14b (by omega)
       obtain⟨d4,hd4⟩:∃d:Int,21+x14=d:=⟨_,rfl⟩
       have qd4a:wrap64 (21+x14)=d4:=by rw[hd4];unfold wrap64;omega
       have qd4b:IntKind.i64.wrap (21+x14)=d4:=by rw[hd4,IntKind.wrap_i64];omega
       clear hd4 hx14a hx14b hx14c
       refine wpAnyH_take (i:=19) (v:= .int .i64 d4) rfl (by kernel_rfl) (by kernel_rfl) (by kernel_rfl) (fun _ _ _ h=>h) (Or.inl ⟨by kernel_rfl,fun w hSw=>by first|(go_simp;done)|(dsimp only at hSw;obtain⟨s0,s1⟩:=hSw;go_simp;done)|rfl⟩) (by assumption) ?_
       simp only[Act.put,List.getElem_toArray,List.getElem_cons_succ,List.getElem_cons_zero,List.setIfInBounds_toArray,List.set_cons_succ,List.set_cons_zero]
       clear qd4a qd4b
       refine wpAnyH_take (i:=20) (v:= .agg #[.int .i64 d1,.int .i64 d2,.int .i64 d3,.int .i64 d4,.int .i64 0,.int .i64 0]) rfl (by kernel_rfl) (by kernel_rfl) (by kernel_rfl) (fun _ _ _ h=>h) (Or.inl ⟨by kernel_rfl,fun w hSw=>by first|(go_simp;done)|(dsimp only at hSw;obtain⟨s0,s1⟩:=hSw;go_simp;done)|rfl⟩) (by assumption) ?_
       simp only[Act.put,List.getElem_toArray,List.getElem_cons_succ,List.getElem_cons_zero,List.setIfInBounds_toArray,List.set_cons_succ,List.set_cons_zero]
       have z0:w14.cell? ⟨X,0,none⟩=some (.int .i64 0):=cell_at X14 0
       have fz0:w14.frozen? ⟨X,0,none⟩=false:=frozen_at X14 0
       have z1:w14.cell? ⟨X,1,none⟩=some (.int .i64 0):=cell_at X14 1
       have fz1:w14.frozen? ⟨X,1,none⟩=false:=frozen_at X14 1
       have z2:w14.cell? ⟨X,2,none⟩=some (.int .i64 0):=cell_at X14 2
       have fz2:w14.frozen? ⟨X,2,none⟩=false:=frozen_at X14 2
       have z3:w14.cell? ⟨X,3,none⟩=some (.int .i64 0):=cell_at X14 3
       have fz3:w14.frozen? ⟨X,3,none⟩=false:=frozen_at X14 3
       have z4:w14.cell? ⟨X,4,none⟩=some (.int .i64 0):=cell_at X14 4
       have fz4:w14.frozen? ⟨X,4,none⟩=false:=frozen_at X14 4
       have z5:w14.cell? ⟨X,5,none⟩=some (.int .i64 0):=cell_at X14 5
       have fz5:w14.frozen? ⟨X,5,none⟩=false:=frozen_at X14 5
       have K9:Kb c wr ((((((w14.setCell ⟨X,0,none⟩ (.int .i64 d1)).setCell ⟨X,1,none⟩ (.int .i64 d2)).setCell ⟨X,2,none⟩ (.int .i64 d3)).setCell ⟨X,3,none⟩ (.int .i64 d4)).setCell ⟨X,4,none⟩ (.int .i64 0)).setCell ⟨X,5,none⟩ (.int .i64 0)):=((((((K14.set X 0 (.int .i64 d1) hXw).set X 1 (.int .i64 d2) hXw).set X 2 (.int .i64 d3) hXw).set X 3 (.int .i64 d4) hXw).set X 4 (.int .i64 0) hXw).set X 5 (.int .i64 0) hXw)
       have C9:Is W0 a n cap c ((((((w14.setCell ⟨X,0,none⟩ (.int .i64 d1)).setCell ⟨X,1,none⟩ (.int .i64 d2)).setCell ⟨X,2,none⟩ (.int .i64 d3)).setCell ⟨X,3,none⟩ (.int .i64 d4)).setCell ⟨X,4,none⟩ (.int .i64 0)).setCell ⟨X,5,none⟩ (.int .i64 0)):=((((((C14.set X 0 (.int .i64 d1) hXc hXW).set X 1 (.int .i64 d2) hXc hXW).set X 2 (.int .i64 d3) hXc hXW).set X 3 (.int .i64 d4) hXc hXW).set X 4 (.int .i64 0) hXc hXW).set X 5 (.int .i64 0) hXc hXW)
       have X9:((((((w14.setCell ⟨X,0,none⟩ (.int .i64 d1)).setCell ⟨X,1,none⟩ (.int .i64 d2)).setCell ⟨X,2,none⟩ (.int .i64 d3)).setCell ⟨X,3,none⟩ (.int .i64 d4)).setCell ⟨X,4,none⟩ (.int .i64 0)).setCell ⟨X,5,none⟩ (.int .i64 0)).heap[X]? =some (.cells #[.int .i64 d1,.int .i64 d2,.int .i64 d3,.int .i64 d4,.int .i64 0,.int .i64 0] 64):=set6_heap X14 ..
       refine wpAnyH_ready (rs:= [22]) (by kernel_rfl) (by simp) ?_
       refine AllReadyH.cons rfl (fun K hK=> ?_) (AllReadyH.nil)
       go_simp
       refine hK.out _ _ ?_ (fun hHeld2=> ?_)
       ·exact HS.out _ (K9)
       clear hK K hHeld
       have hHeld:=hHeld2
       clear hHeld2
       refine wpAnyH_done (by kernel_rfl) ?_ _
       clear hHeld z0 fz0 z1 fz1 z2 fz2 z3 fz3 z4 fz4 z5 fz5
       go_wp2
       go_meet
       case rel=>exact⟨X,d1,d2,d3,d4,rfl,hXw,X9,C9,K9⟩
     ·go_simp
      have K15:Kb c wr (w7.alloc (.cells #[.int .i64 0,.int .i64 0,.int .i64 0,.int .i64 0,.int .i64 0,.int .i64 0] 64)):=K0.alloc _
      have C15:=C0.alloc (.cells #[.int .i64 0,.int .i64 0,.int .i64 0,.int .i64 0,.int .i64 0,.int .i64 0] 64)
      have X15:=heap_new w7 (.cells #[.int .i64 0,.int .i64 0,.int .i64 0,.int .i64 0,.int .i64 0,.int .i64 0] 64)
      have hXw:wr.heap.size≤w7.heap.size:=K0.size
      have hXc:w7.heap.size≠c:=by have:=C0.lt;omega
      have hXW:W0.heap.size≤w7.heap.size:=C0.below.size
      refine hK.out _ _ ?_ (fun hHeld2=> ?_)
      ·exact HS.out _ (K15)
      clear hK K hHeld
      have hHeld:=hHeld2
      clear hHeld2
      obtain⟨X,hXe⟩:∃X,w7.heap.size=X:=⟨_,rfl⟩
      rw[hXe]at X15 hXw hXc hXW
      try rw[hXe]
      clear hXe
      generalize w7.alloc (.cells #[.int .i64 0,.int .i64 0,.int .i64 0,.int .i64 0,.int .i64 0,.int .i64 0] 64)=w15 at*
      refine wpAnyH_ready (rs:= [1]) (by kernel_rfl) (by simp) ?_
      refine AllReadyH.cons rfl (fun K hK=> ?_) (AllReadyH.nil)
      go_simp
      go_wp2_with (go_at_call 18;(with_reducible refine(below_any C15 (900)).mono ?_);rintro e w16 ⟨⟨x16,rfl,hx16a,hx16b⟩,C16,M16⟩)
      have K16:=K15.trans (Kb.moved M16)
      have X16:w16.heap[X]? =some (.cells #[.int .i64 0,.int .i64 0,.int .i64 0,.int .i64 0,.int .i64 0,.int .i64 0] 64):=(M16.block X hXc).trans X15
      refine hK.out _ _ ?_ (fun hHeld2=> ?_)
      ·exact HS.out _ (K16)
      clear hK K hHeld
      have hHeld:=hHeld2
      clear hHeld2
      have hx16c:=hx16b (by omega)
      obtain⟨d1,hd1⟩:∃d:Int,1+x16=d:=⟨_,rfl⟩
      have qd1a:wrap64 (1+x16)=d1:=by rw[hd1];unfold wrap64;omega
      have qd1b:IntKind.i64.wrap (1+x16)=d1:=by rw[hd1,IntKind.wrap_i64];omega
      clear hd1 hx16a hx16b hx16c
      refine wpAnyH_take (i:=2) (v:= .int .i64 d1) rfl (by kernel_rfl) (by kernel_rfl) (by kernel_rfl) (fun _ _ _ h=>h) (Or.inl ⟨by kernel_rfl,fun w hSw=>by first|(go_simp;done)|(dsimp only at hSw;obtain⟨s0,s1⟩:=hSw;go_simp;done)|rfl⟩) (by assumption) ?_
      simp only[Act.put,List.getElem_toArray,List.getElem_cons_succ,List.getElem_cons_zero,List.setIfInBounds_toArray,List.set_cons_succ,List.set_cons_zero]
      clear qd1a qd1b
      refine wpAnyH_ready (rs:= [12]) (by kernel_rfl) (by simp) ?_
      refine AllReadyH.cons rfl (fun K hK=> ?_) (AllReadyH.nil)
      go_simp
      go_wp2_with (go_at_call 18;(with_reducible refine(below_any C16 (la+1)).mono ?_);rintro e w17 ⟨⟨x17,rfl,hx17a,hx17b⟩,C17,M17⟩)
      have K17:=K16.trans (Kb.moved M17)
      have X17:w17.heap[X]? =some (.cells #[.int .i64 0,.int .i64 0,.int .i64 0,.int .i64 0,.int .i64 0,.int .i64 0] 64):=(M17.block X hXc).trans X16
      refine hK.out _ _ ?_ (fun hHeld2=> ?_)
      ·exact HS.out _ (K17)
      clear hK K hHeld
      have hHeld:=hHeld2
      clear hHeld2
      have hx17c:=hx17b (by omega)
      obtain⟨d2,hd2⟩:∃d:Int,fi+x17=d:=⟨_,rfl⟩
      have qd2a:wrap64 (fi+x17)=d2:=by rw[hd2];unfold wrap64;omega
      have qd2b:IntKind.i64.wrap (fi+x17)=d2:=by rw[hd2,IntKind.wrap_i64];omega
      clear hd2 hx17a hx17b hx17c
      refine wpAnyH_take (i:=13) (v:= .int .i64 d2) rfl (by kernel_rfl) (by kernel_rfl) (by kernel_rfl) (fun _ _ _ h=>h) (Or.inl ⟨by kernel_rfl,fun w hSw=>by first|(go_simp;done)|(dsimp only at hSw;obtain⟨s0,s1⟩:=hSw;go_simp;done)|rfl⟩) (by assumption) ?_
      simp only[Act.put,List.getElem_toArray,List.getElem_cons_succ,List.getElem_cons_zero,List.setIfInBounds_toArray,List.set_cons_succ,List.set_cons_zero]
      clear qd2a qd2b
      refine wpAnyH_ready (rs:= [15]) (by kernel_rfl) (by simp) ?_
      refine AllReadyH.cons rfl (fun K hK=> ?_) (AllReadyH.nil)
      go_simp
      go_wp2_with (go_at_call 18;(with_reducible refine(below_any C17 (20)).mono ?_);rintro e w18 ⟨⟨x18,rfl,hx18a,hx18b⟩,C18,M18⟩)
      have K18:=K17.trans (Kb.moved M18)
      have X18:w18.heap[X]? =some (.cells #[.int .i64 0,.int .i64 0,.int .i64 0,.int .i64 0,.int .i64 0,.int .i64 0] 64):=(M18.block X hXc).trans X17
      refine hK.out _ _ ?_ (fun hHeld2=> ?_)
      ·exact HS.out _ (K18)
      clear hK K hHeld
      have hHeld:=hHeld2
      clear hHeld2
      have hx18c:=hx18b (by omega)
      obtain⟨d3,hd3⟩:∃d:Int,1+x18=d:=⟨_,rfl⟩
      have qd3a:wrap64 (1+x18)=d3:=by rw[hd3];unfold wrap64;omega
      have qd3b:IntKind.i64.wrap (1+x18)=d3:=by rw[hd3,IntKind.wrap_i64];omega
      clear hd3 hx18a hx18b hx18c
      refine wpAnyH_take (i:=16) (v:= .int .i64 d3) rfl (by kernel_rfl) (by kernel_rfl) (by kernel_rfl) (fun _ _ _ h=>h) (Or.inl ⟨by kernel_rfl,fun w hSw=>by first|(go_simp;done)|(dsimp only at hSw;obtain⟨s0,s1⟩:=hSw;go_simp;done)|rfl⟩) (by assumption) ?_
      simp only[Act.put,List.getElem_toArray,List.getElem_cons_succ,List.getElem_cons_zero,List.setIfInBounds_toArray,List.set_cons_succ,List.set_cons_zero]
      clear qd3a qd3b
      refine wpAnyH_ready (rs:= [18]) (by kernel_rfl) (by simp) ?_
      refine AllReadyH.cons rfl (fun K hK=> ?_) (AllReadyH.nil)
      go_simp
      go_wp2_with (go_at_call 18;(with_reducible refine(below_any C18 (20)).mono ?_);rintro e w19 ⟨⟨x19,rfl,hx19a,hx19b⟩,C19,M19⟩)
      have K19:=K18.trans (Kb.moved M19)
      have X19:w19.heap[X]? =some (.cells #[.int .i64 0,.int .i64 0,.int .i64 0,.int .i64 0,.int .i64 0,.int .i64 0] 64):=(M19.block X hXc).trans X18
      refine hK.out _ _ ?_ (fun hHeld2=> ?_)
      ·exact HS.out _ (K19)
      clear hK K hHeld
      have hHeld:=hHeld2
      clear hHeld2
      have hx19c:=hx19b (by omega)
      obtain⟨d4,hd4⟩:∃d:Int,21+x19=d:=⟨_,rfl⟩
      have qd4a:wrap64 (21+x19)=d4:=by rw[hd4];unfold wrap64;omega
      have qd4b:IntKind.i64.wrap (21+x19)=d4:=by rw[hd4,IntKind.wrap_i64];omega
      clear hd4 hx19a hx19b hx19c
      refine wpAnyH_take (i:=19) (v:= .int .i64 d4) rfl (by kernel_rfl) (by kernel_rfl) (by kernel_rfl) (fun _ _ _ h=>h) (Or.inl ⟨by kernel_rfl,fun w hSw=>by first|(go_simp;done)|(dsimp only at hSw;obtain⟨s0,s1⟩:=hSw;go_simp;done)|rfl⟩) (by assumption) ?_
      simp only[Act.put,List.getElem_toArray,List.getElem_cons_succ,List.getElem_cons_zero,List.setIfInBounds_toArray,List.set_cons_succ,List.set_cons_zero]
      clear qd4a qd4b
      refine wpAnyH_take (i:=20) (v:= .agg #[.int .i64 d1,.int .i64 d2,.int .i64 d3,.int .i64 d4,.int .i64 0,.int .i64 0]) rfl (by kernel_rfl) (by kernel_rfl) (by kernel_rfl) (fun _ _ _ h=>h) (Or.inl ⟨by kernel_rfl,fun w hSw=>by first|(go_simp;done)|(dsimp only at hSw;obtain⟨s0,s1⟩:=hSw;go_simp;done)|rfl⟩) (by assumption) ?_
      simp only[Act.put,List.getElem_toArray,List.getElem_cons_succ,List.getElem_cons_zero,List.setIfInBounds_toArray,List.set_cons_succ,List.set_cons_zero]
      have z0:w19.cell? ⟨X,0,none⟩=some (.int .i64 0):=cell_at X19 0
      have fz0:w19.frozen? ⟨X,0,none⟩=false:=frozen_at X19 0
      have z1:w19.cell? ⟨X,1,none⟩=some (.int .i64 0):=cell_at X19 1
      have fz1:w19.frozen? ⟨X,1,none⟩=false:=frozen_at X19 1
      have z2:w19.cell? ⟨X,2,none⟩=some (.int .i64 0):=cell_at X19 2
      have fz2:w19.frozen? ⟨X,2,none⟩=false:=frozen_at X19 2
      have z3:w19.cell? ⟨X,3,none⟩=some (.int .i64 0):=cell_at X19 3
      have fz3:w19.frozen? ⟨X,3,none⟩=false:=frozen_at X19 3
      have z4:w19.cell? ⟨X,4,none⟩=some (.int .i64 0):=cell_at X19 4
      have fz4:w19.frozen? ⟨X,4,none⟩=false:=frozen_at X19 4
      have z5:w19.cell? ⟨X,5,none⟩=some (.int .i64 0):=cell_at X19 5
      have fz5:w19.frozen? ⟨X,5,none⟩=false:=frozen_at X19 5
      have K9:Kb c wr ((((((w19.setCell ⟨X,0,none⟩ (.int .i64 d1)).setCell ⟨X,1,none⟩ (.int .i64 d2)).setCell ⟨X,2,none⟩ (.int .i64 d3)).setCell ⟨X,3,none⟩ (.int .i64 d4)).setCell ⟨X,4,none⟩ (.int .i64 0)).setCell ⟨X,5,none⟩ (.int .i64 0)):=((((((K19.set X 0 (.int .i64 d1) hXw).set X 1 (.int .i64 d2) hXw).set X 2 (.int .i64 d3) hXw).set X 3 (.int .i64 d4) hXw).set X 4 (.int .i64 0) hXw).set X 5 (.int .i64 0) hXw)
      have C9:Is W0 a n cap c ((((((w19.setCell ⟨X,0,none⟩ (.int .i64 d1)).setCell ⟨X,1,none⟩ (.int .i64 d2)).setCell ⟨X,2,none⟩ (.int .i64 d3)).setCell ⟨X,3,none⟩ (.int .i64 d4)).setCell ⟨X,4,none⟩ (.int .i64 0)).setCell ⟨X,5,none⟩ (.int .i64 0)):=((((((C19.set X 0 (.int .i64 d1) hXc hXW).set X 1 (.int .i64 d2) hXc hXW).set X 2 (.int .i64 d3) hXc hXW).set X 3 (.int .i64 d4) hXc hXW).set X 4 (.int .i64 0) hXc hXW).set X 5 (.int .i64 0) hXc hXW)
      have X9:((((((w19.setCell ⟨X,0,none⟩ (.int .i64 d1)).setCell ⟨X,1,none⟩ (.int .i64 d2)).setCell ⟨X,2,none⟩ (.int .i64 d3)).setCell ⟨X,3,none⟩ (.int .i64 d4)).setCell ⟨X,4,none⟩ (.int .i64 0)).setCell ⟨X,5,none⟩ (.int .i64 0)).heap[X]? =some (.cells #[.int .i64 d1,.int .i64 d2,.int .i64 d3,.int .i64 d4,.int .i64 0,.int .i64 0] 64):=set6_heap X19 ..
      refine wpAnyH_ready (rs:= [22]) (by kernel_rfl) (by simp) ?_
      refine AllReadyH.cons rfl (fun K hK=> ?_) (AllReadyH.nil)
      go_simp
      refine hK.out _ _ ?_ (fun hHeld2=> ?_)
      ·exact HS.out _ (K9)
      clear hK K hHeld
      have hHeld:=hHeld2
      clear hHeld2
      refine wpAnyH_done (by kernel_rfl) ?_ _
      clear hHeld z0 fz0 z1 fz1 z2 fz2 z3 fz3 z4 fz4 z5 fz5
      go_wp2
      go_meet
      case rel=>exact⟨X,d1,d2,d3,d4,rfl,hXw,X9,C9,K9⟩
    case rest=>
     obtain⟨X,d1,d2,d3,d4,rfl,hXr,xX,CX,KX⟩:=hcut
     obtain⟨V,hVV⟩:∃V,V=wc:=⟨_,rfl⟩
     subst hVV
     have hXc:X≠c:=by have:=CR.lt;omega
     have hXW:W0.heap.size≤X:=by have:=CR.below.size;omega
     have hXw:w.heap.size≤X:=by have:=KR.size;omega
     have hXQ:X≠Q:=by omega
     have hXP:w.heap.size≠X:=by have:=lt_of yR;omega
     have xQ:=KX.at hQc xR
     have xY:=KX.at hRc yR
     have OV:=own_kb OR KX hcw
     have KV:=KR.trans KX
     have hrow:(Value.slice va k vc).ownBlock≠some X:=fun h=>by have:=(OR.lt _ h).2;omega
     clear xR yR OR KX CR t4 t5 HS hwa hwb hwc hwd hwe hwf
     go_wp2_with fail
     refine(once_any CX 2).mono ?_
     rintro e w8 ⟨⟨b8,rfl⟩,C8,M8⟩
     have x8:w8.heap[X]? =_:=(M8.block X hXc).trans xX
     have Q8:w8.heap[Q]? =_:=(M8.block Q hQc).trans xQ
     have Y8:w8.heap[w.heap.size]? =_:=(M8.block _ hRc).trans xY
     have O8:=own_kb OV (Kb.moved M8) hcw
     have K8:=KV.trans (Kb.moved M8)
     clear xX xQ xY OV KV CX M8
     cases b8
     ·have ND:=new_below w8 (.cells #[.int .i64 d1,.int .i64 d2,.int .i64 d3,.int .i64 d4,.int .i64 0,.int .i64 0] 64)
      have sD:=heap_new w8 (.cells #[.int .i64 d1,.int .i64 d2,.int .i64 d3,.int .i64 d4,.int .i64 0,.int .i64 0] 64)
      have sQ:=heap_old Q8 (.cells #[.int .i64 d1,.int .i64 d2,.int .i64 d3,.int .i64 d4,.int .i64 0,.int .i64 0] 64)
      have sY:=heap_old Y8 (.cells #[.int .i64 d1,.int .i64 d2,.int .i64 d3,.int .i64 d4,.int .i64 0,.int .i64 0] 64)
      have OS:=Pk.own_below O8 ND (Nat.le_refl _)
      have CA:=C8.alloc (.cells #[.int .i64 d1,.int .i64 d2,.int .i64 d3,.int .i64 d4,.int .i64 0,.int .i64 0] 64)
      have KA:=K8.alloc (.cells #[.int .i64 d1,.int .i64 d2,.int .i64 d3,.int .i64 d4,.int .i64 0,.int .i64 0] 64)
      have hWs:w.heap.size≤(w8.alloc (.cells #[.int .i64 d1,.int .i64 d2,.int .i64 d3,.int .i64 d4,.int .i64 0,.int .i64 0] 64)).heap.size:=KA.size
      have HG:Hid (∀j u,(Gt.lc1 (⟨d1,d2,d3,d4,0,0⟩:Lg))[j]? =some u→(w8.alloc (.cells #[.int .i64 d1,.int .i64 d2,.int .i64 d3,.int .i64 d4,.int .i64 0,.int .i64 0] 64)).cell? (Addr.add ⟨w8.heap.size,0,none⟩ j)=some u):=leg_at (p:=(⟨d1,d2,d3,d4,0,0⟩:Lg)) sD
      have q6:w8.cell? ⟨Q,6,none⟩=some (.slice va k vc):=cell_at Q8 6
      have v0:w8.cell? ⟨X,0,none⟩=some (.int .i64 d1):=cell_at x8 0
      have v1:w8.cell? ⟨X,1,none⟩=some (.int .i64 d2):=cell_at x8 1
      have v2:w8.cell? ⟨X,2,none⟩=some (.int .i64 d3):=cell_at x8 2
      have v3:w8.cell? ⟨X,3,none⟩=some (.int .i64 d4):=cell_at x8 3
      have v4:w8.cell? ⟨X,4,none⟩=some (.int .i64 0):=cell_at x8 4
      have v5:w8.cell? ⟨X,5,none⟩=some (.int .i64 0):=cell_at x8 5
      obtain⟨i0,hi,hy0,hy1,hy2⟩:=info_of Tk.info_leg
      go_wp2_with (at_builtin;go_loud (refine wpList_append_own_at _ rfl _ _ 26 rfl w.heap.size 64 i0 (Tk.lgV ⟨0,0,0,0,0,0⟩) 6 48 Tryz.underlying26 hi hy0 hy1 hy2 rfl (by decide) _ _ _ rfl OS ⟨w8.heap.size,0,none⟩ 1 1 (Gt.lc1 (⟨d1,d2,d3,d4,0,0⟩:Lg)) rfl ?e0 ?e1 ?e2 ?e3 ?e4 ?e5 ?_))
      case e0=>rfl
      case e1=>exact HG.out
      case e2=>intro u hu;simp only[Gt.lc1,List.mem_cons,List.not_mem_nil,or_false]at hu;rcases hu with rfl|rfl|rfl|rfl|rfl|rfl<;>rfl
      case e3=>have:=HKN.out;unfold maxLen;omega
      case e4=>have:=HKN.out;omega
      case e5=>exact hWs
      intro v' w5 O5 G5 _ _
      rw[Gt.lcells_snoc]at O5
      obtain⟨sa,sc,rfl,-⟩:=own_form O5
      have L5:Below w.heap.size (w8.alloc (.cells #[.int .i64 d1,.int .i64 d2,.int .i64 d3,.int .i64 d4,.int .i64 0,.int .i64 0] 64)) w5:=(Below.refl _ _).grown G5 hWs (fun j h=>(OS.lt j h).1)
      have r1:w5.heap[Q]? =_:=(G5.block Q (lt_of sQ) (Pk.own_ne OS sQ (by decide))).trans sQ
      have r2:w5.heap[w.heap.size]? =_:=(G5.block _ (lt_of sY) (Pk.own_ne OS sY (by decide))).trans sY
      have C5:Is W0 a n cap c w5:=is_below CA L5 hcw hW0w
      have K5:Kb c w w5:=⟨Nat.le_trans KA.size G5.size,fun j h1 h2=>(L5.block j h1).trans (KA.block j h1 h2)⟩
      have y6:w5.cell? ⟨Q,6,none⟩=some (.slice va k vc):=cell_at r1 6
      have g6:w5.frozen? ⟨Q,6,none⟩=false:=frozen_at r1 6
      have C6:=C5.set Q 6 (.slice sa (k+1) sc) hQc hQW
      have K6:=K5.set Q 6 (.slice sa (k+1) sc) hQw
      have x6:(w5.setCell ⟨Q,6,none⟩ (.slice sa (k+1) sc)).heap[Q]? =some (tkB ⟨1+id,1+cl,pr,fi,fi+la⟩ nm sa (k+1) sc 28):=tk_set r1 _
      have z6:(w5.setCell ⟨Q,6,none⟩ (.slice sa (k+1) sc)).heap[w.heap.size]? =_:=(Below.heap_setCell _ _ _ _ (fun h=>hQR h.symm)).trans r2
      have O6:Hid ((w5.setCell ⟨Q,6,none⟩ (.slice sa (k+1) sc)).ownsRow w.heap.size 64 6 (.slice sa (k+1) sc) (k+1) (lcells (ls++ [(⟨d1,d2,d3,d4,0,0⟩:Lg)]))):=own_else O5 (Pk.own_ne' O5 r1 (by decide))
      have HL2:Hid ((ls++ [(⟨d1,d2,d3,d4,0,0⟩:Lg)]).length=k+1):=by show _=_;rw[List.length_append,HLK.out];rfl
      clear G5 OS HG hi hy0 hy1 hy2 ND sD sQ sY CA KA hWs L5 r1 r2 C5 K5 O5 q6 v0 v1 v2 v3 v4 v5
      have hk9:=HKN.out
      go_wp2
      go_roundw
      case rel=>exact⟨k+1,ls++ [(⟨d1,d2,d3,d4,0,0⟩:Lg)],sa,sc,by have:=HKN.out;omega,by go_num,HL2.out,C6,K6,z6,x6,O6.out⟩
      case measure=>have:=HKN.out;simp[intOf];omega
     ·go_wp2_with fail
      refine(below_any C8 12).mono ?_
      rintro e u1 ⟨⟨co,rfl,hco0,hco1⟩,D1,N1⟩
      have hco2:=hco1 (by omega)
      obtain⟨c5,hc5⟩:∃d:Int,1+co=d:=⟨_,rfl⟩
      have hca:wrap64 (1+co)=c5:=by rw[hc5];unfold wrap64;omega
      have hcb:IntKind.i64.wrap (1+co)=c5:=by rw[hc5,IntKind.wrap_i64];omega
      clear hc5 hco0 hco1 hco2
      have x9:u1.heap[X]? =_:=(N1.block X hXc).trans x8
      have Q9:u1.heap[Q]? =_:=(N1.block Q hQc).trans Q8
      have Y9:u1.heap[w.heap.size]? =_:=(N1.block _ hRc).trans Y8
      have O9:=own_kb O8 (Kb.moved N1) hcw
      have K9:=K8.trans (Kb.moved N1)
      clear x8 Q8 Y8 O8 K8 C8 N1
      have a4:u1.cell? ⟨X,4,none⟩=some (.int .i64 0):=cell_at x9 4
      have f4:u1.frozen? ⟨X,4,none⟩=false:=frozen_at x9 4
      have DA:=D1.set X 4 (.int .i64 c5) hXc hXW
      have KA:=K9.set X 4 (.int .i64 c5) hXw
      have xA:(u1.setCell ⟨X,4,none⟩ (.int .i64 c5)).heap[X]? =some (.cells #[.int .i64 d1,.int .i64 d2,.int .i64 d3,.int .i64 d4,.int .i64 c5,.int .i64 0] 64):=tk_set x9 _
      have QA:(u1.setCell ⟨X,4,none⟩ (.int .i64 c5)).heap[Q]? =_:=(Below.heap_setCell _ _ _ _ (fun h=>hXQ h.symm)).trans Q9
      have YA:(u1.setCell ⟨X,4,none⟩ (.int .i64 c5)).heap[w.heap.size]? =_:=(Below.heap_setCell _ _ _ _ hXP).trans Y9
      have OA:=own_else (i:=4) (u:= .int .i64 c5) O9 hrow
      clear x9 Q9 Y9 O9 K9 D1
      go_wp2_with fail
      refine(below_any DA 80).mono ?_
      generalize u1.setCell ⟨X,4,none⟩ (.int .i64 c5)=U1 at*
      clear a4 f4 hca hcb
      rintro e u2 ⟨⟨se,rfl,hse0,hse1⟩,D2,N2⟩
      have hse2:=hse1 (by omega)
      obtain⟨s6,hs6⟩:∃d:Int,1+se=d:=⟨_,rfl⟩
      have hsa:wrap64 (1+se)=s6:=by rw[hs6];unfold wrap64;omega
      have hsb:IntKind.i64.wrap (1+se)=s6:=by clear hsa;rw[hs6,IntKind.wrap_i64];omega
      clear hs6 hse0 hse1 hse2
      have xB:u2.heap[X]? =_:=(N2.block X hXc).trans xA
      have QB:u2.heap[Q]? =_:=(N2.block Q hQc).trans QA
      have YB:u2.heap[w.heap.size]? =_:=(N2.block _ hRc).trans YA
      have OB:=own_kb OA (Kb.moved N2) hcw
      have KB:=KA.trans (Kb.moved N2)
      clear xA QA YA OA KA DA N2
      have a5:u2.cell? ⟨X,5,none⟩=some (.int .i64 0):=cell_at xB 5
      have f5:u2.frozen? ⟨X,5,none⟩=false:=frozen_at xB 5
      have DC:=D2.set X 5 (.int .i64 s6) hXc hXW
      have KC:=KB.set X 5 (.int .i64 s6) hXw
      have xC:(u2.setCell ⟨X,5,none⟩ (.int .i64 s6)).heap[X]? =some (.cells #[.int .i64 d1,.int .i64 d2,.int .i64 d3,.int .i64 d4,.int .i64 c5,.int .i64 s6] 64):=tk_set xB _
      have QC:(u2.setCell ⟨X,5,none⟩ (.int .i64 s6)).heap[Q]? =_:=(Below.heap_setCell _ _ _ _ (fun h=>hXQ h.symm)).trans QB
      have YC:(u2.setCell ⟨X,5,none⟩ (.int .i64 s6)).heap[w.heap.size]? =_:=(Below.heap_setCell _ _ _ _ hXP).trans YB
      have OC:=own_else (i:=5) (u:= .int .i64 s6) OB hrow
      clear xB QB YB OB KB D2
      have ND:=new_below (u2.setCell ⟨X,5,none⟩ (.int .i64 s6)) (.cells #[.int .i64 d1,.int .i64 d2,.int .i64 d3,.int .i64 d4,.int .i64 c5,.int .i64 s6] 64)
      have sD:=heap_new (u2.setCell ⟨X,5,none⟩ (.int .i64 s6)) (.cells #[.int .i64 d1,.int .i64 d2,.int .i64 d3,.int .i64 d4,.int .i64 c5,.int .i64 s6] 64)
      have hsz:(u2.setCell ⟨X,5,none⟩ (.int .i64 s6)).heap.size=u2.heap.size:=World.size_setCell ..
      rw[hsz]at sD
      clear hsz
      have sQ:=heap_old QC (.cells #[.int .i64 d1,.int .i64 d2,.int .i64 d3,.int .i64 d4,.int .i64 c5,.int .i64 s6] 64)
      have sY:=heap_old YC (.cells #[.int .i64 d1,.int .i64 d2,.int .i64 d3,.int .i64 d4,.int .i64 c5,.int .i64 s6] 64)
      have OS:=Pk.own_below OC ND (Nat.le_refl _)
      have CA:=DC.alloc (.cells #[.int .i64 d1,.int .i64 d2,.int .i64 d3,.int .i64 d4,.int .i64 c5,.int .i64 s6] 64)
      have KA:=KC.alloc (.cells #[.int .i64 d1,.int .i64 d2,.int .i64 d3,.int .i64 d4,.int .i64 c5,.int .i64 s6] 64)
      have hWs:w.heap.size≤((u2.setCell ⟨X,5,none⟩ (.int .i64 s6)).alloc (.cells #[.int .i64 d1,.int .i64 d2,.int .i64 d3,.int .i64 d4,.int .i64 c5,.int .i64 s6] 64)).heap.size:=KA.size
      have HG:Hid (∀j u,(Gt.lc1 (⟨d1,d2,d3,d4,c5,s6⟩:Lg))[j]? =some u→((u2.setCell ⟨X,5,none⟩ (.int .i64 s6)).alloc (.cells #[.int .i64 d1,.int .i64 d2,.int .i64 d3,.int .i64 d4,.int .i64 c5,.int .i64 s6] 64)).cell? (Addr.add ⟨u2.heap.size,0,none⟩ j)=some u):=leg_at (p:=(⟨d1,d2,d3,d4,c5,s6⟩:Lg)) sD
      have q6:(u2.setCell ⟨X,5,none⟩ (.int .i64 s6)).cell? ⟨Q,6,none⟩=some (.slice va k vc):=cell_at QC 6
      have v0:(u2.setCell ⟨X,5,none⟩ (.int .i64 s6)).cell? ⟨X,0,none⟩=some (.int .i64 d1):=cell_at xC 0
      have v1:(u2.setCell ⟨X,5,none⟩ (.int .i64 s6)).cell? ⟨X,1,none⟩=some (.int .i64 d2):=cell_at xC 1
      have v2:(u2.setCell ⟨X,5,none⟩ (.int .i64 s6)).cell? ⟨X,2,none⟩=some (.int .i64 d3):=cell_at xC 2
      have v3:(u2.setCell ⟨X,5,none⟩ (.int .i64 s6)).cell? ⟨X,3,none⟩=some (.int .i64 d4):=cell_at xC 3
      have v4:(u2.setCell ⟨X,5,none⟩ (.int .i64 s6)).cell? ⟨X,4,none⟩=some (.int .i64 c5):=cell_at xC 4
      have v5:(u2.setCell ⟨X,5,none⟩ (.int .i64 s6)).cell? ⟨X,5,none⟩=some (.int .i64 s6):=cell_at xC 5
      obtain⟨i0,hi,hy0,hy1,hy2⟩:=info_of Tk.info_leg
      go_wp2_with (at_builtin;go_loud (refine wpList_append_own_at _ rfl _ _ 26 rfl w.heap.size 64 i0 (Tk.lgV ⟨0,0,0,0,0,0⟩) 6 48 Tryz.underlying26 hi hy0 hy1 hy2 rfl (by decide) _ _ _ rfl OS ⟨u2.heap.size,0,none⟩ 1 1 (Gt.lc1 (⟨d1,d2,d3,d4,c5,s6⟩:Lg)) rfl ?e0 ?e1 ?e2 ?e3 ?e4 ?e5 ?_))
      case e0=>rfl
      case e1=>exact HG.out
      case e2=>intro u hu;simp only[Gt.lc1,List.mem_cons,List.not_mem_nil,or_false]at hu;rcases hu with rfl|rfl|rfl|rfl|rfl|rfl<;>rfl
      case e3=>have:=HKN.out;unfold maxLen;omega
      case e4=>have:=HKN.out;omega
      case e5=>exact hWs
      intro v' w5 O5 G5 _ _
      rw[Gt.lcells_snoc]at O5
      obtain⟨sa,sc,rfl,-⟩:=own_form O5
      have L5:Below w.heap.size ((u2.setCell ⟨X,5,none⟩ (.int .i64 s6)).alloc (.cells #[.int .i64 d1,.int .i64 d2,.int .i64 d3,.int .i64 d4,.int .i64 c5,.int .i64 s6] 64)) w5:=(Below.refl _ _).grown G5 hWs (fun j h=>(OS.lt j h).1)
      have r1:w5.heap[Q]? =_:=(G5.block Q (lt_of sQ) (Pk.own_ne OS sQ (by decide))).trans sQ
      have r2:w5.heap[w.heap.size]? =_:=(G5.block _ (lt_of sY) (Pk.own_ne OS sY (by decide))).trans sY
      have C5:Is W0 a n cap c w5:=is_below CA L5 hcw hW0w
      have K5:Kb c w w5:=⟨Nat.le_trans KA.size G5.size,fun j h1 h2=>(L5.block j h1).trans (KA.block j h1 h2)⟩
      have y6:w5.cell? ⟨Q,6,none⟩=some (.slice va k vc):=cell_at r1 6
      have g6:w5.frozen? ⟨Q,6,none⟩=false:=frozen_at r1 6
      have C6:=C5.set Q 6 (.slice sa (k+1) sc) hQc hQW
      have K6:=K5.set Q 6 (.slice sa (k+1) sc) hQw
      have x6:(w5.setCell ⟨Q,6,none⟩ (.slice sa (k+1) sc)).heap[Q]? =some (tkB ⟨1+id,1+cl,pr,fi,fi+la⟩ nm sa (k+1) sc 28):=tk_set r1 _
      have z6:(w5.setCell ⟨Q,6,none⟩ (.slice sa (k+1) sc)).heap[w.heap.size]? =_:=(Below.heap_setCell _ _ _ _ (fun h=>hQR h.symm)).trans r2
      have O6:Hid ((w5.setCell ⟨Q,6,none⟩ (.slice sa (k+1) sc)).ownsRow w.heap.size 64 6 (.slice sa (k+1) sc) (k+1) (lcells (ls++ [(⟨d1,d2,d3,d4,c5,s6⟩:Lg)]))):=own_else O5 (Pk.own_ne' O5 r1 (by decide))
      have HL2:Hid ((ls++ [(⟨d1,d2,d3,d4,c5,s6⟩:Lg)]).length=k+1):=by show _=_;rw[List.length_append,HLK.out];rfl
      clear G5 OS HG hi hy0 hy1 hy2 ND sD sQ sY CA KA hWs L5 r1 r2 C5 K5 O5 q6 v0 v1 v2 v3 v4 v5
      have hk9:=HKN.out
      go_wp2
      go_roundw
      case rel=>exact⟨k+1,ls++ [(⟨d1,d2,d3,d4,c5,s6⟩:Lg)],sa,sc,by have:=HKN.out;omega,by go_num,HL2.out,C6,K6,z6,x6,O6.out⟩
      case measure=>have:=HKN.out;simp[intOf];omega
   ·subst hlk
    have q0:wr.cell? ⟨Q,0,none⟩=some (.int .i64 (1+id)):=cell_at xR 0
    have b0:wr.cell? ⟨w.heap.size,0,none⟩=some (.int .i64 0):=cell_at yR 0
    have f0:wr.frozen? ⟨w.heap.size,0,none⟩=false:=frozen_at yR 0
    have q1:wr.cell? ⟨Q,1,none⟩=some (.string nm):=cell_at xR 1
    have b1:wr.cell? ⟨w.heap.size,1,none⟩=some (.string ⟨#[]⟩):=cell_at yR 1
    have f1:wr.frozen? ⟨w.heap.size,1,none⟩=false:=frozen_at yR 1
    have q2:wr.cell? ⟨Q,2,none⟩=some (.int .i64 (1+cl)):=cell_at xR 2
    have b2:wr.cell? ⟨w.heap.size,2,none⟩=some (.int .i64 0):=cell_at yR 2
    have f2:wr.frozen? ⟨w.heap.size,2,none⟩=false:=frozen_at yR 2
    have q3:wr.cell? ⟨Q,3,none⟩=some (.int .i64 pr):=cell_at xR 3
    have b3:wr.cell? ⟨w.heap.size,3,none⟩=some (.int .i64 0):=cell_at yR 3
    have f3:wr.frozen? ⟨w.heap.size,3,none⟩=false:=frozen_at yR 3
    have q4:wr.cell? ⟨Q,4,none⟩=some (.int .i64 fi):=cell_at xR 4
    have b4:wr.cell? ⟨w.heap.size,4,none⟩=some (.int .i64 0):=cell_at yR 4
    have f4:wr.frozen? ⟨w.heap.size,4,none⟩=false:=frozen_at yR 4
    have q5:wr.cell? ⟨Q,5,none⟩=some (.int .i64 (fi+la)):=cell_at xR 5
    have b5:wr.cell? ⟨w.heap.size,5,none⟩=some (.int .i64 0):=cell_at yR 5
    have f5:wr.frozen? ⟨w.heap.size,5,none⟩=false:=frozen_at yR 5
    have q6:wr.cell? ⟨Q,6,none⟩=some (.slice va ls.length vc):=cell_at xR 6
    have b6:wr.cell? ⟨w.heap.size,6,none⟩=some (.slice none 0 0):=cell_at yR 6
    have f6:wr.frozen? ⟨w.heap.size,6,none⟩=false:=frozen_at yR 6
    have hne:=Pk.own_ne' OR yR (by decide)
    have hW0w:W0.heap.size≤w.heap.size:=HCW.out.2
    have hkd:decide ((ls.length:Int)<1+(m9:Int))=false:=decide_eq_false (by omega)
    have HO:Hid (wr.ownsRow w.heap.size 64 6 (.slice va ls.length vc) ls.length (lcells ls)):=OR
    go_wp2
    refine bodyPost_ret (v:=tkV ⟨1+id,1+cl,pr,fi,fi+la⟩ nm va ls.length vc) (by simp[results,Tryz.results19,go_sem,b0,b1,b2,b3,b4,b5,b6]) rfl ?_
    exact⟨⟨_,nm,va,vc,ls,rfl,hnm,by omega,by omega,(own_else (i:=6) (own_else (i:=5) (own_else (i:=4) (own_else (i:=3) (own_else (i:=2) (own_else (i:=1) (own_else (i:=0) OR hne) hne) hne) hne) hne) hne) hne)⟩,(((((((CR.set w.heap.size 0 _ hRc hW0w).set w.heap.size 1 _ hRc hW0w).set w.heap.size 2 _ hRc hW0w).set w.heap.size 3 _ hRc hW0w).set w.heap.size 4 _ hRc hW0w).set w.heap.size 5 _ hRc hW0w).set w.heap.size 6 _ hRc hW0w),(((((((KR.set w.heap.size 0 _ (Nat.le_refl _)).set w.heap.size 1 _ (Nat.le_refl _)).set w.heap.size 2 _ (Nat.le_refl _)).set w.heap.size 3 _ (Nat.le_refl _)).set w.heap.size 4 _ (Nat.le_refl _)).set w.heap.size 5 _ (Nat.le_refl _)).set w.heap.size 6 _ (Nat.le_refl _))⟩

end Cur
end Go.Proofs.YtcjgkmhpeedhiaaGreatDoor

/- Contracts of the draws of chapter 2: spoilt parameters, and what is verified. -/
namespace Go.Proofs.YtcjgkmhpeedhiaaGreatDoor
namespace Cur
open Go.ChangeShapes Go.WideShapes Go.ChangeAt Go.RowKit
open Num (pv mv pb mb sv signV keyI keyB okP)
set_option linter.unusedSimpArgs false
set_option linter.unusedVariables false

theorem wrap_is (n:Int) (h: -9223372036854775808≤n∧n≤9223372036854775807):IntKind.i64.wrap n=n:=by
 rw[IntKind.wrap_i64]
 omega

theorem listed_bd {p q g:Int} (h:Listed p q g):100≤q∧q≤1000003∧1000≤p∧p≤36000109∧2≤g∧g≤36000109:=by
 unfold Listed at h
 omega

theorem listed_ok {p q g:Int} (h:Listed p q g):okP p q g=true:=by
 rcases h with⟨rfl,rfl,rfl⟩|⟨rfl,rfl,rfl⟩|⟨rfl,rfl,rfl⟩|⟨rfl,rfl,rfl⟩|⟨rfl,rfl,rfl⟩|⟨rfl,rfl,rfl⟩
 ·exact Num.ok1
 ·exact Num.ok2
 ·exact Num.ok3
 ·exact Num.ok4
 ·exact Num.ok5
 ·exact Num.ok6

theorem key_bd {p q g x:Int} (h:Listed p q g) (h0:0≤x) (h1:x≤2147483647):0≤keyI p q g x∧keyI p q g x≤36000109:=by
 have hb:=listed_bd h
 unfold keyI
 split
 ·have:=Num.powV_bd g (Num.okP_facts (listed_ok h)).1 h0 h1
  omega
 ·omega

theorem ints_new (w:World) (zs:List Int) (t:TypeId):Num.Ints (w.alloc (.cells (zs.map (Value.int .i64)).toArray t)) (some ⟨w.heap.size,0,none⟩) zs:=by
 refine Or.inr ⟨w.heap.size,0,rfl,by simp,fun i hi=> ?_⟩
 rw[cs_cell (Num.heap_new w _),Nat.zero_add]
 simp[hi]

theorem row_any (w:World) (zs:List Int) (P:Int→Prop) (h:∀z∈zs,P z):RowOf P (w.alloc (.cells (zs.map (Value.int .i64)).toArray 3)) w.heap.size zs.length:=rowOf_new P w zs _ h

end Cur
end Go.Proofs.YtcjgkmhpeedhiaaGreatDoor

/- The draw of what is issued. -/
namespace Go.Proofs.YtcjgkmhpeedhiaaGreatDoor
namespace Cur
open Go.ChangeShapes Go.WideShapes Go.ChangeAt Go.RowKit
open Pk (own_form new_below join_below heap_new lt_of kept cell_at heap_old frozen_at info_of own_below own_ne own_ne')
open Tk (Lg Hd tkV tkB Legs)
open Gt (lcells lc1)
open Num (pv mv pb mb)
set_option linter.unusedSimpArgs false
set_option linter.unusedVariables false

abbrev tk0:Obj:=tkB ⟨0,0,0,0,0⟩ ⟨#[]⟩ none 0 0 28

abbrev put7 (w:World) (P:Nat) (t:Hd) (nm:ByteArray) (v:Value):World:=((((((w.setCell ⟨P,0,none⟩ (.int .i64 t.id)).setCell ⟨P,1,none⟩ (.string nm)).setCell ⟨P,2,none⟩ (.int .i64 t.cl)).setCell ⟨P,3,none⟩ (.int .i64 t.pr)).setCell ⟨P,4,none⟩ (.int .i64 t.fi)).setCell ⟨P,5,none⟩ (.int .i64 t.la)).setCell ⟨P,6,none⟩ v

abbrev put3 (w:World) (P:Nat) (p q g:Int):World:=((w.setCell ⟨P,0,none⟩ (.int .i64 p)).setCell ⟨P,1,none⟩ (.int .i64 q)).setCell ⟨P,2,none⟩ (.int .i64 g)

theorem put7_own {w:World} {base e size n P:Nat} {v u:Value} {t:Hd} {nm:ByteArray} {xs:List Value} (h:w.ownsRow base e size v n xs) (hne:v.ownBlock≠some P):(put7 w P t nm u).ownsRow base e size v n xs:=own_else (own_else (own_else (own_else (own_else (own_else (own_else h hne) hne) hne) hne) hne) hne) hne

theorem put3_own {w:World} {base e size n P:Nat} {v:Value} {p q g:Int} {xs:List Value} (h:w.ownsRow base e size v n xs) (hne:v.ownBlock≠some P):(put3 w P p q g).ownsRow base e size v n xs:=own_else (own_else (own_else h hne) hne) hne

theorem put7_below {B P:Nat} {a w:World} (h:Below B a w) (hP:B≤P) (t:Hd) (nm:ByteArray) (v:Value):Below B a (put7 w P t nm v):=(((((((h.setCell (p:=⟨P,0,none⟩) hP _).setCell (p:=⟨P,1,none⟩) hP _).setCell (p:=⟨P,2,none⟩) hP _).setCell (p:=⟨P,3,none⟩) hP _).setCell (p:=⟨P,4,none⟩) hP _).setCell (p:=⟨P,5,none⟩) hP _).setCell (p:=⟨P,6,none⟩) hP _)

theorem put3_below {B P:Nat} {a w:World} (h:Below B a w) (hP:B≤P) (p q g:Int):Below B a (put3 w P p q g):=((h.setCell (p:=⟨P,0,none⟩) hP _).setCell (p:=⟨P,1,none⟩) hP _).setCell (p:=⟨P,2,none⟩) hP _

theorem put7_size (w:World) (P:Nat) (t:Hd) (nm:ByteArray) (v:Value):(put7 w P t nm v).heap.size=w.heap.size:=by simp only[World.size_setCell]
theorem put3_size (w:World) (P:Nat) (p q g:Int):(put3 w P p q g).heap.size=w.heap.size:=by simp only[World.size_setCell]

theorem put3_blk {w:World} {P k:Nat} (h:k≠P) (p q g:Int):(put3 w P p q g).heap[k]? =w.heap[k]? :=by
 rw[Below.heap_setCell _ _ _ _ h,Below.heap_setCell _ _ _ _ h,Below.heap_setCell _ _ _ _ h]

theorem put7_blk {w:World} {P k:Nat} (h:k≠P) (t:Hd) (nm:ByteArray) (v:Value):(put7 w P t nm v).heap[k]? =w.heap[k]? :=by
 rw[Below.heap_setCell _ _ _ _ h,Below.heap_setCell _ _ _ _ h,Below.heap_setCell _ _ _ _ h,Below.heap_setCell _ _ _ _ h,Below.heap_setCell _ _ _ _ h,Below.heap_setCell _ _ _ _ h,Below.heap_setCell _ _ _ _ h]

theorem put3_heap {w:World} {P:Nat} {a b c:Int} (h:w.heap[P]? =some (pb a b c)) (p q g:Int):(put3 w P p q g).heap[P]? =some (pb p q g):=by
 unfold put3 World.setCell
 simp[Array.getElem?_modify,h]

theorem put7_heap {w:World} {P:Nat} (h:w.heap[P]? =some tk0) (t:Hd) (nm:ByteArray) (va:Option Addr) (n vc:Nat):(put7 w P t nm (.slice va n vc)).heap[P]? =some (tkB t nm va n vc 28):=by
 unfold put7 World.setCell
 simp[Array.getElem?_modify,h]

theorem own_base {w:World} {lo lo' e size n:Nat} {v:Value} {xs:List Value} (h:w.ownsRow lo e size v n xs) (hl:lo'≤lo):w.ownsRow lo' e size v n xs:=by
 obtain⟨h1,h2⟩:=h
 refine⟨h1,?_⟩
 rcases h2 with h2|⟨g,cap,cur,hv,hg,hh,hr⟩
 ·exact Or.inl h2
 ·exact Or.inr ⟨g,cap,cur,hv,Nat.le_trans hl hg,hh,hr⟩

set_option maxRecDepth 100000 in
set_option maxHeartbeats 4000000 in
theorem drawIssued (w:World) (a:Option Addr) (n cap:Nat) (hn:n≤1048576) (B:Bytes w a n):
 Calls Tryz.prog 5 #[.slice a n cap] w fun e w'=>(∃(p q g x i:Int) (t:Hd) (nm:ByteArray) (va:Option Addr) (vc:Nat) (ls:List Lg) (b:Nat) (zs:List Int),e= .returned (.tuple #[pv p q g,.int .i64 x,.int .i64 i,tkV t nm va ls.length vc,.slice (some ⟨b,0,none⟩) zs.length 6])∧Listed p q g∧(1≤x∧x≤q-1)∧(0≤i∧i≤9999)∧nm.size≤40∧ls.length≤3∧zs.length=6∧w'.ownsRow w.heap.size 64 6 (.slice va ls.length vc) ls.length (lcells ls)∧Num.Ints w' (some ⟨b,0,none⟩) zs)∧Below w.heap.size w w':=by
 have N0:=new_below w (pb 0 0 0)
 have r0:=heap_new w (pb 0 0 0)
 have hq0:(w.alloc (pb 0 0 0)).heap.size=w.heap.size+1:=Array.size_push ..
 have N1:=new_below (w.alloc (pb 0 0 0)) tk0
 have r1:=heap_old r0 tk0
 have s1:=heap_new (w.alloc (pb 0 0 0)) tk0
 have hs0:((w.alloc (pb 0 0 0)).alloc tk0).heap.size=w.heap.size+2:=(Array.size_push ..).trans (congrArg (· +1) hq0)
 rw[hq0]at s1
 have NB:=join_below N0 N1
 have B0:=B.on NB
 clear N0 N1 r0 hq0 B
 go_enter Tryz.func5,Tryz.ntmps5
 go_wp2_with fail
 refine(new_any ((w.alloc (pb 0 0 0)).alloc tk0) a n cap hn B0).mono ?_
 rintro e w1 ⟨rfl,C1⟩
 have mR1:=(C1.below.block w.heap.size (by omega)).trans r1
 have mS1:=(C1.below.block (w.heap.size+1) (by omega)).trans s1
 generalize (w.alloc (pb 0 0 0)).alloc tk0=W0 at*
 rw[hs0]at C1⊢
 obtain⟨c,hc⟩:∃c,w.heap.size+2=c:=⟨_,rfl⟩
 rw[hc]at C1 hs0⊢
 clear r1 s1 B0
 go_wp2_with fail
 refine(params_any C1).mono ?_
 rintro e w2 ⟨⟨p,q,g,rfl,hL⟩,C2,K2⟩
 have hb:=listed_bd hL
 have HL:Hid (Listed p q g):=hL
 have mR3:=heap_old (K2.at (show w.heap.size≠c by omega) mR1) (pb p q g)
 have mS3:=heap_old (K2.at (show w.heap.size+1≠c by omega) mS1) (pb p q g)
 have mP2:=heap_new w2 (pb p q g)
 have C3:=C2.alloc (pb p q g)
 have hc2:=C2.lt
 clear mR1 mS1 C1 C2 K2 hL
 generalize hP:w2.heap.size=P at*
 have c1:(w2.alloc (pb p q g)).cell? ⟨P,1,none⟩=some (.int .i64 q):=cs_cell mP2 1
 go_wp2_with fail
 refine(below_any C3 _).mono ?_
 rintro e w3 ⟨⟨x,rfl,hx0,hx1⟩,C4,M4⟩
 have hx2:=hx1 (by omega)
 have mP4:=(M4.block P (by omega)).trans mP2
 have mR4:=(M4.block w.heap.size (by omega)).trans mR3
 have mS4:=(M4.block (w.heap.size+1) (by omega)).trans mS3
 have C4d:Is W0 a n cap c w3.drew:=C4.drewN 1
 clear hx1 mP2 mR3 mS3 C3 M4 c1 hP
 have c0:w3.cell? ⟨P,0,none⟩=some (.int .i64 p):=cs_cell mP4 0
 have c1:w3.cell? ⟨P,1,none⟩=some (.int .i64 q):=cs_cell mP4 1
 have c2:w3.cell? ⟨P,2,none⟩=some (.int .i64 g):=cs_cell mP4 2
 have hpc:¬P=c:=by omega
 have hrc:¬w.heap.size=c:=by omega
 have hsc:¬w.heap.size+1=c:=by omega
 have hrp:¬w.heap.size=P:=by omega
 have hpr:¬P=w.heap.size:=by omega
 have hsp:¬w.heap.size+1=P:=by omega
 have hps:¬P=w.heap.size+1:=by omega
 have hw1:IntKind.i64.wrap (q-1)=q-1:=wrap_is _ (by omega)
 go_wp2
 go_region_held3 (fun w'=>w'.cell? ⟨P,0,none⟩=some (.int .i64 p)∧w'.cell? ⟨P,1,none⟩=some (.int .i64 q)∧w'.cell? ⟨P,2,none⟩=some (.int .i64 g)) (go_keep) (first
  |(go_at_call 18;(with_reducible refine(below_any C4d _).mono ?_);rintro e w5 ⟨⟨i,rfl,hi0,hi1⟩,C5,M5⟩;have hi2:=hi1 (by omega);have mP5:=(M5.block P hpc).trans mP4;have mR5:=(M5.block w.heap.size hrc).trans mR4;have mS5:=(M5.block (w.heap.size+1) hsc).trans mS4;have hc5:=C5.lt;have e0:w5.cell? ⟨P,0,none⟩=some (.int .i64 p):=cs_cell mP5 0;have e1:w5.cell? ⟨P,1,none⟩=some (.int .i64 q):=cs_cell mP5 1;have e2:w5.cell? ⟨P,2,none⟩=some (.int .i64 g):=cs_cell mP5 2;clear hi1 C4d)
  |(go_at_call 19;(with_reducible refine(right_any C5).mono ?_);rintro e w6 ⟨⟨t,nm,va,vc,ls,rfl,hnm,hl1,hl2,O6⟩,C6,K6⟩;have mP6:=K6.at hpc mP5;have mR6:=K6.at hrc mR5;have mS6:=K6.at hsc mS5;have e3:w6.cell? ⟨P,0,none⟩=some (.int .i64 p):=cs_cell mP6 0;have e4:w6.cell? ⟨P,1,none⟩=some (.int .i64 q):=cs_cell mP6 1;have e5:w6.cell? ⟨P,2,none⟩=some (.int .i64 g):=cs_cell mP6 2;clear C5 K6)
  |(go_at_call 18;(with_reducible refine(below_any C6 _).mono ?_);rintro e w8 ⟨⟨z,rfl,hz0,hz1⟩,C8,M8⟩;have hz2:=hz1 (by omega);have hw3:IntKind.i64.wrap (1+z)=1+z:=wrap_is _ (by omega);have O8:=own_kb O6 (Kb.moved M8) hc5;have mP8:=(M8.block P hpc).trans mP6;have mR8:=(M8.block w.heap.size hrc).trans mR6;have mS8:=(M8.block (w.heap.size+1) hsc).trans mS6;have e9:w8.cell? ⟨P,0,none⟩=some (.int .i64 p):=cs_cell mP8 0;have e10:w8.cell? ⟨P,1,none⟩=some (.int .i64 q):=cs_cell mP8 1;have e11:w8.cell? ⟨P,2,none⟩=some (.int .i64 g):=cs_cell mP8 2;have hRl8:w.heap.size<w8.heap.size:=(Array.getElem?_eq_some_iff.1 mR8).1;have hSl8:w.heap.size+1<w8.heap.size:=(Array.getElem?_eq_some_iff.1 mS8).1;have hPl8:P<w8.heap.size:=(Array.getElem?_eq_some_iff.1 mP8).1;have b0:w8.cell? ⟨w.heap.size,0,none⟩=some (.int .i64 0):=cs_cell mR8 0;have b1:w8.cell? ⟨w.heap.size,1,none⟩=some (.int .i64 0):=cs_cell mR8 1;have b2:w8.cell? ⟨w.heap.size,2,none⟩=some (.int .i64 0):=cs_cell mR8 2;have f0:=cs_frozen mR8 0;have f1:=cs_frozen mR8 1;have f2:=cs_frozen mR8 2;have s0:w8.cell? ⟨w.heap.size+1,0,none⟩=some (.int .i64 0):=cs_cell mS8 0;have s1:w8.cell? ⟨w.heap.size+1,1,none⟩=some (.string ⟨#[]⟩):=cs_cell mS8 1;have s2:w8.cell? ⟨w.heap.size+1,2,none⟩=some (.int .i64 0):=cs_cell mS8 2;have s3:w8.cell? ⟨w.heap.size+1,3,none⟩=some (.int .i64 0):=cs_cell mS8 3;have s4:w8.cell? ⟨w.heap.size+1,4,none⟩=some (.int .i64 0):=cs_cell mS8 4;have s5:w8.cell? ⟨w.heap.size+1,5,none⟩=some (.int .i64 0):=cs_cell mS8 5;have s6:w8.cell? ⟨w.heap.size+1,6,none⟩=some (.slice none 0 0):=cs_cell mS8 6;have g0:=cs_frozen mS8 0;have g1:=cs_frozen mS8 1;have g2:=cs_frozen mS8 2;have g3:=cs_frozen mS8 3;have g4:=cs_frozen mS8 4;have g5:=cs_frozen mS8 5;have g6:=cs_frozen mS8 6;clear hz1 C6))
 all_goals
  have hne3:=own_ne' O8 mR8 (by decide)
  have hne7:=own_ne' O8 mS8 (by decide)
  have hZ:(put7 (put3 w8 w.heap.size p q g) (w.heap.size+1) t nm (.slice va ls.length vc)).heap.size=w8.heap.size:=(put7_size ..).trans (put3_size ..)
  have IZ:=ints_new (put7 (put3 w8 w.heap.size p q g) (w.heap.size+1) t nm (.slice va ls.length vc)) [1+z,2,3,5,7,11] 3
  rw[hZ]at IZ
  have mR9:=heap_old ((put7_blk (w:=put3 w8 w.heap.size p q g) (show w.heap.size≠w.heap.size+1 by omega) t nm (.slice va ls.length vc)).trans (put3_heap mR8 p q g)) (.cells (([1+z,2,3,5,7,11].map (Value.int .i64)).toArray) 3)
  have mS9:=heap_old (put7_heap ((put3_blk (show w.heap.size+1≠w.heap.size by omega) p q g).trans mS8) t nm va ls.length vc) (.cells (([1+z,2,3,5,7,11].map (Value.int .i64)).toArray) 3)
  have N9:=new_below (put7 (put3 w8 w.heap.size p q g) (w.heap.size+1) t nm (.slice va ls.length vc)) (.cells (([1+z,2,3,5,7,11].map (Value.int .i64)).toArray) 3)
  have O9:=own_base (own_below (put7_own (t:=t) (nm:=nm) (u:= .slice va ls.length vc) (put3_own (p:=p) (q:=q) (g:=g) O8 hne3) hne7) N9 (Nat.le_refl _)) (show w.heap.size≤w5.heap.size by omega)
  have LL:Below w.heap.size w w8:=NB.trans (C8.below.mono NB.size)
  have L9:=join_below (put7_below (put3_below LL (Nat.le_refl _) p q g) (Nat.le_succ _) t nm (.slice va ls.length vc)) N9
  have HX:Hid (1≤1+x∧1+x≤q-1∧0≤i∧i≤9999):=by
   show _∧_∧_∧_
   omega
  change Exit.then _ _ _ _ ((put7 (put3 w8 w.heap.size p q g) (w.heap.size+1) t nm (.slice va ls.length vc)).alloc (.cells (([1+z,2,3,5,7,11].map (Value.int .i64)).toArray) 3))
  generalize (put7 (put3 w8 w.heap.size p q g) (w.heap.size+1) t nm (.slice va ls.length vc)).alloc (.cells (([1+z,2,3,5,7,11].map (Value.int .i64)).toArray) 3)=W9 at*
  clear hne3 hne7 hZ N9 LL O8 mR8 mS8 mP8 b0 b1 b2 s0 s1 s2 s3 s4 s5 s6 f0 f1 f2 g0 g1 g2 g3 g4 g5 g6 e9 e10 e11
  have k0:W9.cell? ⟨w.heap.size,0,none⟩=some (.int .i64 p):=cell_at mR9 0
  have k1:W9.cell? ⟨w.heap.size,1,none⟩=some (.int .i64 q):=cell_at mR9 1
  have k2:W9.cell? ⟨w.heap.size,2,none⟩=some (.int .i64 g):=cell_at mR9 2
  have t0:W9.cell? ⟨w.heap.size+1,0,none⟩=some (.int .i64 t.id):=cell_at mS9 0
  have t1:W9.cell? ⟨w.heap.size+1,1,none⟩=some (.string nm):=cell_at mS9 1
  have t2:W9.cell? ⟨w.heap.size+1,2,none⟩=some (.int .i64 t.cl):=cell_at mS9 2
  have t3:W9.cell? ⟨w.heap.size+1,3,none⟩=some (.int .i64 t.pr):=cell_at mS9 3
  have t4:W9.cell? ⟨w.heap.size+1,4,none⟩=some (.int .i64 t.fi):=cell_at mS9 4
  have t5:W9.cell? ⟨w.heap.size+1,5,none⟩=some (.int .i64 t.la):=cell_at mS9 5
  have t6:W9.cell? ⟨w.heap.size+1,6,none⟩=some (.slice va ls.length vc):=cell_at mS9 6
  go_wp2
  refine bodyPost_ret (v:= .tuple #[pv p q g,.int .i64 (1+x),.int .i64 i,tkV t nm va ls.length vc,.slice (some ⟨w8.heap.size,0,none⟩) 6 6]) (by simp[results,Tryz.results5,go_sem,k0,k1,k2,t0,t1,t2,t3,t4,t5,t6]) rfl ?_
  exact⟨⟨p,q,g,1+x,i,t,nm,va,vc,ls,w8.heap.size,[1+z,2,3,5,7,11],rfl,HL.out,⟨HX.out.1,HX.out.2.1⟩,HX.out.2.2,hnm,hl2,rfl,O9,IZ⟩,L9⟩

end Cur
end Go.Proofs.YtcjgkmhpeedhiaaGreatDoor

/- Four digits of a number, of the program and of its model. -/
namespace Go.Proofs.YtcjgkmhpeedhiaaGreatDoor
namespace Is4
open Go.ChangeShapes Go.WideShapes Go.ChangeAt Go.RowKit
open Num (decS Tens)
set_option linter.unusedSimpArgs false
set_option linter.unusedVariables false

def four (n:Nat):List UInt8:= [UInt8.ofNat (48+n/1000),UInt8.ofNat (48+n/100%10),UInt8.ofNat (48+n/10%10),UInt8.ofNat (48+n%10)]
def fourS (n:Nat):ByteArray:=⟨(four n).toArray⟩

theorem dec_five (n:Nat) (h:n<10000):Lib.decDigits (10000+n)=49::four n:=by
 rw[Math.dec_big _ (by omega),Math.dec_big _ (by omega),Math.dec_big _ (by omega),Math.dec_big _ (by omega),Math.dec_small _ (by omega)]
 unfold four
 have e1:(10000+n)/10/10/10/10=1:=by omega
 have e2:(10000+n)/10/10/10%10=n/1000:=by omega
 have e3:(10000+n)/10/10%10=n/100%10:=by omega
 have e4:(10000+n)/10%10=n/10%10:=by omega
 have e5:(10000+n)%10=n%10:=by omega
 rw[e1,e2,e3,e4,e5]
 rfl

theorem dec_pad (n:Nat) (h:n<10000):(Lib.decDigits n).length≤4∧List.replicate (4-(Lib.decDigits n).length) 48++Lib.decDigits n=four n:=by
 unfold four
 by_cases h1:n<10
 ·rw[Math.dec_small n h1]
  have e1:n/1000=0:=by omega
  have e2:n/100%10=0:=by omega
  have e3:n/10%10=0:=by omega
  have e4:n%10=n:=by omega
  rw[e1,e2,e3,e4]
  exact⟨by simp,rfl⟩
 ·by_cases h2:n<100
  ·rw[Math.dec_big n h1,Math.dec_small (n/10) (by omega)]
   have e1:n/1000=0:=by omega
   have e2:n/100%10=0:=by omega
   have e3:n/10%10=n/10:=by omega
   rw[e1,e2,e3]
   exact⟨by simp,rfl⟩
  ·by_cases h3:n<1000
   ·rw[Math.dec_big n h1,Math.dec_big (n/10) (by omega),Math.dec_small (n/10/10) (by omega)]
    have e1:n/1000=0:=by omega
    have e2:n/100%10=n/10/10:=by omega
    rw[e1,e2]
    exact⟨by simp,rfl⟩
   ·rw[Math.dec_big n h1,Math.dec_big (n/10) (by omega),Math.dec_big (n/10/10) (by omega),Math.dec_small (n/10/10/10) (by omega)]
    have e1:n/1000=n/10/10/10:=by omega
    have e2:n/100%10=n/10/10%10:=by omega
    rw[e1,e2]
    exact⟨by simp,rfl⟩

theorem ext_one (k:Nat):(⟨(49::four k).toArray⟩:ByteArray).extract 1 ((four k).length+1)=⟨(four k).toArray⟩:=by
 unfold four
 rfl

theorem between_val (x lo hi:Int) (w:World):Calls Tryz.prog 43 #[.int .i64 x,.int .i64 lo,.int .i64 hi] w fun e w'=>e= .returned (.bool (decide (lo≤x)&&decide (x≤hi)))∧w'=w:=by
 by_cases h:lo≤x
 ·have h1:decide (lo≤x)=true:=decide_eq_true h
  go_enter Tryz.func43,Tryz.ntmps43
  go_wp2
  go_ret
  exact⟨by rw[h1];rfl,rfl⟩
 ·have h1:decide (lo≤x)=false:=decide_eq_false h
  have HF:Hid ((decide (lo≤x)&&decide (x≤hi))=false):=by show _=_;rw[h1];rfl
  go_enter Tryz.func43,Tryz.ntmps43
  go_wp2
  go_ret
  exact⟨rfl,rfl⟩

def fourB (n:Int):Bool:=decide (0≤n)&&decide (n≤9999)
def fourT (n:Int):ByteArray:=if fourB n=true then fourS n.toNat else⟨#[]⟩

theorem fourDigits_val (n:Int) (w:World) (T:Tens w):
 Calls Tryz.prog 196 #[.int .i64 n] w fun e w'=>e= .returned (.tuple #[.string (fourT n),.bool (fourB n)])∧Below w.heap.size w w':=by
 have HB:Hid (∀W:World,_):=fun W=>between_val n 0 9999 W
 have HQ:Hid (fourB n=(decide (0≤n)&&decide (n≤9999))):=rfl
 cases hb:fourB n
 ·have hT:fourT n=⟨#[]⟩:=by unfold fourT;rw[hb];rfl
  rw[←HQ.out,hb]at HB
  clear hb
  go_enter Tryz.func196,Tryz.ntmps196
  go_wp2_with fail
  refine(HB.out _).mono ?_
  rintro e w1 ⟨rfl,rfl⟩
  go_wp2
  refine bodyPost_ret (results_tmp2 rfl _ _ _) rfl ?_
  exact⟨by rw[hT]<;>rfl,Below.refl _ _⟩
 ·have hT:fourT n=fourS n.toNat:=by unfold fourT;rw[hb];rfl
  have hn:0≤n∧n≤9999:=by
   have:=HQ.out
   rw[hb]at this
   simpa using this.symm
  obtain⟨k,rfl⟩:=Int.eq_ofNat_of_zero_le hn.1
  rw[←HQ.out,hb]at HB
  have HD:Hid (Calls Tryz.prog 125 #[.int .i64 (10000+(k:Int))] w fun e w'=>e= .returned (.string ⟨(49::four k).toArray⟩)∧Below w.heap.size w w'):=by
   have:=Num.implDecText_any (10000+(k:Int)) w (by omega) (by omega) T
   have e:decS (10000+(k:Int))=⟨(49::four k).toArray⟩:=by
    have e2:(10000+(k:Int))=((10000+k:Nat):Int):=by omega
    rw[e2,←dec_five k (by omega)]
    rfl
   rw[e]at this
   exact this
  have HF:Hid (fourT (k:Int)=⟨(four k).toArray⟩):=by show _=_;rw[hT];rfl
  clear hb hT
  go_enter Tryz.func196,Tryz.ntmps196
  go_wp2_with fail
  refine(HB.out _).mono ?_
  rintro e w1 ⟨rfl,rfl⟩
  go_wp2_with fail
  refine HD.out.mono ?_
  rintro e w2 ⟨rfl,L2⟩
  go_wp2
  refine bodyPost_ret (results_tmp2 rfl _ _ _) rfl ?_
  exact⟨by rw[HF.out,←ext_one k]<;>rfl,L2⟩

theorem specFour_val (k:Nat) (w:World) (hk:k<10000):
 Calls Tryz.prog 60 #[.int .i64 (k:Int)] w fun e w'=>e= .returned (.string (fourS k))∧w'=w:=by
 have HD:Hid (Calls Tryz.prog 94 #[.int .i64 (k:Int)] w fun e w'=>e= .returned (.string ⟨(Lib.decDigits k).toArray⟩)∧w'=w):=Num.specDecText_nat k w (by omega)
 obtain⟨hl,hp⟩:=dec_pad k hk
 have HP:Hid (List.replicate (4-(Lib.decDigits k).length) 48++Lib.decDigits k=four k):=hp
 have hl4:(Lib.decDigits k).length≤4:=hl
 clear hp hl
 generalize Lib.decDigits k=l at*
 obtain⟨S,hS⟩:∃S:Nat→ByteArray,S=fun j=>⟨(List.replicate j 48++l).toArray⟩:=⟨_,rfl⟩
 have HSZ:Hid (∀j,(S j).size=j+l.length):=fun j=>by rw[hS];simp[ByteArray.size]
 have HNX:Hid (∀j,(⟨#[48]⟩:ByteArray)++S j=S (j+1)):=fun j=>by
  rw[hS]
  apply ByteArray.ext
  simp[List.replicate_succ]
 have HEN:Hid (∀j,j+l.length=4→S j=fourS k):=fun j h=>by
  rw[hS]
  have e:j=4-l.length:=by omega
  subst e
  show(⟨_⟩:ByteArray)=⟨_⟩
  rw[HP.out]
 have H0:S 0=⟨l.toArray⟩:=by rw[hS];rfl
 rw[←H0]at HD
 clear hS H0
 go_enter Tryz.func60,Tryz.ntmps60
 go_wp2_with fail
 refine HD.out.mono ?_
 rintro e w1 ⟨rfl,rfl⟩
 go_wp2
 go_loop [3] (fun v=>∃j:Nat,v= .string (S j)∧j+l.length≤4) (fun v=>match v with| .string s=>4-s.size|_=>0)
 case atStart=>exact⟨0,rfl,by omega⟩
 case round=>
  obtain⟨j,rfl,hj⟩:=hrel
  have hsz:=HSZ.out j
  have hsz1:=HSZ.out (j+1)
  have hnx:=HNX.out j
  by_cases hlt:(S j).size<4
  ·have hd:decide (((S j).size:Int)<4)=true:=decide_eq_true (by omega)
   go_wp2
   go_round
   case rel=>exact⟨j+1,by rw[←hnx],by omega⟩
   case measure=>simp;omega
  ·have hd:decide (((S j).size:Int)<4)=false:=decide_eq_false (by omega)
   have he:=HEN.out j (by omega)
   go_wp2
   go_ret
   exact⟨by rw[←he];rfl,rfl⟩

end Is4
end Go.Proofs.YtcjgkmhpeedhiaaGreatDoor

/- The mathematics of chapter 3: the codes of lengths and of ways back. -/
namespace Go.Proofs.YtcjgkmhpeedhiaaGreatDoor
namespace Math

def cbits (R k:Nat):Nat:=k/R-1

def cleast (R k:Nat):Nat:=(k-cbits R k*R)*2^cbits R k

theorem cbits_mul_le (R k:Nat):cbits R k*R≤k:=by
 unfold cbits
 have h:=Nat.div_mul_le_self k R
 have h2:(k/R-1)*R≤k/R*R:=Nat.mul_le_mul_right R (Nat.sub_le _ _)
 omega

theorem cleast_succ (R k:Nat) (hR:0<R):cleast R (k+1)=cleast R k+2^cbits R k:=by
 have hk:=cbits_mul_le R k
 by_cases h:(k+1)/R=k/R
 ·have hb:cbits R (k+1)=cbits R k:=by unfold cbits;rw[h]
  unfold cleast
  rw[hb,show k+1-cbits R k*R=(k-cbits R k*R)+1 by omega,Nat.add_mul,Nat.one_mul]
 ·have hs:= @Nat.succ_div k R
  have hd:R∣k+1:=by
   apply Classical.byContradiction
   intro hn
   rw[if_neg hn]at hs
   exact h hs
  rw[if_pos hd]at hs
  obtain⟨c,hc⟩:=hd
  have hq:(k+1)/R=c:=by rw[hc];exact Nat.mul_div_cancel_left c hR
  have hq0:k/R+1=c:=by omega
  cases hcc:k/R with
  |zero=>
   have hb:cbits R k=0:=by unfold cbits;omega
   have hb1:cbits R (k+1)=0:=by unfold cbits;omega
   unfold cleast
   rw[hb,hb1]
   simp
  |succ q=>
   have hb:cbits R k=q:=by unfold cbits;omega
   have hb1:cbits R (k+1)=q+1:=by unfold cbits;omega
   have hc2:c=q+2:=by omega
   subst hc2
   unfold cleast
   rw[hb,hb1]
   have e1:k+1-(q+1)*R=R:=by
    rw[hc,Nat.mul_comm R,show q+2=(q+1)+1 by omega,Nat.add_mul (q+1) 1 R]
    omega
   have e2:k-q*R+1=2*R:=by
    have:R*(q+2)=q*R+2*R:=by rw[Nat.mul_comm R,Nat.add_mul]
    omega
   rw[e1,Nat.pow_succ]
   have e3:(k-q*R)*2^q+2^q=(k-q*R+1)*2^q:=by rw[Nat.add_mul,Nat.one_mul]
   rw[e3,e2,Nat.mul_comm (2^q) 2,←Nat.mul_assoc,Nat.mul_comm R 2]

def blen (n:Nat):Nat:=if n=0 then 0 else n.log2+1

theorem blen_spec (n:Nat):n<2^blen n∧(n≠0→2^(blen n-1)≤n):=by
 unfold blen
 split
 ·subst_vars;simp
 ·rename_i h;exact⟨Nat.lt_log2_self,fun _=>by simpa using Nat.log2_self_le h⟩

def nbits (r n:Nat):Nat:=blen n-1-r

theorem nbits_of (r k n:Nat) (h1:cleast (2^r) k≤n) (h2:n<cleast (2^r) k+2^cbits (2^r) k):
 nbits r n=cbits (2^r) k∧n/2^cbits (2^r) k=k-cbits (2^r) k*2^r∧n%2^cbits (2^r) k=n-cleast (2^r) k:=by
 have hR:0<2^r:=Nat.two_pow_pos r
 have hp:0<2^cbits (2^r) k:=Nat.two_pow_pos _
 have hk:=cbits_mul_le (2^r) k
 have hdm:=Nat.div_add_mod k (2^r)
 have hml:=Nat.mod_lt k hR
 have e:n/2^cbits (2^r) k=k-cbits (2^r) k*2^r:=by
  unfold cleast at h1 h2
  rw[Nat.div_eq_iff hp]
  omega
 refine⟨?_,e,?_⟩
 ·have hsp:=blen_spec n
  unfold nbits
  by_cases hb:cbits (2^r) k=0
  ·have hn:n=k:=by
    unfold cleast at h1 h2
    rw[hb]at h1 h2
    simp at h1 h2
    omega
   have hk2:k<2^(r+1):=by
    unfold cbits at hb
    have:k/2^r≤1:=by omega
    have:2^r*(k/2^r)≤2^r*1:=Nat.mul_le_mul_left _ this
    rw[Nat.pow_succ]
    omega
   rw[hb]
   subst hn
   apply Nat.sub_eq_zero_of_le
   by_cases h0:n=0
   ·subst h0;simp[blen]
   ·have h3:=hsp.2 h0
    have h4:2^(blen n-1)<2^(r+1):=Nat.lt_of_le_of_lt h3 hk2
    have:=(Nat.pow_lt_pow_iff_right (by omega:1<2)).1 h4
    omega
  ·generalize hbb:cbits (2^r) k=b at*
   have hkq:k/2^r=b+1:=by unfold cbits at hbb;omega
   have hq1:2^r≤k-b*2^r∧k-b*2^r<2*2^r:=by
    rw[hkq]at hdm
    have:2^r*(b+1)=b*2^r+2^r:=by rw[Nat.mul_add,Nat.mul_one,Nat.mul_comm]
    omega
   have hlo:2^(r+b)≤n:=by
    have:2^r*2^b≤(k-b*2^r)*2^b:=Nat.mul_le_mul_right _ hq1.1
    rw[Nat.pow_add]
    unfold cleast at h1
    rw[hbb]at h1
    omega
   have hhi:n<2^(r+b+1):=by
    have h5:(k-b*2^r+1)*2^b≤2*2^r*2^b:=Nat.mul_le_mul_right _ (by omega)
    rw[Nat.add_mul,Nat.one_mul]at h5
    have h6:2*2^r*2^b=2^(r+b+1):=by rw[Nat.pow_succ,Nat.pow_add,Nat.mul_assoc,Nat.mul_comm]
    unfold cleast at h2
    rw[hbb]at h2
    omega
   have hn0:n≠0:=by have:=Nat.two_pow_pos (r+b);omega
   have hlog:n.log2=r+b:=(Nat.log2_eq_iff hn0).2 ⟨hlo,hhi⟩
   unfold blen
   rw[if_neg hn0,hlog]
   omega
 ·have hdm2:=Nat.div_add_mod n (2^cbits (2^r) k)
  rw[e]at hdm2
  unfold cleast
  rw[Nat.mul_comm]at hdm2
  omega

def codeC (r n:Nat):Nat:=nbits r n*2^r+n/2^nbits r n
def codeX (r n:Nat):Nat:=n%2^nbits r n

theorem code_of (r k n:Nat) (h1:cleast (2^r) k≤n) (h2:n<cleast (2^r) k+2^cbits (2^r) k):
 codeC r n=k∧nbits r n=cbits (2^r) k∧codeX r n=n-cleast (2^r) k:=by
 obtain⟨a,b,c⟩:=nbits_of r k n h1 h2
 have hk:=cbits_mul_le (2^r) k
 refine⟨?_,a,by unfold codeX;rw[a];exact c⟩
 unfold codeC
 rw[a,b]
 omega

theorem cleast_mono (R a b:Nat) (hR:0<R) (h:a≤b):cleast R a≤cleast R b:=by
 induction b with
 |zero=>rw[show a=0 by omega];exact Nat.le_refl _
 |succ b ih=>
  by_cases e:a=b+1
  ·subst e;exact Nat.le_refl _
  ·have:=ih (by omega)
   rw[cleast_succ R b hR]
   exact Nat.le_trans this (Nat.le_add_right _ _)

theorem code_at (R n:Nat) (hR:0<R):∃k,cleast R k≤n∧n<cleast R k+2^cbits R k:=by
 induction n with
 |zero=>exact⟨0,by simp[cleast],Nat.lt_of_lt_of_le (Nat.two_pow_pos _) (Nat.le_add_left _ _)⟩
 |succ n ih=>
  obtain⟨k,h1,h2⟩:=ih
  by_cases h:n+1<cleast R k+2^cbits R k
  ·exact⟨k,by omega,h⟩
  ·refine⟨k+1,?_,?_⟩
   ·rw[cleast_succ R k hR];omega
   ·rw[cleast_succ R k hR]
    have:=Nat.two_pow_pos (cbits R (k+1))
    omega

end Math
end Go.Proofs.YtcjgkmhpeedhiaaGreatDoor

/- The mathematics of chapter 3: bits as bytes. -/
namespace Go.Proofs.YtcjgkmhpeedhiaaGreatDoor
namespace Math

def Bits (l:List Nat):Prop:=∀b∈l,b≤1

theorem Bits.nil:Bits []:=by intro b h;cases h

theorem Bits.append {l m:List Nat} (h:Bits l) (g:Bits m):Bits (l++m):=by
 intro b hb
 rcases List.mem_append.1 hb with hb|hb
 ·exact h b hb
 ·exact g b hb

theorem Bits.one {b:Nat} (h:b≤1):Bits [b]:=by
 intro c hc
 rw[List.mem_singleton]at hc
 omega

theorem Bits.at {l:List Nat} (h:Bits l) (i:Nat):l.getD i 0≤1:=by
 rw[List.getD_eq_getElem?_getD]
 cases e:l[i]? with
 |none=>simp
 |some v=>exact h v (List.mem_of_getElem? e)

def byteAt (l:List Nat) (i:Nat):Nat:=
 l.getD (8*i) 0+2*l.getD (8*i+1) 0+4*l.getD (8*i+2) 0+8*l.getD (8*i+3) 0+16*l.getD (8*i+4) 0+32*l.getD (8*i+5) 0+64*l.getD (8*i+6) 0+128*l.getD (8*i+7) 0

theorem byteAt_lt {l:List Nat} (h:Bits l) (i:Nat):byteAt l i<256:=by
 have h0:=h.at (8*i);have h1:=h.at (8*i+1);have h2:=h.at (8*i+2);have h3:=h.at (8*i+3)
 have h4:=h.at (8*i+4);have h5:=h.at (8*i+5);have h6:=h.at (8*i+6);have h7:=h.at (8*i+7)
 unfold byteAt
 omega

def bytesOf (l:List Nat):List UInt8:=(List.range ((l.length+7)/8)).map fun i=>UInt8.ofNat (byteAt l i)

theorem bytesOf_length (l:List Nat):(bytesOf l).length=(l.length+7)/8:=by simp[bytesOf]

theorem getD_snoc (l:List Nat) (b i:Nat):(l++ [b]).getD i 0=if i=l.length then b else l.getD i 0:=by
 rw[List.getD_eq_getElem?_getD,List.getD_eq_getElem?_getD]
 by_cases h:i<l.length
 ·rw[List.getElem?_append_left h,if_neg (by omega)]
 ·rw[List.getElem?_append_right (by omega)]
  by_cases e:i=l.length
  ·subst e;simp
  ·rw[if_neg e,List.getElem?_eq_none (l:=l) (by omega),List.getElem?_eq_none (by simp;omega)]

theorem getD_far (l:List Nat) (i:Nat) (h:l.length≤i):l.getD i 0=0:=by
 rw[List.getD_eq_getElem?_getD,List.getElem?_eq_none h];rfl

theorem byteAt_far (l:List Nat) (i:Nat) (h:l.length≤8*i):byteAt l i=0:=by
 unfold byteAt
 rw[getD_far l _ (by omega),getD_far l _ (by omega),getD_far l _ (by omega),getD_far l _ (by omega),getD_far l _ (by omega),getD_far l _ (by omega),getD_far l _ (by omega),getD_far l _ (by omega)]

theorem byteAt_snoc (l:List Nat) (b i:Nat):byteAt (l++ [b]) i=byteAt l i+if i=l.length/8 then b*2^(l.length%8)else 0:=by
 unfold byteAt
 simp only[getD_snoc]
 by_cases e:i=l.length/8
 ·rw[if_pos e]
  have hr:l.length%8<8:=Nat.mod_lt _ (by omega)
  have hz:∀j,l.length≤j→l[j]?.getD 0=0:=fun j hj=>by rw[List.getElem?_eq_none hj];rfl
  have hl:l.length=8*i+l.length%8:=by omega
  generalize hq:l.length%8=r at*
  rw[hl]
  match r,hr with
  |0,_=>simp[hz (8*i) (by omega)];omega
  |1,_=>simp[hz (8*i+1) (by omega)];omega
  |2,_=>simp[hz (8*i+2) (by omega)];omega
  |3,_=>simp[hz (8*i+3) (by omega)];omega
  |4,_=>simp[hz (8*i+4) (by omega)];omega
  |5,_=>simp[hz (8*i+5) (by omega)];omega
  |6,_=>simp[hz (8*i+6) (by omega)];omega
  |7,_=>simp[hz (8*i+7) (by omega)];omega
 ·rw[if_neg e]
  rw[if_neg (by omega),if_neg (by omega),if_neg (by omega),if_neg (by omega),if_neg (by omega),if_neg (by omega),if_neg (by omega),if_neg (by omega)]
  rfl

theorem byteAt_low {l:List Nat} (h:Bits l):byteAt l (l.length/8)<2^(l.length%8):=by
 have h0:=h.at (8*(l.length/8));have h1:=h.at (8*(l.length/8)+1);have h2:=h.at (8*(l.length/8)+2);have h3:=h.at (8*(l.length/8)+3)
 have h4:=h.at (8*(l.length/8)+4);have h5:=h.at (8*(l.length/8)+5);have h6:=h.at (8*(l.length/8)+6);have h7:=h.at (8*(l.length/8)+7)
 have hr:l.length%8<8:=Nat.mod_lt _ (by omega)
 have hz:∀j,l.length≤j→l.getD j 0=0:=fun j hj=>getD_far l j hj
 unfold byteAt
 have hl:l.length=8*(l.length/8)+l.length%8:=by omega
 generalize hq:l.length%8=r at*
 generalize hi:l.length/8=i at*
 match r,hr with
 |0,_=>rw[hz (8*i) (by omega),hz (8*i+1) (by omega),hz (8*i+2) (by omega),hz (8*i+3) (by omega),hz (8*i+4) (by omega),hz (8*i+5) (by omega),hz (8*i+6) (by omega),hz (8*i+7) (by omega)];decide
 |1,_=>rw[hz (8*i+1) (by omega),hz (8*i+2) (by omega),hz (8*i+3) (by omega),hz (8*i+4) (by omega),hz (8*i+5) (by omega),hz (8*i+6) (by omega),hz (8*i+7) (by omega)];omega
 |2,_=>rw[hz (8*i+2) (by omega),hz (8*i+3) (by omega),hz (8*i+4) (by omega),hz (8*i+5) (by omega),hz (8*i+6) (by omega),hz (8*i+7) (by omega)];omega
 |3,_=>rw[hz (8*i+3) (by omega),hz (8*i+4) (by omega),hz (8*i+5) (by omega),hz (8*i+6) (by omega),hz (8*i+7) (by omega)];omega
 |4,_=>rw[hz (8*i+4) (by omega),hz (8*i+5) (by omega),hz (8*i+6) (by omega),hz (8*i+7) (by omega)];omega
 |5,_=>rw[hz (8*i+5) (by omega),hz (8*i+6) (by omega),hz (8*i+7) (by omega)];omega
 |6,_=>rw[hz (8*i+6) (by omega),hz (8*i+7) (by omega)];omega
 |7,_=>rw[hz (8*i+7) (by omega)];omega

theorem bytesOf_new (l:List Nat) (b:Nat) (h:l.length%8=0):bytesOf (l++ [b])=bytesOf l++ [UInt8.ofNat b]:=by
 unfold bytesOf
 rw[List.length_append,List.length_singleton,show(l.length+1+7)/8=(l.length+7)/8+1 by omega,List.range_succ,List.map_append,List.map_singleton]
 congr 1
 ·apply List.map_congr_left
  intro i hi
  rw[List.mem_range]at hi
  rw[byteAt_snoc,if_neg (by omega),Nat.add_zero]
 ·rw[byteAt_snoc,if_pos (by omega),byteAt_far l _ (by omega),h]
  simp

theorem bytesOf_more (l:List Nat) (b:Nat) (h:l.length%8≠0):bytesOf (l++ [b])=(bytesOf l).set (l.length/8) (UInt8.ofNat (byteAt l (l.length/8)+b*2^(l.length%8))):=by
 apply List.ext_getElem
 ·rw[List.length_set,bytesOf_length,bytesOf_length,List.length_append,List.length_singleton]
  omega
 ·intro i h1 h2
  rw[List.getElem_set]
  rw[bytesOf_length,List.length_append,List.length_singleton]at h1
  by_cases e:l.length/8=i
  ·rw[if_pos e]
   subst e
   simp only[bytesOf,List.getElem_map,List.getElem_range]
   rw[byteAt_snoc,if_pos rfl]
  ·rw[if_neg e]
   simp only[bytesOf,List.getElem_map,List.getElem_range]
   rw[byteAt_snoc,if_neg (fun h=>e h.symm),Nat.add_zero]

def lowL (x n:Nat):List Nat:=(List.range n).map fun j=>x/2^j%2
def highL (x n:Nat):List Nat:=(List.range n).map fun j=>x/2^(n-1-j)%2

theorem lowL_bits (x n:Nat):Bits (lowL x n):=by
 intro b hb
 obtain⟨j,-,rfl⟩:=List.mem_map.1 hb
 omega

theorem highL_bits (x n:Nat):Bits (highL x n):=by
 intro b hb
 obtain⟨j,-,rfl⟩:=List.mem_map.1 hb
 omega

theorem lowL_length (x n:Nat):(lowL x n).length=n:=by simp[lowL]
theorem highL_length (x n:Nat):(highL x n).length=n:=by simp[highL]

theorem lowL_succ (x n:Nat):lowL x (n+1)=lowL x n++ [x/2^n%2]:=by
 unfold lowL
 rw[List.range_succ,List.map_append]
 rfl

def highP (x n k:Nat):List Nat:=(List.range k).map fun j=>x/2^(n-1-j)%2

theorem highP_succ (x n k:Nat):highP x n (k+1)=highP x n k++ [x/2^(n-1-k)%2]:=by
 unfold highP
 rw[List.range_succ,List.map_append]
 rfl

theorem highP_all (x n:Nat):highP x n n=highL x n:=rfl

theorem or_low (x b r:Nat) (h:x<2^r):x|||b*2^r=x+b*2^r:=by
 have:=Nat.shiftLeft_add_eq_or_of_lt h b
 rw[Nat.shiftLeft_eq]at this
 rw[Nat.or_comm,←this,Nat.add_comm]

theorem ofInt_small (a:Nat) (ha:a<4611686018427387904):(BitVec.ofInt 64 (a:Int)).toNat=a:=by
 rw[BitVec.ofInt_natCast,BitVec.toNat_ofNat];exact Nat.mod_eq_of_lt (by omega)

theorem bits_and_i64 (a b:Nat) (ha:a<4611686018427387904) (hb:b<4611686018427387904):
 bits .and .i64 (a:Int) (b:Int)=((a&&&b:Nat):Int):=by
 have hx:a&&&b<2^62:=Nat.and_lt_two_pow _ (by omega)
 show IntKind.i64.wrap ((BitVec.ofInt 64 (a:Int)&&&BitVec.ofInt 64 (b:Int)).toNat:Int)=_
 rw[BitVec.toNat_and,ofInt_small a ha,ofInt_small b hb,IntKind.wrap_i64]
 omega

theorem bits_or_i64 (a b:Nat) (ha:a<4611686018427387904) (hb:b<4611686018427387904):
 bits .or .i64 (a:Int) (b:Int)=((a|||b:Nat):Int):=by
 have hx:a|||b<2^62:=Nat.or_lt_two_pow (by omega) (by omega)
 show IntKind.i64.wrap ((BitVec.ofInt 64 (a:Int)|||BitVec.ofInt 64 (b:Int)).toNat:Int)=_
 rw[BitVec.toNat_or,ofInt_small a ha,ofInt_small b hb,IntKind.wrap_i64]
 omega

theorem bits_xor_i64 (a b:Nat) (ha:a<4611686018427387904) (hb:b<4611686018427387904):
 bits .xor .i64 (a:Int) (b:Int)=((a^^^b:Nat):Int):=by
 have hx:a^^^b<2^62:=Nat.xor_lt_two_pow (by omega) (by omega)
 show IntKind.i64.wrap ((BitVec.ofInt 64 (a:Int)^^^BitVec.ofInt 64 (b:Int)).toNat:Int)=_
 rw[BitVec.toNat_xor,ofInt_small a ha,ofInt_small b hb,IntKind.wrap_i64]
 omega

theorem bits_or_u8 (a b:Nat) (ha:a<256) (hb:b<256):
 bits .or .u8 (a:Int) (b:Int)=((a|||b:Nat):Int):=by
 have hx:a|||b<2^8:=Nat.or_lt_two_pow (by omega) (by omega)
 have h1:(BitVec.ofInt 8 (a:Int)).toNat=a:=by
  rw[BitVec.ofInt_natCast,BitVec.toNat_ofNat];exact Nat.mod_eq_of_lt (by omega)
 have h2:(BitVec.ofInt 8 (b:Int)).toNat=b:=by
  rw[BitVec.ofInt_natCast,BitVec.toNat_ofNat];exact Nat.mod_eq_of_lt (by omega)
 show IntKind.u8.wrap ((BitVec.ofInt 8 (a:Int)|||BitVec.ofInt 8 (b:Int)).toNat:Int)=_
 rw[BitVec.toNat_or,h1,h2,IntKind.wrap_u8]
 omega

theorem and_one_i64 (a:Nat) (ha:a<4611686018427387904):bits .and .i64 (a:Int) 1=((a%2:Nat):Int):=by
 have h:=bits_and_i64 a 1 ha (by omega)
 rw[Nat.and_one_is_mod]at h
 exact h

theorem and_mask_i64 (a m:Nat) (ha:a<4611686018427387904) (hm:m≤60):bits .and .i64 (a:Int) ((2:Int)^m-1)=((a%2^m:Nat):Int):=by
 have h1:=Nat.two_pow_pos m
 have h2:2^m≤2^60:=Nat.pow_le_pow_right (by omega) hm
 have e:(2:Int)^m-1=((2^m-1:Nat):Int):=by
  rw[Int.natCast_sub (by omega)]
  simp
 rw[e,bits_and_i64 a _ ha (by omega),Nat.and_two_pow_sub_one_eq_mod]

end Math
end Go.Proofs.YtcjgkmhpeedhiaaGreatDoor

/- Contracts of the codes of lengths and of ways back, of the program and of its model. -/
namespace Go.Proofs.YtcjgkmhpeedhiaaGreatDoor
namespace Pk
open Go.ChangeShapes Go.WideShapes Go.ChangeAt Go.RowKit
set_option linter.unusedSimpArgs false
set_option linter.unusedVariables false

theorem in_is (x a b:Int) (c:Bool) (h:decide (a≤x∧x≤b)=c) (w:World):
 Calls Tryz.prog 55 #[.int .i64 x,.int .i64 a,.int .i64 b] w fun e w'=>e= .returned (.bool c)∧w'=w:=by
 subst h
 by_cases h1:a≤x<;>by_cases h2:x≤b
 all_goals
  go_enter Tryz.func55,Tryz.ntmps55
  go_wp2
  go_ret
  exact⟨by simp[h1,h2],rfl⟩

def p2 (n:Nat):Nat:=2^n

theorem p2_pos (n:Nat):0<p2 n:=Nat.two_pow_pos n

theorem p2_succ (n:Nat):p2 (n+1)=2*p2 n:=by unfold p2;rw[Nat.pow_succ,Nat.mul_comm]

theorem p2_le (n m:Nat) (h:n≤m):p2 n≤p2 m:=Nat.pow_le_pow_right (by omega) h

theorem p2_bd (n:Nat) (h:n≤40):p2 n≤1099511627776:=p2_le n 40 h

theorem pow2_val (n:Nat) (w:World) (hn:n≤40):
 Calls Tryz.prog 127 #[.int .i64 n] w fun e w'=>e= .returned (.int .i64 (p2 n))∧w'=w:=by
 go_enter Tryz.func127,Tryz.ntmps127
 go_wp2
 go_loop [3,4] (fun x i=>∃(k y:Nat),k≤n∧y≤1099511627776∧x= .int .i64 y∧i= .int .i64 k∧Hid (y=p2 k)) (fun _ i=>n-(intOf i).toNat)
 case atStart=>exact⟨0,1,by omega,by omega,rfl,rfl,rfl⟩
 case round=>
  obtain⟨k,y,hk,hy,rfl,rfl,H⟩:=hrel
  by_cases hlt:k<n
  ·have HN:Hid (2*y=p2 (k+1)):=by show _=_;rw[p2_succ,H.out]
   have hy2:2*y≤1099511627776:=by
    rw[HN.out]
    exact p2_bd _ (by omega)
   go_wp2
   go_round
   case rel=>exact⟨k+1,2*y,by omega,by omega,by go_num,by go_num,HN⟩
   case measure=>simp[intOf];omega
  ·obtain rfl:k=n:=by omega
   go_wp2
   go_ret
   exact⟨ret_int (by rw[←H.out]),rfl⟩

theorem blen_half (n:Nat) (h:n≠0):Math.blen n=1+Math.blen (n/2):=by
 unfold Math.blen
 rw[if_neg h]
 by_cases h2:n/2=0
 ·rw[if_pos h2,show n=1 by omega]
  rfl
 ·rw[if_neg h2,show n.log2=(n/2).log2+1 from ?_]
  ·omega
  ·rw[Nat.log2_def,if_pos (by omega)]

theorem bitLen_is (x:Nat) (h:x<2^64):Lib.bitLen x=Math.blen x:=by
 induction x using Nat.strongRecOn with
 |ind x ih=>
  by_cases h0:x=0
  ·subst h0;rfl
  ·rw[Lib.bitLen_half x h0 h,blen_half x h0,ih (x/2) (by omega) (by omega)]

theorem blen_bd (n k:Nat) (h:n<2^k):Math.blen n≤k:=by
 unfold Math.blen
 by_cases h0:n=0
 ·rw[if_pos h0];omega
 ·rw[if_neg h0]
  have:=(Nat.log2_lt h0).2 h
  omega

theorem wrap_sum (a c:Nat) (ha:a≤100) (hc:c<32768):wrap64 (wrap64 (a:Int)+(c:Int))=((a+c:Nat):Int):=by
 unfold wrap64
 omega

theorem wrap_mask (a:Nat) (ha:a≤16384):wrap64 (wrap64 (a:Int)-1)=(a:Int)-1:=by
 unfold wrap64
 omega

theorem cast_mul_pow (m r:Nat):(m:Int)*2^r=((m*2^r:Nat):Int):=by simp

theorem cast_div_pow (n m:Nat):(n:Int)/2^m=((n/2^m:Nat):Int):=by simp

theorem cast_pow (m:Nat):(2:Int)^m=((2^m:Nat):Int):=by simp

theorem mul_pow_bd (m r:Nat) (hr:r≤2) (hm:m≤14):m*2^r≤100:=by
 have h1:2^r≤2^2:=Nat.pow_le_pow_right (by omega) hr
 have h2:m*2^r≤m*4:=Nat.mul_le_mul_left _ h1
 omega

theorem code_num (n r m:Nat) (hn:n<32768) (hr:r≤2) (hm:m≤14) (h:Math.nbits r n=m):wrap64 (wrap64 ((m:Int)*2^r)+(n:Int)/2^m)=(Math.codeC r n:Int):=by
 rw[cast_mul_pow,cast_div_pow,wrap_sum _ _ (mul_pow_bd m r hr hm) (Nat.lt_of_le_of_lt (Nat.div_le_self _ _) hn)]
 unfold Math.codeC
 rw[h]

theorem code_told (n r m:Nat) (hn:n<32768) (hm:m≤14) (h:Math.nbits r n=m):bits .and .i64 (n:Int) (wrap64 (wrap64 (2^m)-1))=(Math.codeX r n:Int):=by
 have e2:wrap64 (wrap64 ((2:Int)^m)-1)=(2:Int)^m-1:=by
  rw[cast_pow,wrap_mask _ (show 2^m≤2^14 from Nat.pow_le_pow_right (by omega) hm)]
 unfold Math.codeX
 rw[h,e2,Math.and_mask_i64 n m (by omega) (by omega)]

theorem codeOf_is (n r b m:Nat) (w:World) (hn:n<32768) (hr1:1≤r) (hr2:r≤2) (hb:b≤15) (hm:m=b-1-r) (HN:Hid (Math.nbits r n=m)) (hl:∀w,Calls Tryz.prog 218 #[.int .u64 (n:Int)] w fun e w'=>e= .returned (.int .i64 (b:Int))∧w'=w):
 Calls Tryz.prog 217 #[.int .i64 n,.int .i64 r] w fun e w'=>e= .returned (.tuple #[.int .i64 (Math.codeC r n),.int .i64 (Math.nbits r n),.int .i64 (Math.codeX r n)])∧Drawn w w':=by
 go_enter Tryz.func217,Tryz.ntmps217
 go_wp2_with fail
 refine(hl _).mono ?_
 rintro e w1 ⟨rfl,rfl⟩
 by_cases hneg:(b:Int)-1-r<0
 ·obtain rfl:m=0:=by omega
  have hmx:max ((b:Int)-1-r) 0=0:=by omega
  clear hm
  go_wp2
  go_quiet (fail)
  go_wp2
  refine bodyPost_ret (v:= .tuple #[.int .i64 (Math.codeC r n),.int .i64 (Math.nbits r n),.int .i64 (Math.codeX r n)]) ?_ rfl ⟨rfl,nq,rfl⟩
  have e1:(n:Int)=(Math.codeC r n:Int):=by unfold Math.codeC;rw[HN.out];simp
  have e2:bits .and .i64 (n:Int) 0=(Math.codeX r n:Int):=by
   have:=Math.bits_and_i64 n 0 (by omega) (by omega)
   unfold Math.codeX
   rw[HN.out]
   simp[Nat.mod_one]at this⊢
   exact this
  simp[results,Tryz.results217,go_sem,HN.out,←e1,←e2]
 ·have e1:(b:Int)-1-r=m:=by omega
  have hm2:m≤14:=by omega
  clear hm
  go_wp2
  go_quiet (fail)
  go_wp2
  refine bodyPost_ret (v:= .tuple #[.int .i64 (Math.codeC r n),.int .i64 (Math.nbits r n),.int .i64 (Math.codeX r n)]) ?_ rfl ⟨rfl,nq,rfl⟩
  rw[←code_num n r m hn hr2 hm2 HN.out,←code_told n r m hn hm2 HN.out,HN.out]
  simp[results,Tryz.results217,go_sem]

theorem len_val (n:Nat) (w:World) (hn:n<32768):
 Calls Tryz.prog 218 #[.int .u64 (n:Int)] w fun e w'=>e= .returned (.int .i64 (Math.blen n:Int))∧w'=w:=by
 have h:=Tryz.bits_Len (n:Int) w (by omega) (by omega)
 rw[Int.toNat_natCast,bitLen_is n (by omega)]at h
 exact h

theorem codeOf_val (n r:Nat) (w:World) (hn:n<32768) (hr1:1≤r) (hr2:r≤2):
 Calls Tryz.prog 217 #[.int .i64 n,.int .i64 r] w fun e w'=>e= .returned (.tuple #[.int .i64 (Math.codeC r n),.int .i64 (Math.nbits r n),.int .i64 (Math.codeX r n)])∧Drawn w w':=
 codeOf_is n r (Math.blen n) (Math.nbits r n) w hn hr1 hr2 (blen_bd n 15 hn) rfl rfl (fun w=>len_val n w hn)

def lenC (n:Int):Int:=if 3≤n∧n≤258 then if n=258 then 285 else 257+(Math.codeC 2 (n-3).toNat:Int)else-1
def lenB (n:Int):Int:=if 3≤n∧n≤257 then(Math.nbits 2 (n-3).toNat:Int)else 0
def lenX (n:Int):Int:=if 3≤n∧n≤257 then(Math.codeX 2 (n-3).toNat:Int)else 0
def backC (d:Int):Int:=if 1≤d∧d≤32768 then(Math.codeC 1 (d-1).toNat:Int)else-1
def backB (d:Int):Int:=if 1≤d∧d≤32768 then(Math.nbits 1 (d-1).toNat:Int)else 0
def backX (d:Int):Int:=if 1≤d∧d≤32768 then(Math.codeX 1 (d-1).toNat:Int)else 0

theorem len_no (n:Int) (h:¬(3≤n∧n≤258)):lenC n= -1∧lenB n=0∧lenX n=0:=by
 unfold lenC lenB lenX
 rw[if_neg h,if_neg (by omega),if_neg (by omega)]
 exact⟨rfl,rfl,rfl⟩

theorem len_top:lenC 258=285∧lenB 258=0∧lenX 258=0:=by
 unfold lenC lenB lenX
 simp

theorem len_yes (k:Nat) (h:k≤254):lenC ((k:Int)+3)=257+(Math.codeC 2 k:Int)∧lenB ((k:Int)+3)=(Math.nbits 2 k:Int)∧lenX ((k:Int)+3)=(Math.codeX 2 k:Int):=by
 unfold lenC lenB lenX
 have e:((k:Int)+3-3).toNat=k:=by omega
 rw[if_pos (by omega),if_neg (by omega),if_pos (by omega),if_pos (by omega),e]
 exact⟨rfl,rfl,rfl⟩

theorem back_no (d:Int) (h:¬(1≤d∧d≤32768)):backC d= -1∧backB d=0∧backX d=0:=by
 unfold backC backB backX
 rw[if_neg h,if_neg h,if_neg h]
 exact⟨rfl,rfl,rfl⟩

theorem back_yes (k:Nat) (h:k≤32767):backC ((k:Int)+1)=(Math.codeC 1 k:Int)∧backB ((k:Int)+1)=(Math.nbits 1 k:Int)∧backX ((k:Int)+1)=(Math.codeX 1 k:Int):=by
 unfold backC backB backX
 have e:((k:Int)+1-1).toNat=k:=by omega
 rw[if_pos (by omega),if_pos (by omega),if_pos (by omega),e]
 exact⟨rfl,rfl,rfl⟩

abbrev t3 (a b c:Int):Value:= .tuple #[.int .i64 a,.int .i64 b,.int .i64 c]

theorem implLen_val (n:Int) (w:World):
 Calls Tryz.prog 211 #[.int .i64 n] w fun e w'=>e= .returned (t3 (lenC n) (lenB n) (lenX n))∧Drawn w w':=by
 by_cases h:3≤n∧n≤258
 ·by_cases h2:n=258
  ·subst h2
   obtain⟨e1,e2,e3⟩:=len_top
   rw[e1,e2,e3]
   go_enter Tryz.func211,Tryz.ntmps211
   go_wp2
   refine bodyPost_ret (v:=t3 285 0 0) (by simp[results,Tryz.results211,go_sem]) rfl ⟨rfl,Drawn.refl _⟩
  ·obtain⟨k,hk⟩:=Int.eq_ofNat_of_zero_le (show 0≤n-3 by omega)
   obtain rfl:n=(k:Int)+3:=by omega
   obtain⟨e1,e2,e3⟩:=len_yes k (by omega)
   rw[e1,e2,e3]
   have hc:=codeOf_val k 2
   have hcc:Math.codeC 2 k≤1000:=by
    unfold Math.codeC
    have h1:Math.nbits 2 k≤15:=by unfold Math.nbits;have:=blen_bd k 15 (by omega);omega
    have h3:k/2^Math.nbits 2 k≤k:=Nat.div_le_self _ _
    omega
   generalize Math.codeC 2 k=C at*
   generalize Math.nbits 2 k=B at*
   generalize Math.codeX 2 k=X at*
   have HC:Hid (∀w,_):=fun w=>hc w (by omega) (by omega) (by omega)
   clear hc e1 e2 e3
   have hs:(k:Int)+3-3=k:=by omega
   go_enter Tryz.func211,Tryz.ntmps211
   go_wp2_with fail
   refine(HC.out _).mono ?_
   rintro e w1 ⟨rfl,D⟩
   go_wp2
   refine bodyPost_ret (v:=t3 (257+C) B X) (by simp[results,Tryz.results211,go_sem]) rfl ⟨rfl,D⟩
 ·obtain⟨e1,e2,e3⟩:=len_no n h
  rw[e1,e2,e3]
  by_cases h3:n<3
  ·go_enter Tryz.func211,Tryz.ntmps211
   go_wp2
   refine bodyPost_ret (v:=t3 (-1) 0 0) (by simp[results,Tryz.results211,go_sem]) rfl ⟨rfl,Drawn.refl _⟩
  ·go_enter Tryz.func211,Tryz.ntmps211
   go_wp2
   refine bodyPost_ret (v:=t3 (-1) 0 0) (by simp[results,Tryz.results211,go_sem]) rfl ⟨rfl,Drawn.refl _⟩

theorem implBack_val (d:Int) (w:World):
 Calls Tryz.prog 212 #[.int .i64 d] w fun e w'=>e= .returned (t3 (backC d) (backB d) (backX d))∧Drawn w w':=by
 by_cases h:1≤d∧d≤32768
 ·obtain⟨k,hk⟩:=Int.eq_ofNat_of_zero_le (show 0≤d-1 by omega)
  obtain rfl:d=(k:Int)+1:=by omega
  obtain⟨e1,e2,e3⟩:=back_yes k (by omega)
  rw[e1,e2,e3]
  have hc:=codeOf_val k 1
  generalize Math.codeC 1 k=C at*
  generalize Math.nbits 1 k=B at*
  generalize Math.codeX 1 k=X at*
  have HC:Hid (∀w,_):=fun w=>hc w (by omega) (by omega) (by omega)
  clear hc e1 e2 e3
  have hs:(k:Int)+1-1=k:=by omega
  go_enter Tryz.func212,Tryz.ntmps212
  go_wp2_with fail
  refine(HC.out _).mono ?_
  rintro e w1 ⟨rfl,D⟩
  go_wp2
  refine bodyPost_ret (v:=t3 C B X) (by simp[results,Tryz.results212,go_sem]) rfl ⟨rfl,D⟩
 ·obtain⟨e1,e2,e3⟩:=back_no d h
  rw[e1,e2,e3]
  by_cases h3:d<1
  ·go_enter Tryz.func212,Tryz.ntmps212
   go_wp2
   refine bodyPost_ret (v:=t3 (-1) 0 0) (by simp[results,Tryz.results212,go_sem]) rfl ⟨rfl,Drawn.refl _⟩
  ·go_enter Tryz.func212,Tryz.ntmps212
   go_wp2
   refine bodyPost_ret (v:=t3 (-1) 0 0) (by simp[results,Tryz.results212,go_sem]) rfl ⟨rfl,Drawn.refl _⟩

theorem specBack_val (d:Int) (w:World):
 Calls Tryz.prog 103 #[.int .i64 d] w fun e w'=>e= .returned (t3 (backC d) (backB d) (backX d))∧w'=w:=by
 by_cases h:1≤d∧d≤32768
 ·obtain⟨n,hk⟩:=Int.eq_ofNat_of_zero_le (show 0≤d-1 by omega)
  obtain rfl:d=(n:Int)+1:=by omega
  obtain⟨e1,e2,e3⟩:=back_yes n (by omega)
  rw[e1,e2,e3]
  clear e1 e2 e3
  have HI:Hid (_):=decide_eq_true h
  go_enter Tryz.func103,Tryz.ntmps103
  go_wp2_with fail
  refine(in_is _ 1 32768 true HI.out _).mono ?_
  rintro e w1 ⟨rfl,rfl⟩
  go_wp2
  go_loop [5,6,7] (fun c f b=>∃(k F B:Nat),F≤n∧k≤F∧B≤15∧c= .int .i64 k∧f= .int .i64 ((F:Int)+1)∧b= .int .i64 B∧Hid (F=Math.cleast 2 k∧B=Math.cbits 2 k)) (fun c _ _=>n-(intOf c).toNat)
  case atStart=>exact⟨0,0,0,by omega,by omega,by omega,rfl,rfl,rfl,by simp[Hid,Math.cleast,Math.cbits]⟩
  case round=>
   obtain⟨k,F,B,hF,hk1,hB,rfl,rfl,rfl,H⟩:=hrel
   have hP:=p2_pos B
   have hP2:=p2_bd B (by omega)
   have HP:Hid (∀w,_):=fun w=>pow2_val B w (by omega)
   have HS:=Math.cleast_succ 2 k (by omega)
   rw[←H.out.1,←H.out.2]at HS
   have HS2:Hid (Math.cleast 2 (k+1)=F+p2 B):=HS
   clear HS
   generalize p2 B=Q at*
   by_cases hge:F+Q≤n
   ·have hB2:Math.cbits 2 (k+1)≤15:=by
     apply Classical.byContradiction
     intro hn
     have h1:Math.cleast 2 34≤Math.cleast 2 (k+1):=Math.cleast_mono 2 34 (k+1) (by omega) (by unfold Math.cbits at hn;omega)
     have h2:Math.cleast 2 34=131072:=by decide
     have:=HS2.out
     omega
    by_cases h4:4≤k+1
    ·have hq:Math.cbits 2 (k+1)=(k+1-2)/2:=by unfold Math.cbits;omega
     rw[hq]at hB2
     have HQ:Hid (Math.cbits 2 (k+1)=(k+1-2)/2):=hq
     clear hq
     go_wp2_with (go_at_call 127;refine(HP.out _).mono ?_;rintro e w' ⟨rfl,rfl⟩)
     go_round
     case rel=>exact⟨k+1,F+Q,(k+1-2)/2,by omega,by omega,by omega,by go_num,by go_num,by go_num,⟨HS2.out.symm,HQ.out.symm⟩⟩
     case measure=>simp[intOf];omega
    ·have hq:Math.cbits 2 (k+1)=0:=by unfold Math.cbits;omega
     have hb0:B=0:=by rw[H.out.2];unfold Math.cbits;omega
     subst hb0
     have HQ:Hid (Math.cbits 2 (k+1)=0):=hq
     clear hq
     go_wp2_with (go_at_call 127;refine(HP.out _).mono ?_;rintro e w' ⟨rfl,rfl⟩)
     go_round
     case rel=>exact⟨k+1,F+Q,0,by omega,by omega,by omega,by go_num,by go_num,rfl,⟨HS2.out.symm,HQ.out.symm⟩⟩
     case measure=>simp[intOf];omega
   ·have hc:=Math.code_of 1 k n (by show Math.cleast 2 k≤n;rw[←H.out.1];exact hF) (by show n<Math.cleast 2 k+2^Math.cbits 2 k;rw[←Math.cleast_succ 2 k (by omega),HS2.out];omega)
    have hx:n-Math.cleast (2^1) k=n-F:=by rw[H.out.1]
    have hy:Math.cbits (2^1) k=B:=H.out.2.symm
    rw[hx,hy]at hc
    have HC:Hid (_):=hc
    clear hc hx hy H HS2
    go_wp2_with (go_at_call 127;refine(HP.out _).mono ?_;rintro e w' ⟨rfl,rfl⟩)
    refine bodyPost_ret (v:=t3 (Math.codeC 1 n) (Math.nbits 1 n) (Math.codeX 1 n)) ?_ rfl ⟨rfl,rfl⟩
    rw[HC.out.1,HC.out.2.1,HC.out.2.2]
    simp[results,Tryz.results103,go_sem]
    omega
 ·obtain⟨e1,e2,e3⟩:=back_no d h
  rw[e1,e2,e3]
  have HI:Hid (_):=decide_eq_false h
  go_enter Tryz.func103,Tryz.ntmps103
  go_wp2_with fail
  refine(in_is _ 1 32768 false HI.out _).mono ?_
  rintro e w1 ⟨rfl,rfl⟩
  go_wp2
  refine bodyPost_ret (v:=t3 (-1) 0 0) (by simp[results,Tryz.results103,go_sem]) rfl ⟨rfl,rfl⟩

theorem specLen_val (N:Int) (w:World):
 Calls Tryz.prog 101 #[.int .i64 N] w fun e w'=>e= .returned (t3 (lenC N) (lenB N) (lenX N))∧w'=w:=by
 by_cases h258:N=258
 ·subst h258
  obtain⟨e1,e2,e3⟩:=len_top
  rw[e1,e2,e3]
  go_enter Tryz.func101,Tryz.ntmps101
  go_wp2_with fail
  refine(in_is _ 3 258 true (by decide) _).mono ?_
  rintro e w1 ⟨rfl,rfl⟩
  go_wp2
  refine bodyPost_ret (v:=t3 285 0 0) (by simp[results,Tryz.results101,go_sem]) rfl ⟨rfl,rfl⟩
 by_cases h:3≤N∧N≤258
 ·obtain⟨n,hk⟩:=Int.eq_ofNat_of_zero_le (show 0≤N-3 by omega)
  have HI:Hid (_):=decide_eq_true h
  have hN:N≤257:=by omega
  have hN3:3≤N:=h.1
  have h258':(N==258)=false:=by rw[beq_eq_false_iff_ne];exact h258
  clear h258
  have HN:Hid (N=(n:Int)+3):=by show _=_;omega
  have hl:=len_yes n (by omega)
  rw[←HN.out]at hl
  have HL:Hid (_):=hl
  clear h hk hl
  go_enter Tryz.func101,Tryz.ntmps101
  go_wp2_with fail
  refine(in_is _ 3 258 true HI.out _).mono ?_
  rintro e w1 ⟨rfl,rfl⟩
  go_wp2
  go_loop [5,6,7] (fun c f b=>∃(g a B:Int) (k:Nat),257≤g∧g≤600∧3≤a∧a≤N∧0≤B∧B≤15∧c= .int .i64 g∧f= .int .i64 a∧b= .int .i64 B∧Hid (g=k+257∧a=(Math.cleast 4 k:Int)+3∧B=(Math.cbits 4 k:Int)∧k≤Math.cleast 4 k)) (fun c _ _=>600-(intOf c).toNat)
  case atStart=>exact⟨257,3,0,0,by omega,by omega,by omega,by omega,by omega,by omega,rfl,rfl,rfl,by simp[Hid,Math.cleast,Math.cbits]⟩
  case round=>
   obtain⟨g,a,B,k,hg1,hg2,ha1,ha2,hB1,hB2,rfl,rfl,rfl,H⟩:=hrel
   obtain⟨B,rfl⟩:=Int.eq_ofNat_of_zero_le hB1
   have hB:B≤15:=by omega
   have hP:=p2_pos B
   have hP2:=p2_bd B (by omega)
   have HP:Hid (∀w,_):=fun w=>pow2_val B w (by omega)
   have HS:=Math.cleast_succ 4 k (by omega)
   have hbk:B=Math.cbits 4 k:=by have:=H.out.2.2.1;omega
   rw[←hbk]at HS
   have HS2:Hid (Math.cleast 4 (k+1)=Math.cleast 4 k+p2 B):=HS
   clear HS hbk
   generalize p2 B=Q at*
   by_cases hge:a+(Q:Int)≤N
   ·have hk1:k+1≤Math.cleast 4 (k+1)∧Math.cleast 4 (k+1)≤254:=by
     have h1:=HS2.out
     have h2:=H.out
     have h3:=HN.out
     omega
    have hcb:Math.cbits 4 (k+1)≤15:=by
     apply Classical.byContradiction
     intro hn
     have h1:Math.cleast 4 68≤Math.cleast 4 (k+1):=Math.cleast_mono 4 68 (k+1) (by omega) (by unfold Math.cbits at hn;omega)
     have h2:Math.cleast 4 68=262144:=by decide
     omega
    have HK:Hid (_):=hk1
    have hg3:g+1≤600:=by have h2:=H.out;omega
    clear hk1
    by_cases h4:265≤g+1
    ·have hq:(Math.cbits 4 (k+1):Int)=(g+1-261)/4:=by have h2:=H.out;unfold Math.cbits;omega
     have HQ:Hid (_):=hq
     have hq2:(g+1-261)/4≤15:=by omega
     clear hq hcb
     generalize hg':g+1=G at*
     go_wp2_with (go_at_call 127;refine(HP.out _).mono ?_;rintro e w' ⟨rfl,rfl⟩)
     go_round
     case rel=>exact⟨G,a+Q,(G-261)/4,k+1,by omega,by omega,by omega,by omega,by omega,by omega,by go_num,by go_num,by go_num,by have h1:=HS2.out;have h2:=H.out;have h3:=HQ.out;have h4:=HK.out;show _∧_∧_∧_;omega⟩
     case measure=>simp[intOf];omega
    ·have hq:Math.cbits 4 (k+1)=0:=by have h2:=H.out;unfold Math.cbits;omega
     have hb0:B=0:=by have h2:=H.out;unfold Math.cbits at h2;omega
     subst hb0
     have HQ:Hid (_):=hq
     clear hq hcb
     generalize hg':g+1=G at*
     go_wp2_with (go_at_call 127;refine(HP.out _).mono ?_;rintro e w' ⟨rfl,rfl⟩)
     go_round
     case rel=>exact⟨G,a+Q,0,k+1,by omega,by omega,by omega,by omega,by omega,by omega,by go_num,by go_num,rfl,by have h1:=HS2.out;have h2:=H.out;have h3:=HQ.out;have h4:=HK.out;show _∧_∧_∧_;omega⟩
     case measure=>simp[intOf];omega
   ·have hc:=Math.code_of 2 k n (by show Math.cleast 4 k≤n;have h2:=H.out;have h3:=HN.out;omega) (by show n<Math.cleast 4 k+2^Math.cbits 4 k;rw[←Math.cleast_succ 4 k (by omega),HS2.out];have h2:=H.out;have h3:=HN.out;omega)
    have HC:Hid (lenC N=g∧lenB N=B∧lenX N=N-a):=by
     show _∧_∧_
     obtain⟨l1,l2,l3⟩:=HL.out
     have h2:=H.out
     have h3:=HN.out
     have h4:Math.cleast (2^2) k=Math.cleast 4 k:=rfl
     have h5:Math.cbits (2^2) k=Math.cbits 4 k:=rfl
     rw[h4,h5]at hc
     refine⟨?_,?_,?_⟩<;>omega
    clear hc HS2
    go_wp2_with (go_at_call 127;refine(HP.out _).mono ?_;rintro e w' ⟨rfl,rfl⟩)
    refine bodyPost_ret (v:=t3 (lenC N) (lenB N) (lenX N)) ?_ rfl ⟨rfl,rfl⟩
    rw[HC.out.1,HC.out.2.1,HC.out.2.2]
    simp[results,Tryz.results101,go_sem]
 ·obtain⟨e1,e2,e3⟩:=len_no N h
  rw[e1,e2,e3]
  have HI:Hid (_):=decide_eq_false h
  go_enter Tryz.func101,Tryz.ntmps101
  go_wp2_with fail
  refine(in_is _ 3 258 false HI.out _).mono ?_
  rintro e w1 ⟨rfl,rfl⟩
  go_wp2
  refine bodyPost_ret (v:=t3 (-1) 0 0) (by simp[results,Tryz.results101,go_sem]) rfl ⟨rfl,rfl⟩

end Pk
end Go.Proofs.YtcjgkmhpeedhiaaGreatDoor

/- The mathematics of chapter 3: bits that are read. -/
namespace Go.Proofs.YtcjgkmhpeedhiaaGreatDoor
namespace Math

def bitAt (s:ByteArray) (i:Nat):Nat:=(s.data.toList.getD (i/8) 0).toNat/2^(i%8)%2

theorem bitAt_le (s:ByteArray) (i:Nat):bitAt s i≤1:=by unfold bitAt;omega

theorem bitAt_far (s:ByteArray) (i:Nat) (h:8*s.size≤i):bitAt s i=0:=by
 unfold bitAt
 rw[List.getD_eq_getElem?_getD,List.getElem?_eq_none (by rw[Array.length_toList];show s.size≤i/8;omega)]
 show 0/2^(i%8)%2=0
 rw[Nat.zero_div]

theorem bitAt_in (s:ByteArray) (i:Nat) (h:i/8<s.size):bitAt s i=s[i/8].toNat/2^(i%8)%2:=by
 unfold bitAt
 have h1:i/8<s.data.toList.length:=by rw[Array.length_toList];exact h
 rw[List.getD_eq_getElem?_getD,List.getElem?_eq_getElem h1]
 rfl

def lowAt (s:ByteArray) (a:Nat):Nat→Nat
 |0=>0
 |n+1=>lowAt s a n+bitAt s (a+n)*2^n

def topAt (s:ByteArray) (a:Nat):Nat→Nat
 |0=>0
 |n+1=>2*topAt s a n+bitAt s (a+n)

theorem lowAt_lt (s:ByteArray) (a n:Nat):lowAt s a n<2^n:=by
 induction n with
 |zero=>simp[lowAt]
 |succ n ih=>
  have h1:=bitAt_le s (a+n)
  have h2:bitAt s (a+n)*2^n≤1*2^n:=Nat.mul_le_mul_right _ h1
  rw[lowAt,Nat.pow_succ]
  omega

theorem topAt_lt (s:ByteArray) (a n:Nat):topAt s a n<2^n:=by
 induction n with
 |zero=>simp[topAt]
 |succ n ih=>
  have h1:=bitAt_le s (a+n)
  rw[topAt,Nat.pow_succ]
  omega

def symAt (s:ByteArray) (a:Nat):Nat:=
 if topAt s a 7<24 then 256+topAt s a 7
 else if topAt s a 8<192 then topAt s a 8-48
 else if topAt s a 8<200 then 280+topAt s a 8-192
 else 144+topAt s a 9-400

def symLen (s:ByteArray) (a:Nat):Nat:=if topAt s a 7<24 then 7 else if topAt s a 8<200 then 8 else 9

end Math
end Go.Proofs.YtcjgkmhpeedhiaaGreatDoor

/- Contracts of the model's reader of bits. -/
namespace Go.Proofs.YtcjgkmhpeedhiaaGreatDoor
namespace Pk
open Go.ChangeShapes Go.WideShapes Go.ChangeAt Go.RowKit
open Math (bitAt lowAt topAt)
set_option linter.unusedSimpArgs false
set_option linter.unusedVariables false

def RdS (B c:Nat) (s:ByteArray) (a:Nat) (w:World):Prop:=B≤c∧w.heap[c]? =some (.cells #[.string s,.int .i64 ((min a (8*s.size):Nat):Int),.bool (decide (8*s.size<a))] 155)

def Mv (c:Nat) (w w1:World):Prop:=w1.heap.size=w.heap.size∧∀k,k≠c→w1.heap[k]? =w.heap[k]?

theorem Mv.refl (c:Nat) (w:World):Mv c w w:=⟨rfl,fun _ _=>rfl⟩

theorem Mv.trans {c:Nat} {w w1 w2:World} (h:Mv c w w1) (g:Mv c w1 w2):Mv c w w2:=⟨g.1.trans h.1,fun k hk=>(g.2 k hk).trans (h.2 k hk)⟩

theorem Mv.set (c i:Nat) (w:World) (u:Value):Mv c w (w.setCell ⟨c,i,none⟩ u):=⟨World.size_setCell _ _ _,fun k hk=>Below.heap_setCell _ _ _ _ hk⟩

theorem Mv.drewN {c:Nat} {w w1:World} (h:Mv c w w1) (n:Nat):Mv c w (w1.drewN n):=⟨h.1,h.2⟩

theorem below_drewN {B:Nat} {w w1:World} (L:Below B w w1) (q:Nat):Below B w (w1.drewN q):=L.trans ⟨rfl,rfl,rfl,Nat.le_refl _,fun _ _=>rfl⟩

theorem hp_set {w:World} {c i:Nat} {cs:Array Value} {t:TypeId} {f:Nat×Nat} (h:w.heap[c]? =some (.cells cs t f)) (u:Value):(w.setCell ⟨c,i,none⟩ u).heap[c]? =some (.cells (cs.setIfInBounds i u) t f):=by
 unfold World.setCell
 simp[Array.getElem?_modify,h]

theorem wrap_is (n:Int) (h: -9223372036854775808≤n∧n≤9223372036854775807):IntKind.i64.wrap n=n:=by
 rw[IntKind.wrap_i64]
 omega

theorem bit_quo (b r:Nat):(b:Int)/(p2 r:Int)=((b/2^r:Nat):Int):=by
 unfold p2
 simp

set_option maxRecDepth 100000 in
set_option maxHeartbeats 1000000 in
theorem bitS_val (B c:Nat) (s:ByteArray) (a:Nat) (w:World) (hs:s.size≤100000) (ha:a≤1000000) (H:RdS B c s a w):
 Calls Tryz.prog 112 #[.pointer (some ⟨c,0,none⟩)] w fun e w'=>e= .returned (.int .i64 (bitAt s a))∧RdS B c s (a+1) w'∧Mv c w w'∧Below B w w':=by
 obtain⟨hB,m⟩:=H
 have f1:=frozen_at m 1
 have f2:=frozen_at m 2
 have c0:w.cell? ⟨c,0,none⟩=some (.string s):=cell_at m 0
 by_cases h:a<8*s.size
 ·have e1:min a (8*s.size)=a:=by omega
  have e2:decide (8*s.size<a)=false:=decide_eq_false (by omega)
  rw[e1,e2]at m
  have c1:w.cell? ⟨c,1,none⟩=some (.int .i64 (a:Int)):=cell_at m 1
  have hi:a/8<s.size:=by omega
  have HB:Hid (_):=Math.bitAt_in s a hi
  have hq:(a:Int)/8=((a/8:Nat):Int):=by omega
  have hr:(a:Int)%8=((a%8:Nat):Int):=by omega
  have hr8:a%8≤40:=by omega
  have ht:Int.tmod (a:Int) 8=((a%8:Nat):Int):=by rw[Int.tmod_eq_emod_of_nonneg (by omega)];omega
  have htd:Int.tdiv (a:Int) 8=((a/8:Nat):Int):=by rw[Int.tdiv_eq_ediv_of_nonneg (by omega)];omega
  have ht2:Int.tmod ((s[a/8].toNat/2^(a%8):Nat):Int) 2=((s[a/8].toNat/2^(a%8)%2:Nat):Int):=(Int.ofNat_tmod _ _).symm
  have htq:Int.tdiv (s[a/8].toNat:Int) (p2 (a%8):Int)=((s[a/8].toNat/2^(a%8):Nat):Int):=by rw[Int.tdiv_eq_ediv_of_nonneg (by omega)];exact bit_quo _ _
  have hP:=p2_pos (a%8)
  have hP2:=p2_bd (a%8) hr8
  have HPW:Hid (∀w,_):=fun w=>pow2_val (a%8) w hr8
  have hdv:=bit_quo s[a/8].toNat (a%8)
  have hbt:=s[a/8].toNat_lt
  have hd8:¬(8*(s.size:Int)≤(a:Int)):=by omega
  have hd8':decide (8*(s.size:Int)≤(a:Int))=false:=decide_eq_false hd8
  have HM:Hid (_):=m
  have hil:((a/8:Nat):Int)<(s.size:Int):=by omega
  have hmod:((s[a/8].toNat/2^(a%8):Nat):Int)%2=((s[a/8].toNat/2^(a%8)%2:Nat):Int):=by omega
  have HW:Hid (∀(w1:World) n,w1.heap[c]? =some (.cells #[.string s,.int .i64 (a:Int),.bool false] 155)→RdS B c s (a+1) ((w1.drewN n).setCell ⟨c,1,none⟩ (.int .i64 ((a:Int)+1)))):=by
   intro w1 n m1
   refine⟨hB,?_⟩
   rw[show min (a+1) (8*s.size)=a+1 by omega,decide_eq_false (show ¬8*s.size<a+1 by omega)]
   exact hp_set (w:=w1.drewN n) (i:=1) m1 (.int .i64 ((a:Int)+1))
  have hdl:s[a/8].toNat/2^(a%8)≤s[a/8].toNat:=Nat.div_le_self _ _
  rw[HB.out]
  have HA:Hid (a=8*(a/8)+a%8):=by show _=_;omega
  clear m e1 e2 h HB
  generalize a/8=i at*
  generalize a%8=r at*
  generalize p2 r=Q at*
  generalize s[i].toNat/2^r=Y at*
  generalize hYb:Y%2=yb at*
  have hyb1:yb≤1:=by omega
  clear hYb
  have hi0:(0:Int)≤(i:Int):=by omega
  have hw1:IntKind.i64.wrap (i:Int)=i:=wrap_is _ (by omega)
  have hw2:IntKind.i64.wrap (r:Int)=r:=wrap_is _ (by omega)
  have hw3:IntKind.i64.wrap (Y:Int)=Y:=wrap_is _ (by omega)
  have hw5:IntKind.i64.wrap (s[i].toNat:Int)=s[i].toNat:=wrap_is _ (by omega)
  have hw4:IntKind.i64.wrap (yb:Int)=yb:=wrap_is _ (by omega)
  go_enter Tryz.func112,Tryz.ntmps112
  go_wp2
  go_quiet (fail)
  have m9:(w.drewN nq).heap[c]? =some (.cells #[.string s,.int .i64 (a:Int),.bool false] 155):=HM.out
  have M9:Mv c w (w.drewN nq):=(Mv.refl c w).drewN nq
  have L9:Below B w (w.drewN nq):=below_drewN (Below.refl B w) nq
  clear c0 c1 f1 f2 HM
  generalize w.drewN nq=w9 at m9 M9 L9⊢
  have c0:w9.cell? ⟨c,0,none⟩=some (.string s):=cell_at m9 0
  have c1:w9.cell? ⟨c,1,none⟩=some (.int .i64 (a:Int)):=cell_at m9 1
  have f1:=frozen_at m9 1
  have HM:Hid (_):=m9
  clear m9
  go_wp2_with fail
  go_quiet ((go_at_call 127;exact Calls.quiet_of_same (HPW.out _)))
  go_wp2
  go_ret
  exact⟨rfl,HW.out _ _ HM.out,(M9.drewN _).trans (Mv.set c 1 _ _),(below_drewN L9 _).setCell hB _⟩
 ·have e1:min a (8*s.size)=8*s.size:=by omega
  rw[e1]at m
  have HB:Hid (_):=Math.bitAt_far s a (by omega)
  have c1:w.cell? ⟨c,1,none⟩=some (.int .i64 ((8*s.size:Nat):Int)):=cell_at m 1
  have c2:w.cell? ⟨c,2,none⟩=some (.bool (decide (8*s.size<a))):=cell_at m 2
  have HW:Hid (∀n,RdS B c s (a+1) ((w.drewN n).setCell ⟨c,2,none⟩ (.bool true))):=by
   intro n
   refine⟨hB,?_⟩
   rw[show min (a+1) (8*s.size)=8*s.size by omega,decide_eq_true (show 8*s.size<a+1 by omega)]
   exact hp_set (w:=w.drewN n) (i:=2) m (.bool true)
  rw[HB.out]
  generalize decide (8*s.size<a)=cc at*
  have e8:((8*s.size:Nat):Int)=8*(s.size:Int):=by omega
  rw[e8]at c1
  clear m e1 HB e8 h
  go_enter Tryz.func112,Tryz.ntmps112
  go_wp2
  go_quiet (fail)
  go_wp2
  go_ret
  exact⟨rfl,HW.out _,(Mv.refl c w).drewN _|>.trans (Mv.set c 2 _ _),(below_drewN (Below.refl B w) _).setCell hB _⟩

set_option maxHeartbeats 1000000 in
theorem numS_val (B c:Nat) (s:ByteArray) (a n:Nat) (w:World) (hs:s.size≤100000) (ha:a≤900000) (hn:n≤30) (H:RdS B c s a w):
 Calls Tryz.prog 113 #[.pointer (some ⟨c,0,none⟩),.int .i64 n] w fun e w'=>e= .returned (.int .i64 (lowAt s a n))∧RdS B c s (a+n) w'∧Mv c w w'∧Below B w w':=by
 go_enter Tryz.func113,Tryz.ntmps113
 go_wp2
 go_loopw [5,6] (fun x i wr=>∃(k y:Nat),k≤n∧y<1099511627776∧x= .int .i64 y∧i= .int .i64 k∧Hid (y=lowAt s a k)∧Hid (RdS B c s (a+k) wr)∧Mv c w wr∧Below B w wr) (fun _ i _=>n-(intOf i).toNat)
 case atStart=>exact⟨0,0,by omega,by omega,rfl,rfl,rfl,H,Mv.refl _ _,Below.refl _ _⟩
 case round=>
  obtain⟨k,y,hk,hy,rfl,rfl,HY,HR,M,L⟩:=hrel
  by_cases hkn:k<n
  ·have HN:Hid (lowAt s a (k+1)=y+bitAt s (a+k)*p2 k):=by show _=_;rw[HY.out];rfl
   have hlt:=Math.lowAt_lt s a (k+1)
   have hlp:2^(k+1)≤2^31:=Nat.pow_le_pow_right (by omega) (by omega)
   rw[HN.out]at hlt
   have hb1:=Math.bitAt_le s (a+k)
   have HBV:Hid (_):=bitS_val B c s (a+k) wr hs (by omega) HR.out
   have HPW:Hid (∀w,_):=fun w=>pow2_val k w (by omega)
   have hP2:=p2_bd k (by omega)
   generalize bitAt s (a+k)=b at*
   generalize p2 k=Q at*
   have hbq:b*Q≤1099511627776:=by
    have h3:b*Q≤1*Q:=Nat.mul_le_mul_right _ hb1
    omega
   have hmul:(b:Int)*(Q:Int)=((b*Q:Nat):Int):=by simp
   generalize b*Q=bq at*
   clear HR
   go_wp2_with fail
   refine(Calls.mono HBV.out ?_)
   rintro e w2 ⟨rfl,R2,M2,L2⟩
   have R3:Hid (RdS B c s (a+(k+1)) w2):=R2
   have M3:=M.trans M2
   have L3:=L.trans L2
   clear R2 M2 L2 M L HBV
   go_wp2_with fail
   refine(HPW.out _).mono ?_
   rintro e w4 ⟨rfl,rfl⟩
   go_wp2
   go_roundw
   case rel=>exact⟨k+1,y+bq,by omega,by omega,by go_num,by go_num,HN.out.symm,R3,M3,L3⟩
   case measure=>simp[intOf];omega
  ·obtain rfl:k=n:=by omega
   go_wp2
   go_ret
   exact⟨by rw[←HY.out]<;>rfl,HR.out,M,L⟩

set_option maxHeartbeats 1000000 in
theorem topS_val (B c:Nat) (s:ByteArray) (a n:Nat) (w:World) (hs:s.size≤100000) (ha:a≤900000) (hn:n≤30) (H:RdS B c s a w):
 Calls Tryz.prog 134 #[.pointer (some ⟨c,0,none⟩),.int .i64 n] w fun e w'=>e= .returned (.int .i64 (topAt s a n))∧RdS B c s (a+n) w'∧Mv c w w'∧Below B w w':=by
 go_enter Tryz.func134,Tryz.ntmps134
 go_wp2
 go_loopw [5,6] (fun x i wr=>∃(k y:Nat),k≤n∧y<1099511627776∧x= .int .i64 y∧i= .int .i64 k∧Hid (y=topAt s a k)∧Hid (RdS B c s (a+k) wr)∧Mv c w wr∧Below B w wr) (fun _ i _=>n-(intOf i).toNat)
 case atStart=>exact⟨0,0,by omega,by omega,rfl,rfl,rfl,H,Mv.refl _ _,Below.refl _ _⟩
 case round=>
  obtain⟨k,y,hk,hy,rfl,rfl,HY,HR,M,L⟩:=hrel
  by_cases hkn:k<n
  ·have HN:Hid (topAt s a (k+1)=2*y+bitAt s (a+k)):=by show _=_;rw[HY.out];rfl
   have hlt:=Math.topAt_lt s a (k+1)
   have hlp:2^(k+1)≤2^31:=Nat.pow_le_pow_right (by omega) (by omega)
   rw[HN.out]at hlt
   have hb1:=Math.bitAt_le s (a+k)
   have HBV:Hid (_):=bitS_val B c s (a+k) wr hs (by omega) HR.out
   generalize bitAt s (a+k)=b at*
   clear HR
   go_wp2_with fail
   refine(Calls.mono HBV.out ?_)
   rintro e w2 ⟨rfl,R2,M2,L2⟩
   have R3:Hid (RdS B c s (a+(k+1)) w2):=R2
   have M3:=M.trans M2
   have L3:=L.trans L2
   clear R2 M2 L2 M L HBV
   go_wp2
   go_roundw
   case rel=>exact⟨k+1,2*y+b,by omega,by omega,by go_num,by go_num,HN.out.symm,R3,M3,L3⟩
   case measure=>simp[intOf];omega
  ·obtain rfl:k=n:=by omega
   go_wp2
   go_ret
   exact⟨by rw[←HY.out]<;>rfl,HR.out,M,L⟩

theorem own_mv {c base e size:Nat} {w w1:World} {v:Value} {n:Nat} {xs:List Value} {cs:Array Value} {t:TypeId} {f:Nat×Nat} (h:w.ownsRow base e size v n xs) (M:Mv c w w1) (m:w.heap[c]? =some (.cells cs t f)) (hte:t≠e):w1.ownsRow base e size v n xs:=by
 have hne:=own_ne' h m hte
 obtain⟨h1,h2⟩:=h
 refine⟨h1,?_⟩
 rcases h2 with h2|⟨g,cap,cur,hv,hg,hh,hr⟩
 ·exact Or.inl h2
 ·refine Or.inr ⟨g,cap,cur,hv,hg,?_,hr⟩
  have hgc:g≠c:=by
   intro hgc
   subst hgc
   exact hne (by rw[hv];rfl)
  rw[M.2 g hgc]
  exact hh

end Pk
end Go.Proofs.YtcjgkmhpeedhiaaGreatDoor

/- Contracts of the model's reader of symbols. -/
namespace Go.Proofs.YtcjgkmhpeedhiaaGreatDoor
namespace Pk
open Go.ChangeShapes Go.WideShapes Go.ChangeAt Go.RowKit
open Math (bitAt lowAt topAt symAt symLen)
set_option linter.unusedSimpArgs false
set_option linter.unusedVariables false

set_option maxRecDepth 100000 in
set_option maxHeartbeats 1000000 in
theorem symS_val (B c:Nat) (s:ByteArray) (a:Nat) (w:World) (hs:s.size≤100000) (ha:a≤890000) (H:RdS B c s a w):
 Calls Tryz.prog 132 #[.pointer (some ⟨c,0,none⟩)] w fun e w'=>e= .returned (.int .i64 (symAt s a))∧RdS B c s (a+symLen s a) w'∧Mv c w w'∧Below B w w':=by
 have h7:=Math.topAt_lt s a 7
 have hb7:=Math.bitAt_le s (a+7)
 have hb8:=Math.bitAt_le s (a+8)
 have e8:topAt s a 8=2*topAt s a 7+bitAt s (a+7):=rfl
 have e9:topAt s a 9=2*(2*topAt s a 7+bitAt s (a+7))+bitAt s (a+8):=rfl
 have HT:Hid (_):=topS_val B c s a 7 w hs (by omega) (by omega) H
 have HB7:Hid (∀w,RdS B c s (a+7) w→_):=fun w=>bitS_val B c s (a+7) w hs (by omega)
 have HB8:Hid (∀w,RdS B c s (a+7+1) w→_):=fun w=>bitS_val B c s (a+8) w hs (by omega)
 have HS:Hid (symAt s a=if topAt s a 7<24 then 256+topAt s a 7 else if topAt s a 8<192 then topAt s a 8-48 else if topAt s a 8<200 then 280+topAt s a 8-192 else 144+topAt s a 9-400):=rfl
 have HL:Hid (symLen s a=if topAt s a 7<24 then 7 else if topAt s a 8<200 then 8 else 9):=rfl
 rw[e8,e9]at HS
 rw[e8]at HL
 generalize symAt s a=Y at*
 generalize symLen s a=N at*
 generalize topAt s a 7=x at*
 generalize bitAt s (a+7)=b7 at*
 generalize bitAt s (a+8)=b8 at*
 clear e8 e9 H
 go_enter Tryz.func132,Tryz.ntmps132
 go_wp2_with fail
 refine(Calls.mono HT.out ?_)
 rintro e w2 ⟨rfl,R2,M2,L2⟩
 clear HT
 by_cases h1:x<24
 ·have q1:=HS.out
  have q2:=HL.out
  rw[if_pos h1]at q1 q2
  subst q1 q2
  have HR:Hid (_):=R2
  clear HS HL R2 HB7 HB8
  go_wp2
  go_ret
  exact⟨by go_num,HR.out,M2,L2⟩
 ·have q1:=HS.out
  have q2:=HL.out
  rw[if_neg h1]at q1 q2
  have HQ1:Hid (_):=q1
  have HQ2:Hid (_):=q2
  have HC:Hid (_):=HB7.out w2 R2
  clear HS HL R2 q1 q2 HB7
  go_wp2_with fail
  refine(Calls.mono HC.out ?_)
  rintro e w3 ⟨rfl,R3,M3,L3⟩
  have M:=M2.trans M3
  have L:=L2.trans L3
  clear M2 M3 L2 L3 HC
  by_cases h2:2*x+b7<192
  ·have q1:=HQ1.out
   have q2:=HQ2.out
   rw[if_pos h2]at q1
   rw[if_pos (by omega)]at q2
   subst q1 q2
   have HR:Hid (_):=R3
   clear HQ1 HQ2 R3 HB8
   go_wp2
   go_ret
   exact⟨by go_num,HR.out,M,L⟩
  ·by_cases h3:2*x+b7<200
   ·have q1:=HQ1.out
    have q2:=HQ2.out
    rw[if_neg h2,if_pos h3]at q1
    rw[if_pos h3]at q2
    subst q1 q2
    have HR:Hid (_):=R3
    clear HQ1 HQ2 R3 HB8
    go_wp2
    go_ret
    exact⟨by go_num,HR.out,M,L⟩
   ·have q1:=HQ1.out
    have q2:=HQ2.out
    rw[if_neg h2,if_neg h3]at q1
    rw[if_neg h3]at q2
    subst q1 q2
    have HC:Hid (_):=HB8.out w3 R3
    clear HQ1 HQ2 R3 HB8
    go_wp2_with fail
    refine(Calls.mono HC.out ?_)
    rintro e w4 ⟨rfl,R4,M4,L4⟩
    have HR:Hid (_):=R4
    have M5:=M.trans M4
    have L5:=L.trans L4
    clear R4 M4 L4 M L HC
    go_wp2
    go_ret
    exact⟨by go_num,HR.out,M5,L5⟩

end Pk
end Go.Proofs.YtcjgkmhpeedhiaaGreatDoor

/- Contracts of the model's lengths and ways back, off their codes. -/
namespace Go.Proofs.YtcjgkmhpeedhiaaGreatDoor
namespace Pk
open Go.ChangeShapes Go.WideShapes Go.ChangeAt Go.RowKit
set_option linter.unusedSimpArgs false
set_option linter.unusedVariables false

abbrev ii2 (a b:Int):Value:= .tuple #[.int .i64 a,.int .i64 b]

set_option maxRecDepth 100000 in
theorem len_hit:∀n,n<255→Math.codeX 2 n=0→Math.cleast 4 (Math.codeC 2 n)=n∧Math.cbits 4 (Math.codeC 2 n)=Math.nbits 2 n:=by decide+kernel

set_option maxRecDepth 100000 in
theorem len_there:∀k,k<28→Math.cleast 4 k<255∧Math.codeC 2 (Math.cleast 4 k)=k∧Math.codeX 2 (Math.cleast 4 k)=0∧Math.cbits 4 k≤5:=by decide+kernel

theorem backBits_val (k:Nat) (w:World) (hk:k≤40):
 Calls Tryz.prog 151 #[.int .i64 k] w fun e w'=>e= .returned (.int .i64 (Math.cbits 2 k))∧w'=w:=by
 have HC:Hid (Math.cbits 2 k=k/2-1):=rfl
 generalize Math.cbits 2 k=C at*
 by_cases h:k<4
 ·obtain rfl:C=0:=by have:=HC.out;omega
  clear HC
  go_enter Tryz.func151,Tryz.ntmps151
  go_wp2
  go_ret
  exact⟨rfl,rfl⟩
 ·have h1:((k:Int)-2)/2=C:=by have:=HC.out;omega
  have h2:Int.tdiv ((k:Int)-2) 2=C:=by rw[Int.tdiv_eq_ediv_of_nonneg (by omega)];exact h1
  have hC:C≤40:=by have:=HC.out;omega
  clear HC
  go_enter Tryz.func151,Tryz.ntmps151
  go_wp2
  go_ret
  exact⟨by go_num,rfl⟩

set_option maxHeartbeats 1000000 in
theorem backOf_val (k:Nat) (w:World) (hk:k≤29):
 Calls Tryz.prog 135 #[.int .i64 k] w fun e w'=>e= .returned (ii2 ((Math.cleast 2 k:Nat)+1) (Math.cbits 2 k:Nat))∧w'=w:=by
 go_enter Tryz.func135,Tryz.ntmps135
 go_wp2
 go_loopw [4,5] (fun x i wr=>∃(j y:Nat),j≤k∧y<1099511627776∧x= .int .i64 ((y:Int)+1)∧i= .int .i64 j∧Hid (y=Math.cleast 2 j)∧wr=w) (fun _ i _=>k-(intOf i).toNat)
 case atStart=>exact⟨0,0,by omega,by omega,by go_num,rfl,rfl,rfl⟩
 case round=>
  obtain⟨j,y,hj,hy,rfl,rfl,HY,rfl⟩:=hrel
  by_cases hjk:j<k
  ·have HN:Hid (Math.cleast 2 (j+1)=y+p2 (Math.cbits 2 j)):=by show _=_;rw[HY.out];exact Math.cleast_succ 2 j (by omega)
   have hc:Math.cbits 2 j≤15:=by unfold Math.cbits;omega
   have HB:Hid (_):=backBits_val j wr (by omega)
   have HP:Hid (_):=pow2_val (Math.cbits 2 j) wr (by omega)
   have hlt:y+p2 (Math.cbits 2 j)<1099511627776:=by
    rw[←HN.out]
    have h9:∀q,q<31→Math.cleast 2 q<1099511627776:=by decide+kernel
    exact h9 _ (by omega)
   generalize p2 (Math.cbits 2 j)=Q at*
   generalize Math.cbits 2 j=C at*
   go_wp2_with fail
   refine(Calls.mono HB.out ?_)
   rintro e w2 ⟨rfl,rfl⟩
   go_wp2_with fail
   refine(Calls.mono HP.out ?_)
   rintro e w2 ⟨rfl,rfl⟩
   go_wp2
   go_roundw
   case rel=>exact⟨j+1,y+Q,by omega,by omega,by go_num,by go_num,HN.out.symm,by first|rfl|trivial⟩
   case measure=>simp[intOf];omega
  ·obtain rfl:j=k:=by omega
   have HB:Hid (_):=backBits_val j wr (by omega)
   have HE:Hid (∃C,Math.cbits 2 j=C∧C≤40):=⟨_,rfl,by unfold Math.cbits;omega⟩
   obtain⟨C,hC,hC4⟩:=HE.out
   rw[hC]at HB
   have HD:Hid (_):=hC
   clear hC HE
   go_wp2_with fail
   refine(Calls.mono HB.out ?_)
   rintro e w2 ⟨rfl,rfl⟩
   go_wp2
   go_ret2
   exact⟨by rw[←HY.out,HD.out]<;>rfl,rfl⟩

set_option maxHeartbeats 1000000 in
theorem lenOf_last (w:World):
 Calls Tryz.prog 133 #[.int .i64 285] w fun e w'=>e= .returned (ii2 258 0)∧w'=w:=by
 go_enter Tryz.func133,Tryz.ntmps133
 go_wp2
 go_ret2
 exact⟨rfl,rfl⟩

set_option maxRecDepth 100000 in
set_option maxHeartbeats 1000000 in
theorem lenOf_val (k:Nat) (w:World) (hk:k<28):
 Calls Tryz.prog 133 #[.int .i64 ((k:Int)+257)] w fun e w'=>e= .returned (ii2 ((Math.cleast 4 k:Nat)+3) (Math.cbits 4 k:Nat))∧w'=w:=by
 have hne:((k:Int)+257==285)=false:=by rw[beq_eq_false_iff_ne];omega
 obtain⟨hl,HC,HX,hb⟩:=len_there k hk
 have HCC:Hid (Math.codeC 2 (Math.cleast 4 k)=k∧Math.codeX 2 (Math.cleast 4 k)=0):=⟨HC,HX⟩
 clear HC HX
 go_enter Tryz.func133,Tryz.ntmps133
 go_wp2
 go_loopw [4] (fun i wr=>∃(j:Nat),j≤Math.cleast 4 k∧i= .int .i64 ((j:Int)+3)∧wr=w) (fun i _=>300-(intOf i).toNat)
 case atStart=>exact⟨0,by omega,by go_num,rfl⟩
 case round=>
  obtain⟨j,hj,rfl,rfl⟩:=hrel
  have HV:Hid (_):=specLen_val ((j:Int)+3) wr
  obtain⟨q1,q2,q3⟩:=len_yes j (by omega)
  rw[q1,q2,q3,Int.add_comm 257]at HV
  clear q1 q2 q3
  have hj5:(j:Int)+3<258:=by omega
  have HH:Hid (_):=len_hit j (by omega)
  have hnb:Math.nbits 2 j≤100:=by unfold Math.nbits;have:=blen_bd j 8 (by omega);omega
  by_cases hx:Math.codeC 2 j=k∧Math.codeX 2 j=0
  ·obtain⟨h1,h2⟩:=hx
   have h3:=HH.out h2
   rw[h1]at h3
   rw[h1,h2]at HV
   have HD:Hid (_):=h3
   clear h3 HH HCC hj hl hb h1 h2
   generalize Math.nbits 2 j=nb at*
   go_wp2_with fail
   refine(Calls.mono HV.out ?_)
   rintro e w2 ⟨rfl,rfl⟩
   go_wp2
   go_ret2
   exact⟨by rw[HD.out.1,HD.out.2]<;>rfl,rfl⟩
  ·have hjk:j<Math.cleast 4 k:=by
    apply Classical.byContradiction
    intro hn
    have:j=Math.cleast 4 k:=by omega
    subst this
    exact hx HCC.out
   clear HH
   generalize Math.nbits 2 j=nb at*
   generalize Math.codeC 2 j=C at*
   generalize Math.codeX 2 j=X at*
   generalize Math.cleast 4 k=T at*
   by_cases h1:C=k
   ·have h2:¬((X:Int)=0):=by omega
    have h2':((X:Int)==0)=false:=by simpa using h2
    subst h1
    clear HCC
    go_wp2_with fail
    refine(Calls.mono HV.out ?_)
    rintro e w2 ⟨rfl,rfl⟩
    go_wp2
    go_roundw
    case rel=>exact⟨j+1,by omega,by go_num,by first|rfl|trivial⟩
    case measure=>simp[intOf];omega
   ·have h2:¬(257+(C:Int)=(k:Int)+257):=by omega
    have h2':((C:Int)+257==(k:Int)+257)=false:=by rw[beq_eq_false_iff_ne];omega
    have h3':((C:Int)==(k:Int))=false:=by rw[beq_eq_false_iff_ne];omega
    have h4':¬((C:Int)=(k:Int)):=by omega
    have h5':¬((C:Int)+257=(k:Int)+257):=by omega
    clear HCC
    go_wp2_with fail
    refine(Calls.mono HV.out ?_)
    rintro e w2 ⟨rfl,rfl⟩
    go_wp2
    go_roundw
    case rel=>exact⟨j+1,by omega,by go_num,by first|rfl|trivial⟩
    case measure=>simp[intOf];omega

end Pk
end Go.Proofs.YtcjgkmhpeedhiaaGreatDoor

/- The contract of the model's reader of a stored block. -/
namespace Go.Proofs.YtcjgkmhpeedhiaaGreatDoor
namespace Math

def storedC (s:ByteArray):Nat:=if s.size<5 then 1 else if lowAt s 8 16+lowAt s 24 16≠65535 then 3 else if 3000<lowAt s 8 16 then 5 else if s.size<lowAt s 8 16+5 then 1 else 0

def storedT (s:ByteArray):ByteArray:=if storedC s=0 then s.extract 5 (5+lowAt s 8 16)else⟨#[]⟩

end Math
namespace Pk
open Go.ChangeShapes Go.WideShapes Go.ChangeAt Go.RowKit
open Math (bitAt lowAt topAt symAt symLen storedC storedT)
set_option linter.unusedSimpArgs false
set_option linter.unusedVariables false

set_option maxRecDepth 100000 in
set_option maxHeartbeats 1000000 in
theorem storedS_val (B c:Nat) (s:ByteArray) (w:World) (hs1:1≤s.size) (hs:s.size≤100000) (H:RdS B c s 3 w):
 Calls Tryz.prog 115 #[.pointer (some ⟨c,0,none⟩)] w fun e w'=>e= .returned (.tuple #[.string (storedT s),.int .i64 (storedC s)])∧(storedC s=0→RdS B c s (40+8*lowAt s 8 16) w')∧Mv c w w'∧Below B w w':=by
 go_enter Tryz.func115,Tryz.ntmps115
 go_wp2
 go_loopw [] (fun wr=>∃(q:Nat),3≤q∧q≤8∧RdS B c s q wr∧Mv c w wr∧Below B w wr) (fun wr=>8-(intOf ((wr.cell? ⟨c,1,none⟩).getD undef)).toNat)
 case atStart=>exact⟨3,by omega,by omega,H,Mv.refl _ _,Below.refl _ _⟩
 case round=>
  obtain⟨q,hq3,hq8,R,M,L⟩:=hrel
  have hB:=R.1
  have m:=R.2
  rw[show min q (8*s.size)=q by omega,decide_eq_false (show ¬8*s.size<q by omega)]at m
  have c0:wr.cell? ⟨c,0,none⟩=some (.string s):=cell_at m 0
  have c1:wr.cell? ⟨c,1,none⟩=some (.int .i64 (q:Int)):=cell_at m 1
  have f1:=frozen_at m 1
  have HM:Hid (_):=m
  have HR:Hid (_):=R
  clear m R
  by_cases h8:q<8
  ·have hm:Int.tmod (q:Int) 8=(q:Int):=by rw[Int.tmod_eq_emod_of_nonneg (by omega)];omega
   have hm2:(q:Int)%8=q:=by omega
   have hq0:((q:Int) !=0)=true:=by simp;omega
   have hq0':¬((q:Int)=0):=by omega
   have HW:Hid (RdS B c s (q+1) (wr.setCell ⟨c,1,none⟩ (.int .i64 ((q:Int)+1)))):=by
    refine⟨hB,?_⟩
    rw[show min (q+1) (8*s.size)=q+1 by omega,decide_eq_false (show ¬8*s.size<q+1 by omega)]
    exact hp_set (w:=wr) (i:=1) HM.out (.int .i64 ((q:Int)+1))
   go_wp2
   go_roundw
   case rel=>exact⟨q+1,by omega,by omega,HW.out,M.trans (Mv.set c 1 _ _),L.setCell hB _⟩
   case measure=>
    have h9:=cell_at HW.out.2 1
    rw[show min (q+1) (8*s.size)=q+1 by omega]at h9
    rw[c1]
    have h9':(wr.setCell ⟨c,1,none⟩ (.int .i64 ((q:Int)+1))).cell? ⟨c,1,none⟩=some (.int .i64 ((q+1:Nat):Int)):=h9
    simp only[h9',Option.getD_some,intOf]
    omega
  ·obtain rfl:q=8:=by omega
   clear c0 c1 f1 HM hq3 hq8 h8
   have hn1:=Math.lowAt_lt s 8 16
   have hn2:=Math.lowAt_lt s 24 16
   have HN1:Hid (_):=numS_val B c s 8 16 wr hs (by omega) (by omega) HR.out
   have HN2:Hid (∀w,RdS B c s (8+16) w→_):=fun w=>numS_val B c s 24 16 w hs (by omega) (by omega)
   have HC:Hid (storedC s=if s.size<5 then 1 else if lowAt s 8 16+lowAt s 24 16≠65535 then 3 else if 3000<lowAt s 8 16 then 5 else if s.size<lowAt s 8 16+5 then 1 else 0):=rfl
   have HT:Hid (storedT s=if storedC s=0 then s.extract 5 (5+lowAt s 8 16)else⟨#[]⟩):=rfl
   have HF:Hid (∃n t,lowAt s 8 16=n∧lowAt s 24 16=t):=⟨_,_,rfl,rfl⟩
   obtain⟨n,t,hn,ht⟩:=HF.out
   rw[hn]at hn1 HN1 HC HT
   rw[ht]at hn2 HN2 HC
   have HNE:Hid (_):=hn
   have cc1:wr.cell? ⟨c,1,none⟩=some (.int .i64 8):=by
    have h9:=cell_at HR.out.2 1
    rw[show min 8 (8*s.size)=8 by omega]at h9
    exact h9
   clear hn ht HF HR
   have hn1':n<65536:=hn1
   have hn2':t<65536:=hn2
   clear hn1 hn2
   go_wp2_with fail
   refine(Calls.mono HN1.out ?_)
   rintro e w2 ⟨rfl,R2,M2,L2⟩
   have M3:=M.trans M2
   have L3:=L.trans L2
   have HV:Hid (_):=HN2.out w2 R2
   clear R2 M2 L2 M L HN1 HN2 cc1
   go_wp2_with fail
   refine(Calls.mono HV.out ?_)
   rintro e w4 ⟨rfl,R4,M4,L4⟩
   have M:=M3.trans M4
   have L:=L3.trans L4
   have m:=R4.2
   clear M3 M4 L3 L4 HV R4
   by_cases h5:s.size<5
   ·rw[show(24+16:Nat)=40 from rfl,decide_eq_true (show 8*s.size<40 by omega)]at m
    have c2:w4.cell? ⟨c,2,none⟩=some (.bool true):=cell_at m 2
    have HD:=HC.out
    rw[if_pos h5]at HD
    have HE:=HT.out
    rw[HD,if_neg (by decide)]at HE
    have HQ:Hid (storedC s=1∧storedT s=⟨#[]⟩):=⟨HD,HE⟩
    clear HD HE HC HT m
    go_wp2
    go_ret2
    exact⟨by rw[HQ.out.1,HQ.out.2]<;>rfl,fun h=>absurd (HQ.out.1.symm.trans h) (by decide),M,L⟩
   rw[show(24+16:Nat)=40 from rfl,decide_eq_false (show ¬8*s.size<40 by omega),show min 40 (8*s.size)=40 by omega]at m
   have c0:w4.cell? ⟨c,0,none⟩=some (.string s):=cell_at m 0
   have c1:w4.cell? ⟨c,1,none⟩=some (.int .i64 40):=cell_at m 1
   have c2:w4.cell? ⟨c,2,none⟩=some (.bool false):=cell_at m 2
   have f1:=frozen_at m 1
   have HM:Hid (_):=m
   clear m
   rw[if_neg h5]at HC
   by_cases h6:n+t≠65535
   ·have HD:=HC.out
    rw[if_pos h6]at HD
    have HE:=HT.out
    rw[HD,if_neg (by decide)]at HE
    have HQ:Hid (storedC s=3∧storedT s=⟨#[]⟩):=⟨HD,HE⟩
    have h6':((n:Int)+(t:Int) !=65535)=true:=by rw[bne_iff_ne];omega
    have h6'':¬((n:Int)+(t:Int)=65535):=by omega
    clear HD HE HC HT
    go_wp2
    go_ret2
    exact⟨by rw[HQ.out.1,HQ.out.2]<;>rfl,fun h=>absurd (HQ.out.1.symm.trans h) (by decide),M,L⟩
   rw[if_neg h6]at HC
   have h6':(n:Int)+(t:Int)=65535:=by omega
   by_cases h7:3000<n
   ·have HD:=HC.out
    rw[if_pos h7]at HD
    have HE:=HT.out
    rw[HD,if_neg (by decide)]at HE
    have HQ:Hid (storedC s=5∧storedT s=⟨#[]⟩):=⟨HD,HE⟩
    clear HD HE HC HT
    go_wp2
    go_ret2
    exact⟨by rw[HQ.out.1,HQ.out.2]<;>rfl,fun h=>absurd (HQ.out.1.symm.trans h) (by decide),M,L⟩
   rw[if_neg h7]at HC
   by_cases h9:s.size<n+5
   ·have HD:=HC.out
    rw[if_pos h9]at HD
    have HE:=HT.out
    rw[HD,if_neg (by decide)]at HE
    have HQ:Hid (storedC s=1∧storedT s=⟨#[]⟩):=⟨HD,HE⟩
    have h9':(s.size:Int)-5<(n:Int):=by omega
    clear HD HE HC HT
    go_wp2
    go_quiet (fail)
    go_wp2
    go_ret2
    exact⟨by rw[HQ.out.1,HQ.out.2]<;>rfl,fun h=>absurd (HQ.out.1.symm.trans h) (by decide),M.drewN _,below_drewN L _⟩
   rw[if_neg h9]at HC
   have HE:=HT.out
   rw[HC.out,if_pos rfl]at HE
   have HQ:Hid (storedC s=0∧storedT s=s.extract 5 (5+n)):=⟨HC.out,HE⟩
   have h9':¬((s.size:Int)-5<(n:Int)):=by omega
   have h10:(5:Int)+(n:Int)≤(s.size:Int):=by omega
   have HW:Hid (∀q,RdS B c s (40+8*n) ((w4.drewN q).setCell ⟨c,1,none⟩ (.int .i64 (40+8*(n:Int))))):=by
    intro q
    refine⟨hB,?_⟩
    rw[show min (40+8*n) (8*s.size)=40+8*n by omega,decide_eq_false (show ¬8*s.size<40+8*n by omega)]
    exact hp_set (w:=w4.drewN q) (i:=1) HM.out (.int .i64 (40+8*(n:Int)))
   clear HE HC HT
   go_wp2
   go_quiet (fail)
   go_wp2
   go_ret2
   refine⟨?_,fun _=> ?_,(M.drewN _).trans (Mv.set c 1 _ _),(below_drewN L _).setCell hB _⟩
   ·rw[HQ.out.1,HQ.out.2]
    rfl
   ·rw[HNE.out]
    exact HW.out _

end Pk
end Go.Proofs.YtcjgkmhpeedhiaaGreatDoor

/- The mathematics of chapter 3: what a list of pieces makes up. -/
namespace Go.Proofs.YtcjgkmhpeedhiaaGreatDoor
namespace Math

structure Pc where
 x:Int
 n:Int
 d:Int

def copyN (l:List UInt8) (d:Nat):Nat→List UInt8
 |0=>l
 |n+1=>copyN l d n++ [(copyN l d n).getD ((copyN l d n).length-d) 0]

theorem copyN_length (l:List UInt8) (d n:Nat):(copyN l d n).length=l.length+n:=by
 induction n with
 |zero=>rfl
 |succ n ih=>rw[copyN,List.length_append,ih];rfl

def Pc.isB (p:Pc):Bool:=decide (p.n=0∧p.d=0∧0≤p.x∧p.x≤255)
def Pc.isC (p:Pc):Bool:=decide (p.x=0∧3≤p.n∧p.n≤258∧1≤p.d∧p.d≤1024)

def step (l:List UInt8) (p:Pc):Option (List UInt8):=
 if p.isB=true∧l.length<3000 then some (l++ [UInt8.ofNat p.x.toNat])
 else if p.isC=true∧p.d≤l.length∧l.length+p.n≤3000 then some (copyN l p.d.toNat p.n.toNat)
 else none

def wholeAt (ps:List Pc):Nat→Option (List UInt8)
 |0=>some []
 |k+1=>(wholeAt ps k).bind fun l=>step l (ps.getD k ⟨0,0,0⟩)

def wholeS (ps:List Pc):ByteArray:=⟨((wholeAt ps ps.length).getD []).toArray⟩
def wholeB (ps:List Pc):Bool:=(wholeAt ps ps.length).isSome

end Math
end Go.Proofs.YtcjgkmhpeedhiaaGreatDoor

/- The mathematics of chapter 3: a fixed block that is read. -/
namespace Go.Proofs.YtcjgkmhpeedhiaaGreatDoor
namespace Math

def lenBits (y:Nat):Nat:=if y=285 then 0 else cbits 4 (y-257)

def lenTold (s:ByteArray) (a y:Nat):Nat:=if y=285 then 258 else cleast 4 (y-257)+3+lowAt s a (cbits 4 (y-257))

def backTold (s:ByteArray) (a k:Nat):Nat:=cleast 2 k+1+lowAt s a (cbits 2 k)

def fixFrom (s:ByteArray):Nat→Nat→List UInt8→Nat×List UInt8×Nat
 |0,a,_=>(1,[],a)
 |f+1,a,out=>
  if 8*s.size<a+symLen s a then(1,[],a)
  else if symAt s a=256 then(0,out,a+symLen s a)
  else if symAt s a<256 then if 3000<out.length+1 then(5,[],a)else fixFrom s f (a+symLen s a) (out++ [UInt8.ofNat (symAt s a)])
  else if 285<symAt s a then(3,[],a)
  else if 8*s.size<a+symLen s a+lenBits (symAt s a)+5 then(1,[],a)
  else if 29<topAt s (a+symLen s a+lenBits (symAt s a)) 5 then(3,[],a)
  else if 8*s.size<a+symLen s a+lenBits (symAt s a)+5+cbits 2 (topAt s (a+symLen s a+lenBits (symAt s a)) 5)then(1,[],a)
  else if out.length<backTold s (a+symLen s a+lenBits (symAt s a)+5) (topAt s (a+symLen s a+lenBits (symAt s a)) 5)then(4,[],a)
  else if 3000<out.length+lenTold s (a+symLen s a) (symAt s a)then(5,[],a)
  else fixFrom s f (a+symLen s a+lenBits (symAt s a)+5+cbits 2 (topAt s (a+symLen s a+lenBits (symAt s a)) 5)) (copyN out (backTold s (a+symLen s a+lenBits (symAt s a)+5) (topAt s (a+symLen s a+lenBits (symAt s a)) 5)) (lenTold s (a+symLen s a) (symAt s a)))

theorem symLen_bd (s:ByteArray) (a:Nat):7≤symLen s a∧symLen s a≤9:=by
 unfold symLen
 split
 ·omega
 ·split<;>omega

theorem symAt_lt (s:ByteArray) (a:Nat):symAt s a<288:=by
 have h9:=topAt_lt s a 9
 unfold symAt
 split
 ·omega
 ·split
  ·omega
  ·split
   ·omega
   ·omega

end Math
end Go.Proofs.YtcjgkmhpeedhiaaGreatDoor

/- Contracts of Whole, of the program and of its model. -/
namespace Go.Proofs.YtcjgkmhpeedhiaaGreatDoor
namespace Pk
open Go.ChangeShapes Go.WideShapes Go.ChangeAt Go.RowKit
open Math (Pc)
set_option linter.unusedSimpArgs false
set_option linter.unusedVariables false

abbrev pcV (x n d:Int):Value:= .agg #[.int .i64 x,.int .i64 n,.int .i64 d]

def Pcs (w:World) (a:Option Addr) (ps:List Pc):Prop:=
 ps= []∨∃b o,a=some ⟨b,o,none⟩∧b<w.heap.size∧∀i (h:i<ps.length),w.cell? ⟨b,o+i*3,none⟩=some (.int .i64 ps[i].x)∧w.cell? ⟨b,o+i*3+1,none⟩=some (.int .i64 ps[i].n)∧w.cell? ⟨b,o+i*3+2,none⟩=some (.int .i64 ps[i].d)

theorem Pcs.on {w w1:World} {a:Option Addr} {ps:List Pc} (h:Pcs w a ps) (L:Below w.heap.size w w1):Pcs w1 a ps:=by
 rcases h with h|⟨b,o,ha,hb,hc⟩
 ·exact Or.inl h
 ·exact Or.inr ⟨b,o,ha,Nat.lt_of_lt_of_le hb L.size,fun i hi=>by rw[L.cell (p:=⟨b,o+i*3,none⟩) hb,L.cell (p:=⟨b,o+i*3+1,none⟩) hb,L.cell (p:=⟨b,o+i*3+2,none⟩) hb];exact hc i hi⟩

theorem Pcs.at {w:World} {a:Option Addr} {ps:List Pc} (h:Pcs w a ps) (k:Nat) (hk:k<ps.length):∃b o,a=some ⟨b,o,none⟩∧b<w.heap.size∧w.cell? ⟨b,o+k*3,none⟩=some (.int .i64 ps[k].x)∧w.cell? ⟨b,o+k*3+1,none⟩=some (.int .i64 ps[k].n)∧w.cell? ⟨b,o+k*3+2,none⟩=some (.int .i64 ps[k].d):=by
 rcases h with h|⟨b,o,ha,hb,hc⟩
 ·subst h;simp at hk
 ·exact⟨b,o,ha,hb,hc k hk⟩

theorem withCopy_val (B:Nat) (v:Value) (l:List UInt8) (n d:Nat) (w:World) (hB:B≤w.heap.size) (hown:w.ownsRow B 5 1 v l.length (bcells l)) (hd1:1≤d) (hd2:d≤l.length) (hl:l.length≤10000) (hn:n≤1000):
 Calls Tryz.prog 144 #[v,.int .i64 n,.int .i64 d] w fun e w'=>∃v',e= .returned v'∧w'.ownsRow B 5 1 v' (l.length+n) (bcells (Math.copyN l d n))∧Below B w w':=by
 obtain⟨i0,hi,hz0,hz1,hz2⟩:=info_of info_u8
 go_enter Tryz.func144,Tryz.ntmps144
 go_wp2
 go_loopw [0,8] (fun v i wr=>∃(k:Nat),k≤n∧i= .int .i64 k∧wr.ownsRow B 5 1 v (l.length+k) (bcells (Math.copyN l d k))∧Below B w wr) (fun _ i _=>n-(intOf i).toNat)
 case atStart=>exact⟨0,by omega,rfl,hown,Below.refl _ _⟩
 case round=>
  obtain⟨k,hk,rfl,hown,L⟩:=hrel
  by_cases hkn:k<n
  ·have hlen:(Math.copyN l d k).length=l.length+k:=Math.copyN_length l d k
   obtain⟨g,cap,rfl,hg1,hg2,u,hu,hc⟩:=own_at hown (l.length+k-d) (by omega)
   rw[bcells_at _ _ (by omega)]at hu
   simp only[Option.some.injEq]at hu
   subst hu
   have hgd:(Math.copyN l d k)[l.length+k-d]'(by omega)=(Math.copyN l d k).getD ((Math.copyN l d k).length-d) 0:=by
    rw[List.getD_eq_getElem?_getD,show(Math.copyN l d k).length-d=l.length+k-d by omega,List.getElem?_eq_getElem (by omega)]
    rfl
   rw[hgd]at hc
   have HS:Hid (bcells (Math.copyN l d k)++ [.int .u8 (((Math.copyN l d k).getD ((Math.copyN l d k).length-d) 0).toNat:Int)]=bcells (Math.copyN l d (k+1))):=bcells_snoc (Math.copyN l d k) ((Math.copyN l d k).getD ((Math.copyN l d k).length-d) 0)
   clear hgd
   generalize (Math.copyN l d k).getD ((Math.copyN l d k).length-d) 0=b at*
   have hb:=b.toNat_lt
   have hBr:B≤wr.heap.size:=Nat.le_trans hB L.size
   have e1:((l.length:Int)+k-d)=((l.length+k-d:Nat):Int):=by omega
   generalize l.length+k-d=j at*
   go_wp2_with (at_builtin;refine wpList_append_own _ rfl _ _ 22 rfl B 5 i0 (.int .u8 0) 1 1 Tryz.underlying22 hi hz0 hz1 hz2 rfl (by decide) _ _ _ rfl (hown.alloc _) ⟨wr.heap.size,0,none⟩ 1 1 [.int .u8 b.toNat] rfl rfl ?c1 ?c2 ?c3 ?c4 ?c5 ?_)
   case c1=>exact cell_one_new _ _ _
   case c2=>intro u hu;simp at hu;subst hu;rfl
   case c3=>unfold maxLen;omega
   case c4=>omega
   case c5=>simp;omega
   ·intro v' w3 hown3 hgrow _
    have L3:Below B w w3:=(L.alloc hBr _).grown hgrow (by simp;omega) (fun m h=>own_ge hown m h)
    rw[HS.out]at hown3
    clear hown hgrow hc
    go_wp2
    go_roundw
    case rel=>exact⟨k+1,by omega,by go_num,hown3,L3⟩
    case measure=>simp[intOf];omega
  ·obtain rfl:k=n:=by omega
   go_wp2
   go_ret
   exact⟨_,rfl,hown,L⟩

abbrev t2 (s:ByteArray) (b:Bool):Value:= .tuple #[.string s,.bool b]

end Pk
end Go.Proofs.YtcjgkmhpeedhiaaGreatDoor

/- The contract of the model's reader of a fixed block. -/
namespace Go.Proofs.YtcjgkmhpeedhiaaGreatDoor
namespace Math

def lenLeast (y:Nat):Nat:=if y=285 then 258 else cleast 4 (y-257)+3

theorem lenTold_is (s:ByteArray) (a y:Nat):lenTold s a y=lenLeast y+lowAt s a (lenBits y):=by
 unfold lenTold lenLeast lenBits
 split
 ·rfl
 ·rfl

end Math
namespace Pk
open Go.ChangeShapes Go.WideShapes Go.ChangeAt Go.RowKit
open Math (bitAt lowAt topAt symAt symLen fixFrom lenBits lenLeast backTold lenTold)
set_option linter.unusedSimpArgs false
set_option linter.unusedVariables false

theorem lenOf_any (y:Nat) (w:World) (h1:257≤y) (h2:y≤285):
 Calls Tryz.prog 133 #[.int .i64 y] w fun e w'=>e= .returned (ii2 (lenLeast y:Nat) (lenBits y:Nat))∧w'=w:=by
 by_cases h:y=285
 ·subst h
  exact lenOf_last w
 ·obtain⟨k,rfl⟩:∃k,y=k+257:=⟨y-257,by omega⟩
  have h3:=lenOf_val k w (by omega)
  unfold lenLeast lenBits
  rw[if_neg h,if_neg h,show k+257-257=k by omega]
  exact h3

theorem len_bds (y:Nat) (h1:257≤y) (h2:y≤285):lenLeast y≤258∧lenBits y≤5:=by
 unfold lenLeast lenBits
 split
 ·omega
 ·have:=len_there (y-257) (by omega)
  omega

end Pk
end Go.Proofs.YtcjgkmhpeedhiaaGreatDoor

/- A fixed block that is read, one step at a time: the mathematics. -/
namespace Go.Proofs.YtcjgkmhpeedhiaaGreatDoor
namespace Math

variable {s:ByteArray} {g a:Nat} {out:List UInt8}

theorem fix_cut (h:8*s.size<a+symLen s a):fixFrom s (g+1) a out=(1,[],a):=by rw[fixFrom,if_pos h]

theorem fix_end (h:¬8*s.size<a+symLen s a) (h2:symAt s a=256):fixFrom s (g+1) a out=(0,out,a+symLen s a):=by rw[fixFrom,if_neg h,if_pos h2]

theorem fix_full (h:¬8*s.size<a+symLen s a) (h2:symAt s a<256) (h3:3000<out.length+1):fixFrom s (g+1) a out=(5,[],a):=by rw[fixFrom,if_neg h,if_neg (by omega),if_pos h2,if_pos h3]

theorem fix_byte (h:¬8*s.size<a+symLen s a) (h2:symAt s a<256) (h3:¬3000<out.length+1):fixFrom s (g+1) a out=fixFrom s g (a+symLen s a) (out++ [UInt8.ofNat (symAt s a)]):=by rw[fixFrom,if_neg h,if_neg (by omega),if_pos h2,if_neg h3]

theorem fix_sym (h:¬8*s.size<a+symLen s a) (h2:285<symAt s a):fixFrom s (g+1) a out=(3,[],a):=by rw[fixFrom,if_neg h,if_neg (by omega),if_neg (by omega),if_pos h2]

def p1 (s:ByteArray) (a:Nat):Nat:=a+symLen s a+lenBits (symAt s a)
def bk (s:ByteArray) (a:Nat):Nat:=topAt s (p1 s a) 5
def p2' (s:ByteArray) (a:Nat):Nat:=p1 s a+5+cbits 2 (bk s a)
def dd (s:ByteArray) (a:Nat):Nat:=backTold s (p1 s a+5) (bk s a)
def nn (s:ByteArray) (a:Nat):Nat:=lenTold s (a+symLen s a) (symAt s a)

theorem fix_cut2 (h:¬8*s.size<a+symLen s a) (h2:256<symAt s a) (h3:symAt s a≤285) (h4:8*s.size<p1 s a+5):fixFrom s (g+1) a out=(1,[],a):=by
 unfold p1 at h4
 rw[fixFrom,if_neg h,if_neg (by omega),if_neg (by omega),if_neg (by omega),if_pos h4]

theorem fix_sym2 (h:¬8*s.size<a+symLen s a) (h2:256<symAt s a) (h3:symAt s a≤285) (h4:¬8*s.size<p1 s a+5) (h5:29<bk s a):fixFrom s (g+1) a out=(3,[],a):=by
 unfold bk p1 at h5
 unfold p1 at h4
 rw[fixFrom,if_neg h,if_neg (by omega),if_neg (by omega),if_neg (by omega),if_neg h4,if_pos h5]

theorem fix_cut3 (h:¬8*s.size<a+symLen s a) (h2:256<symAt s a) (h3:symAt s a≤285) (h4:¬8*s.size<p1 s a+5) (h5:¬29<bk s a) (h6:8*s.size<p2' s a):fixFrom s (g+1) a out=(1,[],a):=by
 unfold p2' bk p1 at h6
 unfold bk p1 at h5
 unfold p1 at h4
 rw[fixFrom,if_neg h,if_neg (by omega),if_neg (by omega),if_neg (by omega),if_neg h4,if_neg h5,if_pos h6]

theorem fix_back (h:¬8*s.size<a+symLen s a) (h2:256<symAt s a) (h3:symAt s a≤285) (h4:¬8*s.size<p1 s a+5) (h5:¬29<bk s a) (h6:¬8*s.size<p2' s a) (h7:out.length<dd s a):fixFrom s (g+1) a out=(4,[],a):=by
 unfold dd bk p1 at h7
 unfold p2' bk p1 at h6
 unfold bk p1 at h5
 unfold p1 at h4
 rw[fixFrom,if_neg h,if_neg (by omega),if_neg (by omega),if_neg (by omega),if_neg h4,if_neg h5,if_neg h6,if_pos h7]

theorem fix_long (h:¬8*s.size<a+symLen s a) (h2:256<symAt s a) (h3:symAt s a≤285) (h4:¬8*s.size<p1 s a+5) (h5:¬29<bk s a) (h6:¬8*s.size<p2' s a) (h7:¬out.length<dd s a) (h8:3000<out.length+nn s a):fixFrom s (g+1) a out=(5,[],a):=by
 unfold nn at h8
 unfold dd bk p1 at h7
 unfold p2' bk p1 at h6
 unfold bk p1 at h5
 unfold p1 at h4
 rw[fixFrom,if_neg h,if_neg (by omega),if_neg (by omega),if_neg (by omega),if_neg h4,if_neg h5,if_neg h6,if_neg h7,if_pos h8]

theorem fix_copy (h:¬8*s.size<a+symLen s a) (h2:256<symAt s a) (h3:symAt s a≤285) (h4:¬8*s.size<p1 s a+5) (h5:¬29<bk s a) (h6:¬8*s.size<p2' s a) (h7:¬out.length<dd s a) (h8:¬3000<out.length+nn s a):fixFrom s (g+1) a out=fixFrom s g (p2' s a) (copyN out (dd s a) (nn s a)):=by
 unfold nn dd p2' bk p1
 unfold nn at h8
 unfold dd bk p1 at h7
 unfold p2' bk p1 at h6
 unfold bk p1 at h5
 unfold p1 at h4
 rw[fixFrom,if_neg h,if_neg (by omega),if_neg (by omega),if_neg (by omega),if_neg h4,if_neg h5,if_neg h6,if_neg h7,if_neg h8]

theorem bk_lt (s:ByteArray) (a:Nat):bk s a<32:=topAt_lt s (p1 s a) 5

theorem nn_is (s:ByteArray) (a:Nat):nn s a=lenLeast (symAt s a)+lowAt s (a+symLen s a) (lenBits (symAt s a)):=lenTold_is _ _ _

theorem dd_is (s:ByteArray) (a:Nat):dd s a=cleast 2 (bk s a)+1+lowAt s (p1 s a+5) (cbits 2 (bk s a)):=rfl

theorem back_bds:∀k,k≤29→cleast 2 k≤40000∧cbits 2 k≤13:=by decide+kernel

end Math
end Go.Proofs.YtcjgkmhpeedhiaaGreatDoor

/- The contract of the model's reader of a fixed block. -/
namespace Go.Proofs.YtcjgkmhpeedhiaaGreatDoor
namespace Pk
open Go.ChangeShapes Go.WideShapes Go.ChangeAt Go.RowKit
open Math (bitAt lowAt topAt symAt symLen fixFrom lenBits lenLeast p1 bk p2' dd nn copyN)
set_option linter.unusedSimpArgs false
set_option linter.unusedVariables false

theorem own_len {w:World} {base e:Nat} {v:Value} {l:List UInt8} {b:UInt8} (h:w.ownsRow base e 1 v (l.length+1) (bcells (l++ [b]))):w.ownsRow base e 1 v (l++ [b]).length (bcells (l++ [b])):=by
 rw[show(l++ [b]).length=l.length+1 from by simp]
 exact h

set_option maxRecDepth 100000 in
set_option maxHeartbeats 8000000 in
theorem fixedS_val (B c:Nat) (s:ByteArray) (a0 F:Nat) (w:World) (hs:s.size≤100000) (hBc:B≤c) (hc:c<w.heap.size) (ha0:a0≤8*s.size) (hF:8*s.size<a0+7*F) (H:RdS B c s a0 w):
 Calls Tryz.prog 114 #[.pointer (some ⟨c,0,none⟩)] w fun e w'=>(∃code txt a',fixFrom s F a0 []=(code,txt,a')∧e= .returned (.tuple #[.string ⟨txt.toArray⟩,.int .i64 (code:Nat)])∧(code=0→RdS B c s a' w'∧a'≤8*s.size))∧Below B w w':=by
 obtain⟨i0,hi,hz0,hz1,hz2⟩:=info_of info_u8
 have hBw:B≤w.heap.size:=by omega
 have hs0:(w.alloc (.cells #[] 5)).heap.size=w.heap.size+1:=Array.size_push ..
 go_enter Tryz.func114,Tryz.ntmps114
 go_wp2
 go_loopw [4] (fun v wr=>∃(a:Nat) (l:List UInt8) (f:Nat),a≤8*s.size∧l.length≤3000∧wr.ownsRow w.heap.size 5 1 v l.length (bcells l)∧Hid (Below B w wr)∧RdS B c s a wr∧8*s.size<a+7*f∧w.heap.size<wr.heap.size∧Hid (fixFrom s F a0 []=fixFrom s f a l)) (fun _ wr=>8*s.size+1-(intOf ((wr.cell? ⟨c,1,none⟩).getD undef)).toNat)
 case atStart=>exact⟨a0,[],F,ha0,by simp,⟨rfl,Or.inr ⟨w.heap.size,0,#[],rfl,Nat.le_refl _,heap_new w _,by simp,by unfold maxLen;omega,rfl,rfl⟩⟩,(Below.refl _ _).alloc (by omega) _,⟨hBc,heap_old H.2 _⟩,hF,by rw[hs0];omega,rfl⟩
 case round=>
  clear hs0 H hF
  obtain⟨a,l,f,hal,hl,hown,L,R,hf,hwr,HF⟩:=hrel
  obtain⟨g,rfl⟩:∃g,f=g+1:=⟨f-1,by omega⟩
  have hy:=Math.symAt_lt s a
  have hnl:=Math.symLen_bd s a
  have HS:Hid (∀_:Unit,_):=fun _=>symS_val B c s a wr hs (by omega) R
  have HA:Hid (_):=R
  obtain⟨va,vc,rfl,-⟩:=own_form hown
  have HMS:Hid (wr.cell? ⟨c,1,none⟩=some (.int .i64 ((min a (8*s.size):Nat):Int))):=cell_at R.2 1
  clear R
  obtain⟨y,hyy⟩:∃y,symAt s a=y:=⟨_,rfl⟩
  obtain⟨nl,hnn⟩:∃nl,symLen s a=nl:=⟨_,rfl⟩
  have HYY:Hid (symAt s a=y):=hyy
  have HNN:Hid (symLen s a=nl):=hnn
  rw[hyy,hnn]at HS
  rw[hyy]at hy
  rw[hnn]at hnl
  clear hyy hnn
  go_wp2_with fail
  refine(HS.out ()).mono ?_
  rintro e w2 ⟨rfl,R2,M2,L2⟩
  have hown2:=own_mv hown M2 HA.out.2 (by decide)
  have L3:=L.out.trans L2
  have HR2:Hid (_):=R2
  have c2:w2.cell? ⟨c,2,none⟩=some (.bool (decide (8*s.size<a+nl))):=cell_at R2.2 2
  have hw2:w.heap.size<w2.heap.size:=by rw[M2.1];exact hwr
  clear HS R2 M2 L2 L hown HA hwr
  by_cases hcut:8*s.size<a+nl
  ·have HX:Hid (_):=HF.out.trans (Math.fix_cut (by rw[HNN.out];exact hcut))
   rw[decide_eq_true hcut]at c2
   go_wp2
   go_ret2
   exact⟨⟨1,[],_,HX.out,rfl,fun h=>absurd h (by decide)⟩,L3⟩
  rw[decide_eq_false hcut]at c2
  by_cases h256:y=256
  ·have HX:Hid (_):=HF.out.trans (Math.fix_end (by rw[HNN.out];exact hcut) (by rw[HYY.out];exact h256))
   subst h256
   have hconv:=conv_own hown2
   go_wp2
   go_ret2
   exact⟨⟨0,l,_,HX.out,rfl,fun _=>⟨by rw[HNN.out];exact HR2.out,by rw[HNN.out];omega⟩⟩,L3⟩
  have h256I:¬(y:Int)=256:=by omega
  by_cases hlt:y<256
  ·have hltI:(y:Int)<256:=by omega
   have hwy:IntKind.u8.wrap (y:Int)=(y:Int):=by rw[IntKind.wrap_u8];omega
   have hBr:w.heap.size≤w2.heap.size:=by omega
   have HBY:Hid (((UInt8.ofNat y).toNat:Int)=(y:Int)):=by show((UInt8.ofNat y).toNat:Int)=(y:Int);rw[UInt8.toNat_ofNat'];omega
   go_wp2_with (at_builtin;refine wpList_append_own _ rfl _ _ 22 rfl w.heap.size 5 i0 (.int .u8 0) 1 1 Tryz.underlying22 hi hz0 hz1 hz2 rfl (by decide) _ _ _ rfl (hown2.alloc _) ⟨w2.heap.size,0,none⟩ 1 1 [.int .u8 (y:Int)] rfl rfl ?c1 ?c2 ?c3 ?c4 ?c5 ?_)
   case c1=>exact cell_one_new _ _ _
   case c2=>intro u hu;simp at hu;subst hu;rfl
   case c3=>unfold maxLen;omega
   case c4=>omega
   case c5=>simp;omega
   intro v' w3 hown3 hgrow _
   rw[←HBY.out,bcells_snoc]at hown3
   have m2:=heap_old HR2.out.2 (.cells #[.int .u8 (y:Int)] 5)
   have m3:w3.heap[c]? =_:=(hgrow.block c (lt_of m2) (own_ne (hown2.alloc _) m2 (by decide))).trans m2
   have L4:Below B w w3:=(L3.alloc (by omega) _).grown hgrow (by simp;omega) (fun m h=>Nat.le_trans hBw (own_ge hown2 m h))
   have hw3:w.heap.size<w3.heap.size:=Nat.lt_of_lt_of_le (by simp;omega) hgrow.size
   have c31:w3.cell? ⟨c,1,none⟩=some (.int .i64 ((min (a+nl) (8*s.size):Nat):Int)):=cell_at m3 1
   clear hgrow m2 hown2 c2
   by_cases hful:3000<l.length+1
   ·have HX:Hid (_):=HF.out.trans (Math.fix_full (by rw[HNN.out];exact hcut) (by rw[HYY.out];exact hlt) hful)
    obtain⟨va3,vc3,rfl,-⟩:=own_form hown3
    have hfI:(3000:Int)<(l.length:Int)+1:=by omega
    go_wp2
    go_ret2
    exact⟨⟨5,[],_,HX.out,rfl,fun h=>absurd h (by decide)⟩,L4⟩
   ·have HX:Hid (_):=HF.out.trans (Math.fix_byte (by rw[HNN.out];exact hcut) (by rw[HYY.out];exact hlt) hful)
    rw[HNN.out,HYY.out]at HX
    obtain⟨va3,vc3,rfl,-⟩:=own_form hown3
    have hfI:¬(3000:Int)<(l.length:Int)+1:=by omega
    have HSL:Hid (_):=own_len hown3
    go_wp2
    go_roundw
    case rel=>exact⟨a+nl,l++ [UInt8.ofNat y],g,by omega,by simp;omega,HSL.out,L4,⟨hBc,m3⟩,by omega,hw3,HX⟩
    case measure=>rw[c31,HMS.out];simp[intOf];omega
  have hltI:¬(y:Int)<256:=by omega
  by_cases h285:285<y
  ·have HX:Hid (_):=HF.out.trans (Math.fix_sym (by rw[HNN.out];exact hcut) (by rw[HYY.out];exact h285))
   have h285I:(285:Int)<(y:Int):=by omega
   go_wp2
   go_ret2
   exact⟨⟨3,[],_,HX.out,rfl,fun h=>absurd h (by decide)⟩,L3⟩
  have h285I:¬(285:Int)<(y:Int):=by omega
  have hy256:256<y:=by omega
  obtain⟨hlb1,hlb2⟩:=len_bds y (by omega) (by omega)
  have HLO:Hid (∀W,_):=fun W=>lenOf_any y W (by omega) (by omega)
  unfold ii2 at HLO
  have HN1:Hid (∀W,RdS B c s (a+nl) W→_):=fun W r=>numS_val B c s (a+nl) (lenBits y) W hs (by omega) (by omega) r
  have HP1:Hid (p1 s a=a+nl+lenBits y):=by show p1 s a=_;unfold p1;rw[HNN.out,HYY.out]
  have HTP:Hid (∀W,RdS B c s (a+nl+lenBits y) W→_):=fun W r=>topS_val B c s (a+nl+lenBits y) 5 W hs (by omega) (by omega) r
  have HBK:Hid (bk s a=topAt s (a+nl+lenBits y) 5):=by show bk s a=_;unfold bk;rw[HP1.out]
  have hbk:=Math.bk_lt s a
  rw[show((5:Nat):Int)=5 from rfl,←HBK.out]at HTP
  have hlo1:lowAt s (a+nl) (lenBits y)<32:=Nat.lt_of_lt_of_le (Math.lowAt_lt s (a+nl) (lenBits y)) (Nat.le_trans (Nat.pow_le_pow_right (by omega) hlb2) (by decide))
  have HNNN:Hid (nn s a=lenLeast y+lowAt s (a+nl) (lenBits y)):=by show nn s a=_;rw[Math.nn_is,HNN.out,HYY.out]
  have HG1:Hid (∀K,K≤29→∀W,_):=fun K hK W=>backOf_val K W hK
  unfold ii2 at HG1
  generalize lowAt s (a+nl) (lenBits y)=lo1 at*
  generalize hlbb:lenBits y=lb at*
  generalize lenLeast y=ll at*
  obtain⟨n,hn⟩:∃n,ll+lo1=n:=⟨_,rfl⟩
  have hnI:(ll:Int)+(lo1:Int)=(n:Int):=by omega
  rw[hn]at HNNN
  have hn290:n≤290:=by omega
  clear hn
  obtain⟨K,hKK⟩:∃K,bk s a=K:=⟨_,rfl⟩
  have HKK:Hid (bk s a=K):=hKK
  rw[hKK]at HTP HBK hbk
  clear hKK
  go_wp2_with fail
  refine(HLO.out _).mono ?_
  rintro e w3 ⟨rfl,hw3⟩
  have hw4:=hw3.symm
  subst hw4
  go_wp2_with fail
  refine(HN1.out _ HR2.out).mono ?_
  rintro e w4 ⟨rfl,R4,M4,L4⟩
  have hown4:=own_mv hown2 M4 HR2.out.2 (by decide)
  have K4:=L3.trans L4
  have hw4:w.heap.size<w4.heap.size:=by rw[M4.1];exact hw2
  have HR4:Hid (_):=R4
  clear R4 M4 L4 L3 hown2 HR2 c2 hw2 HLO HN1 hw3
  go_wp2_with fail
  refine(HTP.out _ HR4.out).mono ?_
  rintro e w5 ⟨rfl,R5,M5,L5⟩
  have hown5:=own_mv hown4 M5 HR4.out.2 (by decide)
  have K5:=K4.trans L5
  have hw5:w.heap.size<w5.heap.size:=by rw[M5.1];exact hw4
  have HR5:Hid (_):=R5
  have c5:w5.cell? ⟨c,2,none⟩=some (.bool (decide (8*s.size<a+nl+lb+5))):=cell_at R5.2 2
  clear R5 M5 L5 K4 hown4 HR4 hw4 HTP
  have hn1:Hid (¬8*s.size<a+symLen s a):=by show ¬_;rw[HNN.out];exact hcut
  have hn2:Hid (256<symAt s a):=by show _<_;rw[HYY.out];exact hy256
  have hn3:Hid (symAt s a≤285):=by show _≤_;rw[HYY.out];omega
  by_cases hcut2:8*s.size<a+nl+lb+5
  ·have HX:Hid (_):=HF.out.trans (Math.fix_cut2 hn1.out hn2.out hn3.out (by rw[HP1.out];exact hcut2))
   rw[decide_eq_true hcut2]at c5
   go_wp2
   go_ret2
   exact⟨⟨1,[],_,HX.out,rfl,fun h=>absurd h (by decide)⟩,K5⟩
  rw[decide_eq_false hcut2]at c5
  have hn4:Hid (¬8*s.size<p1 s a+5):=by show ¬_;rw[HP1.out];exact hcut2
  by_cases h29:29<K
  ·have HX:Hid (_):=HF.out.trans (Math.fix_sym2 hn1.out hn2.out hn3.out hn4.out (by rw[HKK.out];exact h29))
   have h29I:(29:Int)<(K:Int):=by omega
   go_wp2
   go_ret2
   exact⟨⟨3,[],_,HX.out,rfl,fun h=>absurd h (by decide)⟩,K5⟩
  have h29I:¬(29:Int)<(K:Int):=by omega
  have hn5:Hid (¬29<bk s a):=by show ¬_;rw[HKK.out];exact h29
  obtain⟨hcb1,hcb2⟩:=Math.back_bds K (by omega)
  have HBO:Hid (∀W,_):=fun W=>HG1.out K (by omega) W
  have HN2:Hid (∀W,RdS B c s (a+nl+lb+5) W→_):=fun W r=>numS_val B c s (a+nl+lb+5) (Math.cbits 2 K) W hs (by omega) (by omega) r
  have HP2:Hid (p2' s a=a+nl+lb+5+Math.cbits 2 K):=by show p2' s a=_;unfold p2';rw[HP1.out,HKK.out]
  have HDD:Hid (dd s a=Math.cleast 2 K+1+lowAt s (a+nl+lb+5) (Math.cbits 2 K)):=by show dd s a=_;rw[Math.dd_is,HKK.out,HP1.out]
  have hlo2:lowAt s (a+nl+lb+5) (Math.cbits 2 K)<8192:=Nat.lt_of_lt_of_le (Math.lowAt_lt s (a+nl+lb+5) (Math.cbits 2 K)) (Nat.le_trans (Nat.pow_le_pow_right (by omega) hcb2) (by decide))
  generalize lowAt s (a+nl+lb+5) (Math.cbits 2 K)=lo2 at*
  generalize Math.cbits 2 K=cb at*
  generalize Math.cleast 2 K=cl at*
  obtain⟨d,hd⟩:∃d,cl+1+lo2=d:=⟨_,rfl⟩
  have hdI:(cl:Int)+1+(lo2:Int)=(d:Int):=by omega
  rw[hd]at HDD
  have hd1:1≤d:=by omega
  have hd49:d≤50000:=by omega
  clear HG1 hd
  go_wp2_with fail
  refine(HBO.out _).mono ?_
  rintro e w6 ⟨rfl,hw6⟩
  have hw7:=hw6.symm
  subst hw7
  go_wp2_with fail
  refine(HN2.out _ HR5.out).mono ?_
  rintro e w6 ⟨rfl,R6,M6,L6⟩
  have hown6:=own_mv hown5 M6 HR5.out.2 (by decide)
  have K6:=K5.trans L6
  have hw6':w.heap.size<w6.heap.size:=by rw[M6.1];exact hw5
  have HR6:Hid (_):=R6
  have c6:w6.cell? ⟨c,2,none⟩=some (.bool (decide (8*s.size<a+nl+lb+5+cb))):=cell_at R6.2 2
  clear R6 M6 L6 K5 hown5 HR5 hw5 HBO HN2 hw6 c5
  by_cases hcut3:8*s.size<a+nl+lb+5+cb
  ·have HX:Hid (_):=HF.out.trans (Math.fix_cut3 hn1.out hn2.out hn3.out hn4.out hn5.out (by rw[HP2.out];exact hcut3))
   rw[decide_eq_true hcut3]at c6
   go_wp2
   go_ret2
   exact⟨⟨1,[],_,HX.out,rfl,fun h=>absurd h (by decide)⟩,K6⟩
  rw[decide_eq_false hcut3]at c6
  have hn6:Hid (¬8*s.size<p2' s a):=by show ¬_;rw[HP2.out];exact hcut3
  by_cases hbk2:l.length<d
  ·have HX:Hid (_):=HF.out.trans (Math.fix_back hn1.out hn2.out hn3.out hn4.out hn5.out hn6.out (by rw[HDD.out];exact hbk2))
   have hbI:(l.length:Int)<(d:Int):=by omega
   go_wp2
   go_ret2
   exact⟨⟨4,[],_,HX.out,rfl,fun h=>absurd h (by decide)⟩,K6⟩
  have hbI:¬(l.length:Int)<(d:Int):=by omega
  have hn7:Hid (¬l.length<dd s a):=by show ¬_;rw[HDD.out];exact hbk2
  by_cases hlg:3000<l.length+n
  ·have HX:Hid (_):=HF.out.trans (Math.fix_long hn1.out hn2.out hn3.out hn4.out hn5.out hn6.out hn7.out (by rw[HNNN.out];exact hlg))
   have hgI:(3000:Int)<(l.length:Int)+(n:Int):=by omega
   go_wp2
   go_ret2
   exact⟨⟨5,[],_,HX.out,rfl,fun h=>absurd h (by decide)⟩,K6⟩
  have hgI:¬(3000:Int)<(l.length:Int)+(n:Int):=by omega
  have HX:Hid (_):=HF.out.trans (Math.fix_copy hn1.out hn2.out hn3.out hn4.out hn5.out hn6.out hn7.out (by rw[HNNN.out];exact hlg))
  rw[HP2.out,HDD.out,HNNN.out]at HX
  have hdl:d≤l.length:=by omega
  have hn3k:l.length+n≤3000:=by omega
  have hgI2:¬(3000:Int)<(l.length:Int)+(n:Int):=by omega
  have hbI2:¬(l.length:Int)<(d:Int):=by omega
  clear hn1 hn2 hn3 hn4 hn5 hn6 hn7 HP1 HP2 HDD HNNN HKK HBK hbI hgI hlg hbk2
  have HLN:Hid (_):=Math.copyN_length l d
  have m6:=HR6.out.2
  have HNS:Hid (∀k,(copyN l d k).length=l.length+k):=fun k=>Math.copyN_length l d k
  generalize hN:l.length=N at*
  have c61:Hid (w6.cell? ⟨c,1,none⟩=some (.int .i64 ((min (a+nl+lb+5+cb) (8*s.size):Nat):Int))):=cell_at m6 1
  have hown6':w6.ownsRow w.heap.size 5 1 (.slice va N vc) (N+0) (bcells (copyN l d 0)):=hown6
  clear hown6 HLN
  have hdN:decide (N<d)=false:=decide_eq_false (by omega)
  go_wp2
  go_loopw [4,11] (fun v i wr2=>∃(j:Nat),j≤n∧i= .int .i64 j∧wr2.ownsRow w.heap.size 5 1 v (N+j) (bcells (copyN l d j))∧Hid (Below B w wr2)∧w.heap.size<wr2.heap.size∧wr2.heap[c]? =some (.cells #[.string s,.int .i64 ((min (a+nl+lb+5+cb) (8*s.size):Nat):Int),.bool (decide (8*s.size<a+nl+lb+5+cb))] 155)) (fun _ i _=>n-(intOf i).toNat)
  case atStart=>exact⟨0,by omega,rfl,hown6',K6,hw6',m6⟩
  case round=>
   clear hown6' K6 hw6' m6 c6 c61
   obtain⟨j,hj,rfl,hownj,Lj,hwj,mj⟩:=hrel
   have hlen:=HNS.out j
   have hBj:w.heap.size≤wr.heap.size:=by omega
   by_cases hjn:j<n
   ·have hne:=own_ne hownj mj (by decide)
    obtain⟨gg,cp,rfl,hg1,hg2,u,hu,hc⟩:=own_at hownj (N+j-d) (by omega)
    rw[bcells_at _ _ (by omega)]at hu
    simp only[Option.some.injEq]at hu
    subst hu
    have hgd:(copyN l d j)[N+j-d]'(by omega)=(copyN l d j).getD ((copyN l d j).length-d) 0:=by
     rw[List.getD_eq_getElem?_getD,show(copyN l d j).length-d=N+j-d by omega,List.getElem?_eq_getElem (by omega)]
     rfl
    rw[hgd]at hc
    have HSn:Hid (bcells (copyN l d j)++ [.int .u8 (((copyN l d j).getD ((copyN l d j).length-d) 0).toNat:Int)]=bcells (copyN l d (j+1))):=bcells_snoc (copyN l d j) ((copyN l d j).getD ((copyN l d j).length-d) 0)
    clear hgd
    generalize (copyN l d j).getD ((copyN l d j).length-d) 0=yb at*
    have hyb:=yb.toNat_lt
    have e1:((N:Int)+j-d)=((N+j-d:Nat):Int):=by omega
    have hjI:(j:Int)<(n:Int):=by omega
    have hqlt:N+j-d<N+j:=by omega
    generalize N+j-d=q at*
    have hqI:(q:Int)<(N:Int)+(j:Int):=by omega
    clear hlen
    go_wp2_with (at_builtin;refine wpList_append_own _ rfl _ _ 22 rfl w.heap.size 5 i0 (.int .u8 0) 1 1 Tryz.underlying22 hi hz0 hz1 hz2 rfl (by decide) _ _ _ rfl (hownj.alloc _) ⟨wr.heap.size,0,none⟩ 1 1 [.int .u8 yb.toNat] rfl rfl ?d1 ?d2 ?d3 ?d4 ?d5 ?_)
    case d1=>exact cell_one_new _ _ _
    case d2=>intro u hu;simp at hu;subst hu;rfl
    case d3=>unfold maxLen;omega
    case d4=>omega
    case d5=>simp;omega
    intro v' w3 hown3 hgrow _
    have L9:Below B w w3:=(Lj.out.alloc (by omega) _).grown hgrow (by simp;omega) (fun m h=>Nat.le_trans hBw (own_ge hownj m h))
    have m9:w3.heap[c]? =_:=(hgrow.block c (by have:=lt_of mj;simp;omega) hne).trans (heap_old mj _)
    have hw9:w.heap.size<w3.heap.size:=Nat.lt_of_lt_of_le (by simp;omega) hgrow.size
    rw[HSn.out]at hown3
    clear hownj hgrow hc mj hne
    go_wp2
    go_roundw
    case rel=>exact⟨j+1,by omega,by go_num,hown3,L9,hw9,m9⟩
    case measure=>simp[intOf];omega
   ·obtain rfl:j=n:=by omega
    have hjI:¬(j:Int)<(j:Int):=by omega
    have c91:wr.cell? ⟨c,1,none⟩=some (.int .i64 ((min (a+nl+lb+5+cb) (8*s.size):Nat):Int)):=cell_at mj 1
    go_wp2
    go_roundw
    case rel=>exact⟨a+nl+lb+5+cb,copyN l d j,g,by omega,by omega,by rw[hlen];exact hownj,Lj,⟨hBc,mj⟩,by omega,hwj,HX⟩
    case measure=>rw[c91,HMS.out];simp[intOf];omega

end Pk
end Go.Proofs.YtcjgkmhpeedhiaaGreatDoor

/- What Unpack answers; the contract of the model's Unpack. -/
namespace Go.Proofs.YtcjgkmhpeedhiaaGreatDoor
namespace Math

def rst (s:ByteArray):Nat→Nat→Nat
 |0,a=>if a<8*s.size then 6 else 0
 |n+1,a=>if a%8=0 then(if a<8*s.size then 6 else 0)else if bitAt s a=1 then 6 else rst s n (a+1)

theorem rst_end (s:ByteArray) (n a:Nat) (h:a%8=0):rst s n a=if a<8*s.size then 6 else 0:=by
 cases n with
 |zero=>rfl
 |succ n=>rw[rst,if_pos h]

def body (s:ByteArray):Nat×List UInt8×Nat:=if lowAt s 1 2=1 then fixFrom s (8*s.size+1) 3 []else(storedC s,(storedT s).data.toList,40+8*lowAt s 8 16)

def unpC (s:ByteArray):Nat:=if 6000<s.size then 5 else if s.size=0 then 1 else if bitAt s 0=0∨1<lowAt s 1 2 then 2 else if(body s).1≠0 then(body s).1 else rst s 8 (body s).2.2
def unpT (s:ByteArray):ByteArray:=if unpC s=0 then⟨(body s).2.1.toArray⟩else⟨#[]⟩

theorem unpT_no {s:ByteArray} (h:unpC s≠0):unpT s=⟨#[]⟩:=if_neg h
theorem unpT_yes {s:ByteArray} (h:unpC s=0):unpT s=⟨(body s).2.1.toArray⟩:=if_pos h

theorem unp_body {s:ByteArray} (h1:¬6000<s.size) (h2:¬s.size=0) (h3:¬(bitAt s 0=0∨1<lowAt s 1 2)) {code a:Nat} {txt:List UInt8} (hb:body s=(code,txt,a)):(code≠0→unpC s=code∧unpT s=⟨#[]⟩)∧(code=0→unpC s=rst s 8 a∧(unpC s=0→unpT s=⟨txt.toArray⟩)):=by
 have e:unpC s=if(body s).1≠0 then(body s).1 else rst s 8 (body s).2.2:=by unfold unpC;rw[if_neg h1,if_neg h2,if_neg h3]
 rw[hb]at e
 refine⟨fun hc=> ?_,fun hc=> ?_⟩
 ·rw[if_pos hc]at e
  exact⟨e,unpT_no (by rw[e];exact hc)⟩
 ·rw[if_neg (by simpa using hc)]at e
  exact⟨e,fun h=>by rw[unpT_yes h,hb]⟩

end Math
namespace Pk
open Go.ChangeShapes Go.WideShapes Go.ChangeAt Go.RowKit
open Math (bitAt lowAt topAt symAt symLen fixFrom storedC storedT rst body unpC unpT)
set_option linter.unusedSimpArgs false
set_option linter.unusedVariables false

set_option maxRecDepth 100000 in
set_option maxHeartbeats 4000000 in
theorem specUnpack_val (s:ByteArray) (w:World) (hm:s.size≤maxLen):
 Calls Tryz.prog 72 #[.string s] w fun e w'=>e= .returned (.tuple #[.string (unpT s),.int .i64 (unpC s:Nat)])∧Below w.heap.size w w':=by
 unfold maxLen at hm
 by_cases h6:6000<s.size
 ·have e1:unpC s=5:=by unfold unpC;rw[if_pos h6]
  rw[e1,Math.unpT_no (by rw[e1];decide)]
  have h6I:(6000:Int)<(s.size:Int):=by omega
  go_enter Tryz.func72,Tryz.ntmps72
  go_wp2
  go_ret2
  exact⟨rfl,Below.refl _ _⟩
 have h6I:¬(6000:Int)<(s.size:Int):=by omega
 have N0:=new_below w (.cells #[.string s,.int .i64 0,.bool false] 155)
 have m0:=heap_new w (.cells #[.string s,.int .i64 0,.bool false] 155)
 have hs0:(w.alloc (.cells #[.string s,.int .i64 0,.bool false] 155)).heap.size=w.heap.size+1:=Array.size_push ..
 have R0:RdS w.heap.size w.heap.size s 0 (w.alloc (.cells #[.string s,.int .i64 0,.bool false] 155)):=by
  refine⟨Nat.le_refl _,?_⟩
  rw[m0,Nat.min_eq_left (by omega),decide_eq_false (by omega)]
  rfl
 have HBV:Hid (∀_:Unit,_):=fun _=>bitS_val w.heap.size w.heap.size s 0 _ (by omega) (by omega) R0
 have HNV:Hid (∀W,RdS w.heap.size w.heap.size s 1 W→_):=fun W r=>numS_val w.heap.size w.heap.size s 1 2 W (by omega) (by omega) (by omega) r
 rw[show((2:Nat):Int)=2 from rfl]at HNV
 have hb0:=Math.bitAt_le s 0
 have hl2:lowAt s 1 2<4:=Math.lowAt_lt s 1 2
 by_cases hz:s.size=0
 ·have e1:unpC s=1:=by unfold unpC;rw[if_neg h6,if_pos hz]
  rw[e1,Math.unpT_no (by rw[e1];decide)]
  go_enter Tryz.func72,Tryz.ntmps72
  go_wp2_with fail
  refine(HBV.out ()).mono ?_
  generalize w.alloc (.cells #[.string s,.int .i64 0,.bool false] 155)=w0 at*
  rintro e w1 ⟨rfl,R1,M1,L1⟩
  have K1:=N0.trans L1
  go_wp2_with fail
  refine(HNV.out _ R1).mono ?_
  rintro e w2 ⟨rfl,R2,M2,L2⟩
  have K2:=K1.trans L2
  have c2:w2.cell? ⟨w.heap.size,2,none⟩=some (.bool true):=by
   have:=cell_at R2.2 2
   rw[decide_eq_true (show 8*s.size<1+2 by omega)]at this
   exact this
  go_wp2
  go_ret2
  exact⟨rfl,K2⟩
 by_cases hk:bitAt s 0=0∨1<lowAt s 1 2
 ·have e1:unpC s=2:=by unfold unpC;rw[if_neg h6,if_neg hz,if_pos hk]
  rw[e1,Math.unpT_no (by rw[e1];decide)]
  have HKK:Hid (_):=hk
  generalize bitAt s 0=b0 at*
  generalize lowAt s 1 2=kd at*
  clear hk
  by_cases hb1:b0=0
  ·subst hb1
   go_enter Tryz.func72,Tryz.ntmps72
   go_wp2_with fail
   refine(HBV.out ()).mono ?_
   generalize w.alloc (.cells #[.string s,.int .i64 0,.bool false] 155)=w0 at*
   rintro e w1 ⟨rfl,R1,M1,L1⟩
   have K1:=N0.trans L1
   go_wp2_with fail
   refine(HNV.out _ R1).mono ?_
   rintro e w2 ⟨rfl,R2,M2,L2⟩
   have K2:=K1.trans L2
   have c2:w2.cell? ⟨w.heap.size,2,none⟩=some (.bool false):=by
    have:=cell_at R2.2 2
    rw[decide_eq_false (show ¬8*s.size<1+2 by omega)]at this
    exact this
   go_wp2
   go_ret2
   exact⟨rfl,K2⟩
  ·have hb2:b0=1:=by omega
   subst hb2
   have hkI:(1:Int)<(kd:Int):=by have:=HKK.out;omega
   go_enter Tryz.func72,Tryz.ntmps72
   go_wp2_with fail
   refine(HBV.out ()).mono ?_
   generalize w.alloc (.cells #[.string s,.int .i64 0,.bool false] 155)=w0 at*
   rintro e w1 ⟨rfl,R1,M1,L1⟩
   have K1:=N0.trans L1
   go_wp2_with fail
   refine(HNV.out _ R1).mono ?_
   rintro e w2 ⟨rfl,R2,M2,L2⟩
   have K2:=K1.trans L2
   have c2:w2.cell? ⟨w.heap.size,2,none⟩=some (.bool false):=by
    have:=cell_at R2.2 2
    rw[decide_eq_false (show ¬8*s.size<1+2 by omega)]at this
    exact this
   go_wp2
   go_ret2
   exact⟨rfl,K2⟩
 have HBD:Hid (∀ {code a:Nat} {txt:List UInt8},body s=(code,txt,a)→_):=fun hb=>Math.unp_body h6 hz hk hb
 have hb1:bitAt s 0=1:=by omega
 have hk1:lowAt s 1 2≤1:=by omega
 rw[hb1]at HBV
 have HBS:Hid (∀W q,q≤8*s.size→RdS w.heap.size w.heap.size s q W→_):=fun W q hq r=>bitS_val w.heap.size w.heap.size s q W (by omega) (by omega) r
 by_cases hkd:lowAt s 1 2=1
 ·have HBE:Hid (body s=fixFrom s (8*s.size+1) 3 []):=if_pos hkd
  rw[hkd]at HNV
  have HFV:Hid (∀W,w.heap.size<W.heap.size→RdS w.heap.size w.heap.size s 3 W→_):=fun W hc r=>fixedS_val w.heap.size w.heap.size s 3 (8*s.size+1) W (by omega) (Nat.le_refl _) hc (by omega) (by omega) r
  clear hkd hk1 hb1 hk hb0 hl2
  have HUTX:Hid (unpC s≠0→unpT s=⟨#[]⟩):=fun h=>Math.unpT_no h
  generalize unpT s=UT at*
  generalize unpC s=UC at*
  go_enter Tryz.func72,Tryz.ntmps72
  go_wp2_with fail
  refine(HBV.out ()).mono ?_
  generalize w.alloc (.cells #[.string s,.int .i64 0,.bool false] 155)=w0 at*
  rintro e w1 ⟨rfl,R1,M1,L1⟩
  have K1:=N0.trans L1
  go_wp2_with fail
  refine(HNV.out _ R1).mono ?_
  rintro e w2 ⟨rfl,R2,M2,L2⟩
  have K2:=K1.trans L2
  have c2:w2.cell? ⟨w.heap.size,2,none⟩=some (.bool false):=by
   have:=cell_at R2.2 2
   rw[decide_eq_false (show ¬8*s.size<1+2 by omega)]at this
   exact this
  clear HBV HNV R0 R1 M1 L1 K1 L2 N0 m0 hs0
  go_wp2_with fail
  refine(HFV.out _ (lt_of R2.2) R2).mono ?_
  rintro e w3 ⟨⟨code,txt,a',hfx,rfl,hR3⟩,L3⟩
  have K3:=K2.trans L3
  obtain⟨HB1,HB2⟩:=HBD.out (HBE.out.trans hfx)
  clear HFV R2 M2 L3 K2 c2 hfx HBE
  by_cases hc0:code=0
  ·subst hc0
   obtain⟨R3,ha'⟩:=hR3 rfl
   obtain⟨hU1,hU2⟩:=HB2 rfl
   have HU1:Hid (UC=rst s 8 a'):=hU1
   have HU2:Hid (UC=0→UT=⟨txt.toArray⟩):=hU2
   have HUT:Hid (UC≠0→UT=⟨#[]⟩):=HUTX.out
   clear hU1 hU2 HB1 HB2
   go_wp2
   go_loopw [] (fun wr=>∃q n:Nat,q≤8*s.size∧(q%8=0∨8≤q%8+n)∧Hid (UC=rst s n q)∧RdS w.heap.size w.heap.size s q wr∧Hid (Below w.heap.size w wr)) (fun wr=>8*s.size+1-(intOf ((wr.cell? ⟨w.heap.size,1,none⟩).getD undef)).toNat)
   case atStart=>exact⟨a',8,ha',by omega,HU1,R3,K3⟩
   case round=>
    clear HU1 R3 K3
    obtain⟨q,n,hq,hqn,HQ,R,K⟩:=hrel
    have hm:=R.2
    rw[Nat.min_eq_left hq]at hm
    have c1:wr.cell? ⟨w.heap.size,1,none⟩=some (.int .i64 (q:Int)):=cell_at hm 1
    by_cases hq8:q%8=0
    ·have ht:Int.tmod (q:Int) 8=0:=by rw[Int.tmod_eq_emod_of_nonneg (by omega)];omega
     have hq9:(q:Int)%8=0:=by omega
     by_cases hqs:q<8*s.size
     ·have e6:UC=6:=by rw[HQ.out,Math.rst_end s n q hq8,if_pos hqs]
      have eT:=HUT.out (by rw[e6];decide)
      subst e6 eT
      have hqI:(q:Int)<8*(s.size:Int):=by omega
      go_wp2
      go_ret2
      exact⟨rfl,K.out⟩
     ·have e0:UC=0:=by rw[HQ.out,Math.rst_end s n q hq8,if_neg hqs]
      have eT:=HU2.out e0
      subst e0 eT
      have hqI:¬(q:Int)<8*(s.size:Int):=by omega
      go_wp2
      go_ret2
      exact⟨rfl,K.out⟩
    ·obtain⟨n',rfl⟩:∃n',n=n'+1:=⟨n-1,by omega⟩
     have ht:Int.tmod (q:Int) 8=((q%8:Nat):Int):=by rw[Int.tmod_eq_emod_of_nonneg (by omega)];omega
     have ht2:(q:Int)%8=((q%8:Nat):Int):=by omega
     have htn:(((q%8:Nat):Int) !=0)=true:=by rw[bne_iff_ne];omega
     have htn2:¬((q%8:Nat):Int)=0:=by omega
     have hqs:q<8*s.size:=by omega
     have hq1:(q+1)%8=0∨8≤(q+1)%8+n':=by omega
     have HRS:Hid (UC=if bitAt s q=1 then 6 else rst s n' (q+1)):=by show _=_;rw[HQ.out,Math.rst,if_neg hq8]
     have hbq:=Math.bitAt_le s q
     have HBQ:Hid (∀_:Unit,_):=fun _=>HBS.out wr q hq R
     generalize bitAt s q=bq at*
     obtain⟨r8,hr8⟩:∃r8,q%8=r8:=⟨_,rfl⟩
     rw[hr8]at ht ht2 htn htn2
     clear R hm hqn hq8 hr8
     go_wp2_with fail
     refine(HBQ.out ()).mono ?_
     rintro e w5 ⟨rfl,R5,M5,L5⟩
     have K5:=K.out.trans L5
     have c5:w5.cell? ⟨w.heap.size,1,none⟩=some (.int .i64 ((min (q+1) (8*s.size):Nat):Int)):=cell_at R5.2 1
     by_cases hb:bq=1
     ·have e6:UC=6:=by rw[HRS.out,if_pos hb]
      have eT:=HUT.out (by rw[e6];decide)
      subst e6 eT hb
      go_wp2
      go_ret2
      exact⟨rfl,K5⟩
     ·have hb0:bq=0:=by omega
      subst hb0
      have HRN:Hid (UC=rst s n' (q+1)):=by show _=_;rw[HRS.out,if_neg hb]
      go_wp2
      go_roundw
      case rel=>exact⟨q+1,n',by omega,hq1,HRN,R5,K5⟩
      case measure=>rw[c5,c1];simp[intOf];omega
  ·obtain⟨rfl,rfl⟩:=HB1 hc0
   have hcI:((UC:Int) !=0)=true:=by rw[bne_iff_ne];omega
   have hcI2:¬(UC:Int)=0:=by omega
   clear hR3 HB2
   go_wp2
   go_ret2
   exact⟨rfl,K3⟩
 ·have hkd0:lowAt s 1 2=0:=by omega
  have HBE:Hid (body s=(storedC s,(storedT s).data.toList,40+8*lowAt s 8 16)):=if_neg hkd
  rw[hkd0]at HNV
  have HFV:Hid (∀W,RdS w.heap.size w.heap.size s 3 W→_):=fun W r=>storedS_val w.heap.size w.heap.size s W (by omega) (by omega) r
  obtain⟨HB1,HB2⟩:=HBD.out HBE.out
  rw[Array.toArray_toList]at HB2
  have HC5:Hid (storedC s=0→40+8*lowAt s 8 16≤8*s.size):=fun h=>by
   unfold storedC at h
   split at h
   ·omega
   ·split at h
    ·omega
    ·split at h
     ·omega
     ·split at h
      ·omega
      ·omega
  clear hkd hkd0 hk1 hb1 hk hb0 hl2 HBE HBD
  have HUTX:Hid (unpC s≠0→unpT s=⟨#[]⟩):=fun h=>Math.unpT_no h
  generalize unpT s=UT at*
  generalize unpC s=UC at*
  generalize storedT s=ST at*
  generalize storedC s=SC at*
  generalize 40+8*lowAt s 8 16=a' at*
  go_enter Tryz.func72,Tryz.ntmps72
  go_wp2_with fail
  refine(HBV.out ()).mono ?_
  generalize w.alloc (.cells #[.string s,.int .i64 0,.bool false] 155)=w0 at*
  rintro e w1 ⟨rfl,R1,M1,L1⟩
  have K1:=N0.trans L1
  go_wp2_with fail
  refine(HNV.out _ R1).mono ?_
  rintro e w2 ⟨rfl,R2,M2,L2⟩
  have K2:=K1.trans L2
  have c2:w2.cell? ⟨w.heap.size,2,none⟩=some (.bool false):=by
   have:=cell_at R2.2 2
   rw[decide_eq_false (show ¬8*s.size<1+2 by omega)]at this
   exact this
  clear HBV HNV R0 R1 M1 L1 K1 L2 N0 m0 hs0
  go_wp2_with fail
  refine(HFV.out _ R2).mono ?_
  rintro e w3 ⟨rfl,hR3,M3,L3⟩
  have K3:=K2.trans L3
  clear HFV R2 M2 L3 K2 c2 M3
  by_cases hc0:SC=0
  ·subst hc0
   have R3:=hR3 rfl
   have ha':=HC5.out rfl
   obtain⟨hU1,hU2⟩:=HB2 rfl
   have HU1:Hid (UC=rst s 8 a'):=hU1
   have HU2:Hid (UC=0→UT=ST):=hU2
   have HUT:Hid (UC≠0→UT=⟨#[]⟩):=HUTX.out
   clear hU1 hU2 HB1 HB2
   go_wp2
   go_loopw [] (fun wr=>∃q n:Nat,q≤8*s.size∧(q%8=0∨8≤q%8+n)∧Hid (UC=rst s n q)∧RdS w.heap.size w.heap.size s q wr∧Hid (Below w.heap.size w wr)) (fun wr=>8*s.size+1-(intOf ((wr.cell? ⟨w.heap.size,1,none⟩).getD undef)).toNat)
   case atStart=>exact⟨a',8,ha',by omega,HU1,R3,K3⟩
   case round=>
    clear HU1 R3 K3
    obtain⟨q,n,hq,hqn,HQ,R,K⟩:=hrel
    have hm:=R.2
    rw[Nat.min_eq_left hq]at hm
    have c1:wr.cell? ⟨w.heap.size,1,none⟩=some (.int .i64 (q:Int)):=cell_at hm 1
    by_cases hq8:q%8=0
    ·have ht:Int.tmod (q:Int) 8=0:=by rw[Int.tmod_eq_emod_of_nonneg (by omega)];omega
     have hq9:(q:Int)%8=0:=by omega
     by_cases hqs:q<8*s.size
     ·have e6:UC=6:=by rw[HQ.out,Math.rst_end s n q hq8,if_pos hqs]
      have eT:=HUT.out (by rw[e6];decide)
      subst e6 eT
      have hqI:(q:Int)<8*(s.size:Int):=by omega
      go_wp2
      go_ret2
      exact⟨rfl,K.out⟩
     ·have e0:UC=0:=by rw[HQ.out,Math.rst_end s n q hq8,if_neg hqs]
      have eT:=HU2.out e0
      subst e0 eT
      have hqI:¬(q:Int)<8*(s.size:Int):=by omega
      go_wp2
      go_ret2
      exact⟨rfl,K.out⟩
    ·obtain⟨n',rfl⟩:∃n',n=n'+1:=⟨n-1,by omega⟩
     have ht:Int.tmod (q:Int) 8=((q%8:Nat):Int):=by rw[Int.tmod_eq_emod_of_nonneg (by omega)];omega
     have ht2:(q:Int)%8=((q%8:Nat):Int):=by omega
     have htn:(((q%8:Nat):Int) !=0)=true:=by rw[bne_iff_ne];omega
     have htn2:¬((q%8:Nat):Int)=0:=by omega
     have hqs:q<8*s.size:=by omega
     have hq1:(q+1)%8=0∨8≤(q+1)%8+n':=by omega
     have HRS:Hid (UC=if bitAt s q=1 then 6 else rst s n' (q+1)):=by show _=_;rw[HQ.out,Math.rst,if_neg hq8]
     have hbq:=Math.bitAt_le s q
     have HBQ:Hid (∀_:Unit,_):=fun _=>HBS.out wr q hq R
     generalize bitAt s q=bq at*
     obtain⟨r8,hr8⟩:∃r8,q%8=r8:=⟨_,rfl⟩
     rw[hr8]at ht ht2 htn htn2
     clear R hm hqn hq8 hr8
     go_wp2_with fail
     refine(HBQ.out ()).mono ?_
     rintro e w5 ⟨rfl,R5,M5,L5⟩
     have K5:=K.out.trans L5
     have c5:w5.cell? ⟨w.heap.size,1,none⟩=some (.int .i64 ((min (q+1) (8*s.size):Nat):Int)):=cell_at R5.2 1
     by_cases hb:bq=1
     ·have e6:UC=6:=by rw[HRS.out,if_pos hb]
      have eT:=HUT.out (by rw[e6];decide)
      subst e6 eT hb
      go_wp2
      go_ret2
      exact⟨rfl,K5⟩
     ·have hb0:bq=0:=by omega
      subst hb0
      have HRN:Hid (UC=rst s n' (q+1)):=by show _=_;rw[HRS.out,if_neg hb]
      go_wp2
      go_roundw
      case rel=>exact⟨q+1,n',by omega,hq1,HRN,R5,K5⟩
      case measure=>rw[c5,c1];simp[intOf];omega
  ·obtain⟨rfl,rfl⟩:=HB1 hc0
   have hcI:((UC:Int) !=0)=true:=by rw[bne_iff_ne];omega
   have hcI2:¬(UC:Int)=0:=by omega
   clear hR3 HB2
   go_wp2
   go_ret2
   exact⟨rfl,K3⟩

end Pk
end Go.Proofs.YtcjgkmhpeedhiaaGreatDoor

/- The mathematics of chapter 4: four digits, and the parts of a frame. -/
namespace Go.Proofs.YtcjgkmhpeedhiaaGreatDoor
namespace Fr
open Math (unpC unpT)
set_option linter.unusedVariables false

def dg (t:ByteArray):Nat→Option Nat
 |0=>some 0
 |k+1=>(dg t k).bind fun n=>if 48≤(t.data.toList.getD k 0).toNat∧(t.data.toList.getD k 0).toNat≤57 then some (10*n+((t.data.toList.getD k 0).toNat-48))else none

theorem dg_lt (t:ByteArray) (k n:Nat) (h:dg t k=some n):n<10^k:=by
 induction k generalizing n with
 |zero=>simp[dg]at h;omega
 |succ k ih=>
  rw[dg]at h
  cases e:dg t k with
  |none=>rw[e]at h;simp at h
  |some m=>
   rw[e]at h
   have hm:=ih m e
   simp only[Option.bind_some]at h
   split at h
   ·simp only[Option.some.injEq]at h
    rw[Nat.pow_succ]
    omega
   ·simp at h

theorem dg_none (t:ByteArray) (k j:Nat) (h:dg t k=none) (hj:k≤j):dg t j=none:=by
 induction j with
 |zero=>rw[show(0:Nat)=k by omega];exact h
 |succ j ih=>
  by_cases e:k=j+1
  ·subst e;exact h
  ·rw[dg,ih (by omega)]
   rfl

theorem dg_at (t:ByteArray) (k n:Nat) (hk:k<t.size) (h:dg t k=some n):dg t (k+1)=if 48≤t[k].toNat∧t[k].toNat≤57 then some (10*n+(t[k].toNat-48))else none:=by
 have h1:k<t.data.toList.length:=by rw[Array.length_toList];exact hk
 have e:t.data.toList.getD k 0=t[k]:=by rw[List.getD_eq_getElem?_getD,List.getElem?_eq_getElem h1];rfl
 rw[dg,h,e]
 rfl

theorem dg_ext (t u:ByteArray) (k:Nat) (h:∀j,j<k→t.data.toList.getD j 0=u.data.toList.getD j 0):dg t k=dg u k:=by
 induction k with
 |zero=>rfl
 |succ k ih=>rw[dg,dg,ih fun j hj=>h j (by omega),h k (by omega)]

theorem getD_extract (s:ByteArray) (a b j:Nat) (h:a+j<b) (hb:b≤s.size):(s.extract a b).data.toList.getD j 0=s.data.toList.getD (a+j) 0:=by
 have e:(s.extract a b).data.toList=(s.data.toList.take b).drop a:=by
  rw[ByteArray.data_extract,Array.toList_extract,List.extract_eq_take_drop,List.take_drop]
  congr 2
  omega
 rw[e,List.getD_eq_getElem?_getD,List.getElem?_drop,List.getElem?_take,if_pos (by omega),List.getD_eq_getElem?_getD]

def cutB (r:ByteArray):Bool:=decide (4≤r.size)&&(dg r 4).isSome
def cutN (r:ByteArray):Nat:=if cutB r=true then(dg r 4).getD 0 else 0
def cutR (r:ByteArray):ByteArray:=if cutB r=true then r.extract 4 r.size else⟨#[]⟩

theorem cut_yes {r:ByteArray} {n:Nat} (h:4≤r.size) (hd:dg r 4=some n):cutB r=true∧cutN r=n∧cutR r=r.extract 4 r.size:=by
 have e:cutB r=true:=by unfold cutB;rw[hd];simp[h]
 exact⟨e,by unfold cutN;rw[if_pos e,hd];rfl,by unfold cutR;rw[if_pos e]⟩

theorem cut_no {r:ByteArray} (h:¬(4≤r.size)∨dg r 4=none):cutB r=false∧cutN r=0∧cutR r=⟨#[]⟩:=by
 have e:cutB r=false:=by
  unfold cutB
  rcases h with h|h
  ·simp[h]
  ·rw[h];simp
 exact⟨e,by unfold cutN;rw[if_neg (by rw[e];simp)],by unfold cutR;rw[if_neg (by rw[e];simp)]⟩

def digI (t:ByteArray):Int:=match dg t 4 with
 |some n=>n
 |none=> -1

theorem digI_some {t:ByteArray} {n:Nat} (h:dg t 4=some n):digI t=n:=by unfold digI;rw[h]
theorem digI_none {t:ByteArray} (h:dg t 4=none):digI t= -1:=by unfold digI;rw[h]

theorem cut_rest (s:ByteArray) (a:Nat) (h:a+4≤s.size):dg (s.extract a s.size) 4=dg (s.extract a (a+4)) 4:=
 dg_ext _ _ 4 fun j hj=>by rw[getD_extract s a s.size j (by omega) (Nat.le_refl _),getD_extract s a (a+4) j (by omega) h]

theorem ext_size (s:ByteArray) (a b:Nat) (h:b≤s.size):(s.extract a b).size=b-a:=by rw[ByteArray.size_extract];omega

theorem ext_ext (s:ByteArray) (a b:Nat):(s.extract a s.size).extract b (s.extract a s.size).size=s.extract (a+b) s.size:=by
 rw[ByteArray.extract_extract,ByteArray.size_extract]
 by_cases h:a≤s.size
 ·congr 1
  omega
 ·apply ByteArray.ext
  rw[ByteArray.data_extract,ByteArray.data_extract,Array.extract_empty_of_size_le_start (by show s.size≤_;omega),Array.extract_empty_of_size_le_start (by show s.size≤_;omega)]

theorem ext_in (s:ByteArray) (a b c:Nat) (h:a+c≤s.size):(s.extract a s.size).extract b c=s.extract (a+b) (a+c):=by
 rw[ByteArray.extract_extract]
 congr 1
 omega

def hd5:ByteArray:=⟨#[35,85,84,48,49]⟩

theorem take5 (s:ByteArray) (h:5≤s.size):(s.extract 0 5).data.toList=s.data.toList.take 5:=by
 rw[ByteArray.data_extract,Array.toList_extract,List.extract_eq_take_drop]
 rfl

theorem prefix_yes (s:ByteArray) (h:5≤s.size) (he:s.extract 0 5=hd5):Lib.hasPrefix s.data.toList hd5.data.toList=true∧(⟨(Lib.trimPrefix s.data.toList hd5.data.toList).toArray⟩:ByteArray)=s.extract 5 s.size:=by
 have e:s.data.toList.take 5=hd5.data.toList:=by rw[←take5 s h,he]
 have hp:Lib.hasPrefix s.data.toList hd5.data.toList=true:=by
  unfold Lib.hasPrefix
  rw[List.isPrefixOf_iff_prefix,←e]
  exact List.take_prefix 5 _
 refine⟨hp,?_⟩
 unfold Lib.trimPrefix
 rw[if_pos hp]
 apply ByteArray.ext
 apply Array.toList_inj.1
 rw[ByteArray.data_extract,Array.toList_extract,List.extract_eq_take_drop,List.take_of_length_le (by rw[List.length_drop,Array.length_toList];show s.size-5≤s.size-5;omega)]
 rfl

theorem prefix_no (s:ByteArray) (h:¬5≤s.size∨s.extract 0 5≠hd5):Lib.hasPrefix s.data.toList hd5.data.toList=false:=by
 apply Bool.eq_false_iff.2
 intro hp
 unfold Lib.hasPrefix at hp
 rw[List.isPrefixOf_iff_prefix]at hp
 have hl:=hp.length_le
 have h5:5≤s.size:=by rw[Array.length_toList]at hl;exact hl
 rcases h with h|h
 ·exact h h5
 ·apply h
  apply ByteArray.ext
  apply Array.toList_inj.1
  rw[take5 s h5]
  exact(List.prefix_iff_eq_take.1 hp).symm

def Bad1 (s:ByteArray):Prop:=¬5≤s.size∨s.extract 0 5≠hd5
def Bad2 (s:ByteArray):Prop:=s.size<17∨dg (s.extract 5 9) 4=none
def Bad3 (s:ByteArray):Prop:=s.size<21∨dg (s.extract 17 21) 4≠some (s.size-21)
def Bad4 (s:ByteArray):Prop:=unpC (s.extract 21 s.size)≠0

end Fr
end Go.Proofs.YtcjgkmhpeedhiaaGreatDoor

/- What Unframe answers. -/
namespace Go.Proofs.YtcjgkmhpeedhiaaGreatDoor
namespace Fr
open Math (unpC unpT)
open Num (rmR rmS)
set_option linter.unusedVariables false

def fC (s:ByteArray):Nat:=if ¬5≤s.size∨s.extract 0 5≠hd5 then 1 else if s.size<17∨dg (s.extract 5 9) 4=none then 2 else if s.size<21∨dg (s.extract 17 21) 4≠some (s.size-21)then 3 else if unpC (s.extract 21 s.size)≠0 then 4 else 0
def fN (s:ByteArray):Int:=if fC s=0 then digI (s.extract 5 9)else 0
def fR (s:ByteArray):Int:=if fC s=0 then rmR (s.extract 9 17)else 0
def fS (s:ByteArray):Int:=if fC s=0 then rmS (s.extract 9 17)else 0
def fP (s:ByteArray):ByteArray:=if fC s=0 then unpT (s.extract 21 s.size)else⟨#[]⟩

theorem f_no {s:ByteArray} (h:fC s≠0):fN s=0∧fR s=0∧fS s=0∧fP s=⟨#[]⟩:=⟨if_neg h,if_neg h,if_neg h,if_neg h⟩
theorem f_yes {s:ByteArray} (h:fC s=0):fN s=digI (s.extract 5 9)∧fR s=rmR (s.extract 9 17)∧fS s=rmS (s.extract 9 17)∧fP s=unpT (s.extract 21 s.size):=⟨if_pos h,if_pos h,if_pos h,if_pos h⟩

theorem f_cases (s:ByteArray):(Bad1 s∧fC s=1)∨(¬Bad1 s∧Bad2 s∧fC s=2)∨(¬Bad1 s∧¬Bad2 s∧Bad3 s∧fC s=3)∨(¬Bad1 s∧¬Bad2 s∧¬Bad3 s∧Bad4 s∧fC s=4)∨(¬Bad1 s∧¬Bad2 s∧¬Bad3 s∧¬Bad4 s∧fC s=0):=by
 unfold Bad1 Bad2 Bad3 Bad4
 by_cases h1:¬5≤s.size∨s.extract 0 5≠hd5
 ·exact Or.inl ⟨h1,by unfold fC;rw[if_pos h1]⟩
 by_cases h2:s.size<17∨dg (s.extract 5 9) 4=none
 ·exact Or.inr (Or.inl ⟨h1,h2,by unfold fC;rw[if_neg h1,if_pos h2]⟩)
 by_cases h3:s.size<21∨dg (s.extract 17 21) 4≠some (s.size-21)
 ·exact Or.inr (Or.inr (Or.inl ⟨h1,h2,h3,by unfold fC;rw[if_neg h1,if_neg h2,if_pos h3]⟩))
 by_cases h4:unpC (s.extract 21 s.size)≠0
 ·exact Or.inr (Or.inr (Or.inr (Or.inl ⟨h1,h2,h3,h4,by unfold fC;rw[if_neg h1,if_neg h2,if_neg h3,if_pos h4]⟩)))
 ·exact Or.inr (Or.inr (Or.inr (Or.inr ⟨h1,h2,h3,h4,by unfold fC;rw[if_neg h1,if_neg h2,if_neg h3,if_neg h4]⟩)))

abbrev u4 (n r s:Int) (p:ByteArray) (c:Int):Go.Value:= .tuple #[.int .i64 n,.agg #[.int .i64 r,.int .i64 s],.string p,.int .i64 c]

end Fr
end Go.Proofs.YtcjgkmhpeedhiaaGreatDoor

/- Contracts of FixedCode, of the program and of its model. -/
namespace Go.Proofs.YtcjgkmhpeedhiaaGreatDoor
namespace Pk
open Go.ChangeShapes Go.WideShapes Go.ChangeAt Go.RowKit
open Math (highL highP)
set_option linter.unusedSimpArgs false
set_option linter.unusedVariables false

def fixL (s:Int):List Nat:=
 if 0≤s∧s≤143 then highL (48+s).toNat 8
 else if 144≤s∧s≤255 then highL (400+s-144).toNat 9
 else if 256≤s∧s≤279 then highL (s-256).toNat 7
 else if 280≤s∧s≤285 then highL (192+s-280).toNat 8
 else[]

def seg (a b n c:Int) (s:Int):List Nat:=if a≤s∧s≤b then highL (c+s-a).toNat n.toNat else[]

def fixAt (s:Int):Nat→List Nat
 |0=> []
 |k+1=>fixAt s k++seg (runVals.getD (4*k) 0) (runVals.getD (4*k+1) 0) (runVals.getD (4*k+2) 0) (runVals.getD (4*k+3) 0) s

theorem fixAt_all (s:Int) (h:s≤285):fixAt s 4=fixL s:=by
 have e:fixAt s 4=seg 256 279 7 0 s++seg 0 143 8 48 s++seg 280 287 8 192 s++seg 144 255 9 400 s:=by simp[fixAt,runVals]
 rw[e]
 unfold fixL
 by_cases h1:0≤s∧s≤143
 ·rw[if_pos h1,seg,seg,seg,seg,if_neg (by omega),if_pos h1,if_neg (by omega),if_neg (by omega)]
  simp
 ·rw[if_neg h1]
  by_cases h2:144≤s∧s≤255
  ·rw[if_pos h2,seg,seg,seg,seg,if_neg (by omega),if_neg h1,if_neg (by omega),if_pos h2]
   simp
  ·rw[if_neg h2]
   by_cases h3:256≤s∧s≤279
   ·rw[if_pos h3,seg,seg,seg,seg,if_pos h3,if_neg h1,if_neg (by omega),if_neg h2]
    simp
   ·rw[if_neg h3]
    by_cases h4:280≤s∧s≤285
    ·rw[if_pos h4,seg,seg,seg,seg,if_neg h3,if_neg h1,if_pos (by omega),if_neg h2]
     simp
    ·rw[if_neg h4,seg,seg,seg,seg,if_neg h3,if_neg h1,if_neg (by omega),if_neg h2]
     rfl

theorem own_new (w:World) (t:TypeId):(w.alloc (.cells #[] t)).ownsRow w.heap.size t 1 (.slice (some ⟨w.heap.size,0,none⟩) 0 0) 0 []:=
 ⟨rfl,Or.inr ⟨w.heap.size,0,#[],rfl,Nat.le_refl _,heap_new w _,by omega,by unfold maxLen;omega,rfl,rfl⟩⟩

theorem div_p2 (x i:Nat):(x:Int)/(p2 i:Int)=((x/2^i:Nat):Int):=by
 unfold p2
 simp

set_option maxHeartbeats 1000000 in
theorem high_made (x n:Nat) (w:World) (hx:x<1099511627776) (hn:n≤40):
 Calls Tryz.prog 104 #[.int .i64 x,.int .i64 n] w fun e w'=>∃v,e= .returned v∧w'.ownsRow w.heap.size 3 1 v n (icells (highL x n))∧Below w.heap.size w w':=by
 obtain⟨i0,hi,hz0,hz1,hz2⟩:=info_of info_int
 go_enter Tryz.func104,Tryz.ntmps104
 go_wp2
 go_loopw [5,6] (fun v i wr=>∃(j:Nat),j≤n∧i= .int .i64 ((n:Int)-1-j)∧wr.ownsRow w.heap.size 3 1 v j (icells (highP x n j))∧Below w.heap.size w wr) (fun _ i _=>(intOf i+1).toNat)
 case atStart=>exact⟨0,by omega,by simp,own_new w _,new_below _ _⟩
 case round=>
  obtain⟨j,hj,rfl,hown,L⟩:=hrel
  by_cases hjn:j<n
  ·have e1:(n:Int)-1-j=((n-1-j:Nat):Int):=by omega
   have HS:Hid (_):=Math.highP_succ x n j
   have HQ:Hid ((n-1-j:Nat)+1+j=n):=by show _=_;omega
   have hq:(n-1-j:Nat)≤40:=by omega
   have hdiv:=div_p2 x (n-1-j)
   have hb1:x/2^(n-1-j)%2≤1:=by omega
   have hzb:x/2^(n-1-j)≤x:=Nat.div_le_self _ _
   have hP:=p2_pos (n-1-j)
   have hP2:=p2_bd (n-1-j) hq
   rw[e1]
   clear e1
   generalize x/2^(n-1-j)=z at*
   have hzm:(z:Int)%2=((z%2:Nat):Int):=by omega
   generalize z%2=b at*
   have HP:Hid (∀w,_):=fun w=>pow2_val (n-1-j) w hq
   generalize n-1-j=q at*
   generalize p2 q=Q at*
   have hBr:w.heap.size≤wr.heap.size:=L.size
   go_wp2_with fail
   refine(HP.out _).mono ?_
   rintro e w2 ⟨rfl,rfl⟩
   go_wp2_with (at_builtin;refine wpList_append_own _ rfl _ _ 29 rfl w.heap.size 3 i0 (.int .i64 0) 1 8 Tryz.underlying29 hi hz0 hz1 hz2 rfl (by decide) _ _ _ rfl (hown.alloc _) ⟨w2.heap.size,0,none⟩ 1 1 [.int .i64 b] rfl rfl ?c1 ?c2 ?c3 ?c4 ?c5 ?_)
   case c1=>exact cell_one_new _ _ _
   case c2=>intro u hu;simp at hu;subst hu;rfl
   case c3=>unfold maxLen;omega
   case c4=>omega
   case c5=>simp;omega
   ·intro v' w3 hown3 hgrow _
    have L3:Below w.heap.size w w3:=(L.alloc hBr _).grown hgrow (by simp;omega) (fun m h=>own_ge hown m h)
    rw[icells_snoc,←HS.out]at hown3
    clear hown hgrow
    go_wp2
    go_roundw
    case rel=>exact⟨j+1,by omega,by have:=HQ.out;go_num,hown3,L3⟩
    case measure=>simp[intOf]<;>omega
  ·obtain rfl:j=n:=by omega
   rw[Math.highP_all]at hown
   have e1:(j:Int)-1-j= -1:=by omega
   rw[e1]
   go_wp2
   go_ret
   exact⟨_,rfl,hown,L⟩

set_option maxHeartbeats 1000000 in
theorem specFix_val (s:Int) (w:World):
 Calls Tryz.prog 100 #[.int .i64 s] w fun e w'=>∃v,e= .returned v∧w'.ownsRow w.heap.size 3 1 v (fixL s).length (icells (fixL s))∧Below w.heap.size w w':=by
 by_cases h1:0≤s∧s≤143
 ·have HI:Hid (_):=decide_eq_true h1
  have e:fixL s=highL (48+s).toNat 8:=if_pos h1
  rw[e,Math.highL_length]
  obtain⟨k,rfl⟩:=Int.eq_ofNat_of_zero_le h1.1
  have e2:(48+(k:Int)).toNat=48+k:=by omega
  rw[e2]
  have e3:(48:Int)+(k:Int)=((48+k:Nat):Int):=by omega
  have hk:48+k<1000:=by omega
  clear h1 e e2
  generalize 48+k=x at*
  go_enter Tryz.func100,Tryz.ntmps100
  go_wp2_with fail
  refine(in_is _ 0 143 true HI.out _).mono ?_
  rintro e w1 ⟨rfl,rfl⟩
  go_wp2_with fail
  refine(high_made x 8 _ (by omega) (by omega)).mono ?_
  rintro e w2 ⟨v,rfl,hown,L⟩
  go_wp2
  go_ret
  exact⟨_,rfl,hown,L⟩
 by_cases h2:144≤s∧s≤255
 ·have HI1:Hid (_):=decide_eq_false h1
  have HI:Hid (_):=decide_eq_true h2
  have e:fixL s=highL (400+s-144).toNat 9:=by unfold fixL;rw[if_neg h1,if_pos h2]
  rw[e,Math.highL_length]
  obtain⟨k,rfl⟩:=Int.eq_ofNat_of_zero_le (show 0≤s by omega)
  have e2:(400+(k:Int)-144).toNat=400+k-144:=by omega
  rw[e2]
  have e3:(400:Int)+(k:Int)-144=((400+k-144:Nat):Int):=by omega
  have hk:400+k-144<1000:=by omega
  clear h1 h2 e e2
  generalize 400+k-144=x at*
  go_enter Tryz.func100,Tryz.ntmps100
  go_wp2_with fail
  refine(in_is _ 0 143 false HI1.out _).mono ?_
  rintro e w1 ⟨rfl,rfl⟩
  go_wp2_with fail
  refine(in_is _ 144 255 true HI.out _).mono ?_
  rintro e w1 ⟨rfl,rfl⟩
  go_wp2_with fail
  refine(high_made x 9 _ (by omega) (by omega)).mono ?_
  rintro e w2 ⟨v,rfl,hown,L⟩
  go_wp2
  go_ret
  exact⟨_,rfl,hown,L⟩
 by_cases h3:256≤s∧s≤279
 ·have HI1:Hid (_):=decide_eq_false h1
  have HI2:Hid (_):=decide_eq_false h2
  have HI:Hid (_):=decide_eq_true h3
  have e:fixL s=highL (s-256).toNat 7:=by unfold fixL;rw[if_neg h1,if_neg h2,if_pos h3]
  rw[e,Math.highL_length]
  obtain⟨k,rfl⟩:=Int.eq_ofNat_of_zero_le (show 0≤s by omega)
  have e2:((k:Int)-256).toNat=k-256:=by omega
  rw[e2]
  have e3:(k:Int)-256=((k-256:Nat):Int):=by omega
  have hk:k-256<1000:=by omega
  clear h1 h2 h3 e e2
  generalize k-256=x at*
  go_enter Tryz.func100,Tryz.ntmps100
  go_wp2_with fail
  refine(in_is _ 0 143 false HI1.out _).mono ?_
  rintro e w1 ⟨rfl,rfl⟩
  go_wp2_with fail
  refine(in_is _ 144 255 false HI2.out _).mono ?_
  rintro e w1 ⟨rfl,rfl⟩
  go_wp2_with fail
  refine(in_is _ 256 279 true HI.out _).mono ?_
  rintro e w1 ⟨rfl,rfl⟩
  go_wp2_with fail
  refine(high_made x 7 _ (by omega) (by omega)).mono ?_
  rintro e w2 ⟨v,rfl,hown,L⟩
  go_wp2
  go_ret
  exact⟨_,rfl,hown,L⟩
 by_cases h4:280≤s∧s≤285
 ·have HI1:Hid (_):=decide_eq_false h1
  have HI2:Hid (_):=decide_eq_false h2
  have HI3:Hid (_):=decide_eq_false h3
  have HI:Hid (_):=decide_eq_true h4
  have e:fixL s=highL (192+s-280).toNat 8:=by unfold fixL;rw[if_neg h1,if_neg h2,if_neg h3,if_pos h4]
  rw[e,Math.highL_length]
  obtain⟨k,rfl⟩:=Int.eq_ofNat_of_zero_le (show 0≤s by omega)
  have e2:(192+(k:Int)-280).toNat=192+k-280:=by omega
  rw[e2]
  have e3:192+(k:Int)-280=((192+k-280:Nat):Int):=by omega
  have hk:192+k-280<1000:=by omega
  clear h1 h2 h3 h4 e e2
  generalize 192+k-280=x at*
  go_enter Tryz.func100,Tryz.ntmps100
  go_wp2_with fail
  refine(in_is _ 0 143 false HI1.out _).mono ?_
  rintro e w1 ⟨rfl,rfl⟩
  go_wp2_with fail
  refine(in_is _ 144 255 false HI2.out _).mono ?_
  rintro e w1 ⟨rfl,rfl⟩
  go_wp2_with fail
  refine(in_is _ 256 279 false HI3.out _).mono ?_
  rintro e w1 ⟨rfl,rfl⟩
  go_wp2_with fail
  refine(in_is _ 280 285 true HI.out _).mono ?_
  rintro e w1 ⟨rfl,rfl⟩
  go_wp2_with fail
  refine(high_made x 8 _ (by omega) (by omega)).mono ?_
  rintro e w2 ⟨v,rfl,hown,L⟩
  go_wp2
  go_ret
  exact⟨_,rfl,hown,L⟩
 ·have HI1:Hid (_):=decide_eq_false h1
  have HI2:Hid (_):=decide_eq_false h2
  have HI3:Hid (_):=decide_eq_false h3
  have HI4:Hid (_):=decide_eq_false h4
  have e:fixL s= []:=by unfold fixL;rw[if_neg h1,if_neg h2,if_neg h3,if_neg h4]
  rw[e]
  clear h1 h2 h3 h4 e
  go_enter Tryz.func100,Tryz.ntmps100
  go_wp2_with fail
  refine(in_is _ 0 143 false HI1.out _).mono ?_
  rintro e w1 ⟨rfl,rfl⟩
  go_wp2_with fail
  refine(in_is _ 144 255 false HI2.out _).mono ?_
  rintro e w1 ⟨rfl,rfl⟩
  go_wp2_with fail
  refine(in_is _ 256 279 false HI3.out _).mono ?_
  rintro e w1 ⟨rfl,rfl⟩
  go_wp2_with fail
  refine(in_is _ 280 285 false HI4.out _).mono ?_
  rintro e w1 ⟨rfl,rfl⟩
  go_wp2
  go_ret
  exact⟨_,rfl,own_new _ _,new_below _ _⟩

theorem bit_shift' (n i:Nat) (hn:n<4294967296):bits BinOp.and IntKind.i64 ((n:Int)/2^i) 1=((n/2^i%2:Nat):Int):=by
 have e:(n:Int)/2^i=((n/2^i:Nat):Int):=by simp
 rw[e]
 exact Math.and_one_i64 _ (Nat.lt_of_le_of_lt (Nat.div_le_self _ _) (by omega))

abbrev runsV:Value:= .agg #[.int .i64 256,.int .i64 279,.int .i64 7,.int .i64 0,.int .i64 0,.int .i64 143,.int .i64 8,.int .i64 48,.int .i64 280,.int .i64 287,.int .i64 8,.int .i64 192,.int .i64 144,.int .i64 255,.int .i64 9,.int .i64 400]

theorem run_at0 (w:World):(Instr.index 192 runsV (.int .i64 0)).run Tryz.prog w= .ok (.agg #[.int .i64 256,.int .i64 279,.int .i64 7,.int .i64 0]) w:=by
 simp[Instr.index,run_underlying Tryz.underlying192,asIntOf,part,go_sem]

theorem run_at1 (w:World):(Instr.index 192 runsV (.int .i64 1)).run Tryz.prog w= .ok (.agg #[.int .i64 0,.int .i64 143,.int .i64 8,.int .i64 48]) w:=by
 simp[Instr.index,run_underlying Tryz.underlying192,asIntOf,part,go_sem]

theorem run_at2 (w:World):(Instr.index 192 runsV (.int .i64 2)).run Tryz.prog w= .ok (.agg #[.int .i64 280,.int .i64 287,.int .i64 8,.int .i64 192]) w:=by
 simp[Instr.index,run_underlying Tryz.underlying192,asIntOf,part,go_sem]

theorem run_at3 (w:World):(Instr.index 192 runsV (.int .i64 3)).run Tryz.prog w= .ok (.agg #[.int .i64 144,.int .i64 255,.int .i64 9,.int .i64 400]) w:=by
 simp[Instr.index,run_underlying Tryz.underlying192,asIntOf,part,go_sem]

set_option maxHeartbeats 2000000 in
set_option maxRecDepth 100000 in
theorem implFix_val (s:Int) (w:World) (R:Runs w):
 Calls Tryz.prog 214 #[.int .i64 s] w fun e w'=>∃v,e= .returned v∧w'.ownsRow w.heap.size 3 1 v (fixL s).length (icells (fixL s))∧Below w.heap.size w w':=by
 obtain⟨i0,hi,hz0,hz1,hz2⟩:=info_of info_int
 by_cases hs:s≤285
 ·have r0:=R 0 (by omega);have r1:=R 1 (by omega);have r2:=R 2 (by omega);have r3:=R 3 (by omega)
  have r4:=R 4 (by omega);have r5:=R 5 (by omega);have r6:=R 6 (by omega);have r7:=R 7 (by omega)
  have r8:=R 8 (by omega);have r9:=R 9 (by omega);have r10:=R 10 (by omega);have r11:=R 11 (by omega)
  have r12:=R 12 (by omega);have r13:=R 13 (by omega);have r14:=R 14 (by omega);have r15:=R 15 (by omega)
  have hg:=R.lt
  simp[runVals]at r0 r1 r2 r3 r4 r5 r6 r7 r8 r9 r10 r11 r12 r13 r14 r15
  have hgz:6≠w.heap.size:=by omega
  have HA:Hid (_):=fixAt_all s hs
  have h285:decide (285<s)=false:=decide_eq_false (by omega)
  go_enter Tryz.func214,Tryz.ntmps214
  go_wp2
  clear r0 r1 r2 r3 r4 r5 r6 r7 r8 r9 r10 r11 r12 r13 r14 r15
  go_loopw [3,13] (fun v i wr=>∃(k:Nat) (l:List Nat),k≤4∧i= .int .i64 k∧l.length≤9*k∧wr.ownsRow w.heap.size 3 1 v l.length (icells l)∧Below w.heap.size w wr∧Hid (l=fixAt s k)) (fun _ i _=>4-(intOf i).toNat)
  case atStart=>exact⟨0,[],by omega,rfl,by simp,own_new w _,new_below _ _,rfl⟩
  case round=>
   obtain⟨k,l,hk,rfl,hl,hown,L,H⟩:=hrel
   have hBr:w.heap.size≤wr.heap.size:=L.size
   have HS:Hid (fixAt s (k+1)=l++seg (runVals.getD (4*k) 0) (runVals.getD (4*k+1) 0) (runVals.getD (4*k+2) 0) (runVals.getD (4*k+3) 0) s):=by
    show _=_
    rw[H.out]
    rfl
   have hk5:k=0∨k=1∨k=2∨k=3∨k=4:=by omega
   rcases hk5 with rfl|rfl|rfl|rfl|rfl
   ·rw[show((0:Nat):Int)=0 from rfl]
    have hix:=run_at0 wr
    have e4:fixAt s 1=l++seg 256 279 7 0 s:=HS.out
    have L1:Below w.heap.size w (wr.alloc (.cells #[.int .i64 256,.int .i64 279,.int .i64 7,.int .i64 0] 191)):=L.alloc hBr _
    have hown1:=hown.alloc (.cells #[.int .i64 256,.int .i64 279,.int .i64 7,.int .i64 0] 191)
    by_cases hm:256≤s∧s≤279
    ·obtain⟨x,hx⟩:=Int.eq_ofNat_of_zero_le (show 0≤s-256 by omega)
     have hxb:x<4294967296:=by omega
     have e5:(0+s-256).toNat=x:=by omega
     have e6:seg 256 279 7 0 s=highL x 7:=by unfold seg;rw[if_pos hm,e5];rfl
     rw[e6]at e4
     have H4:Hid (_):=e4
     obtain⟨hm1,hm2⟩:=hm
     have hm3:=decide_eq_true hm1
     have hm4:=decide_eq_true hm2
     clear e4 e5 e6 HS H
     go_wp2
     clear hown L hix
     generalize wr.alloc (.cells #[.int .i64 256,.int .i64 279,.int .i64 7,.int .i64 0] 191)=w1 at*
     go_loopw [3,7] (fun v i w2=>∃(j:Nat),j≤7∧i= .int .i64 (6-(j:Int))∧w2.ownsRow w.heap.size 3 1 v (l.length+j) (icells (l++highP x 7 j))∧Below w.heap.size w w2) (fun _ i _=>(intOf i+1).toNat)
     case atStart=>exact⟨0,by omega,rfl,by rw[show highP x 7 0= []from rfl,List.append_nil];exact hown1,L1⟩
     case round=>
      obtain⟨j,hj,rfl,hownj,Lj⟩:=hrel
      have hBj:w.heap.size≤wr.heap.size:=Lj.size
      by_cases hjn:j<7
      ·have e1:(6:Int)-(j:Int)=((7-1-j:Nat):Int):=by omega
       have HP:Hid (_):=Math.highP_succ x 7 j
       have hsh:=bit_shift' x (7-1-j) hxb
       have HQ:Hid ((7-1-j:Nat)+1+j=7):=by show _=_;omega
       have hq:(7-1-j:Nat)≤20:=by omega
       rw[e1]
       clear e1
       generalize x/2^(7-1-j)%2=y at*
       generalize 7-1-j=q at*
       go_wp2_with (at_builtin;refine wpList_append_own _ rfl _ _ 29 rfl w.heap.size 3 i0 (.int .i64 0) 1 8 Tryz.underlying29 hi hz0 hz1 hz2 rfl (by decide) _ _ _ rfl (hownj.alloc _) ⟨wr.heap.size,0,none⟩ 1 1 [.int .i64 y] rfl rfl ?c1 ?c2 ?c3 ?c4 ?c5 ?_)
       case c1=>exact cell_one_new _ _ _
       case c2=>intro u hu;simp at hu;subst hu;rfl
       case c3=>unfold maxLen;omega
       case c4=>omega
       case c5=>simp;omega
       ·intro v' w3 hown3 hgrow _
        have L3:Below w.heap.size w w3:=(Lj.alloc hBj _).grown hgrow (by simp;omega) (fun m h=>own_ge hownj m h)
        rw[icells_snoc,List.append_assoc,←HP.out]at hown3
        clear hownj hgrow
        go_wp2
        go_roundw
        case rel=>exact⟨j+1,by omega,by have:=HQ.out;go_num,hown3,L3⟩
        case measure=>simp[intOf]<;>omega
      ·obtain rfl:j=7:=by omega
       rw[Math.highP_all]at hownj
       have HL:Hid ((l++highL x 7).length=l.length+7):=by show _=_;rw[List.length_append,Math.highL_length]
       go_wp2
       go_roundw
       case rel=>exact⟨1,l++highL x 7,by omega,by go_num,by rw[HL.out];omega,by rw[HL.out];exact hownj,Lj,H4.out.symm⟩
       case measure=>simp[intOf]
    ·have e6:seg 256 279 7 0 s= []:=by unfold seg;rw[if_neg hm]
     rw[e6,List.append_nil]at e4
     have H4:Hid (_):=e4
     clear e4 e6 HS H
     by_cases hm1:256≤s
     ·have hm2:279<s:=by omega
      clear hm
      first
       |(exfalso;omega)
       |(go_wp2
         go_roundw
         case rel=>exact⟨1,l,by omega,by go_num,by omega,hown1,L1,H4.out.symm⟩
         case measure=>simp[intOf])
     ·clear hm
      go_wp2
      go_roundw
      case rel=>exact⟨1,l,by omega,by go_num,by omega,hown1,L1,H4.out.symm⟩
      case measure=>simp[intOf]
   ·rw[show((1:Nat):Int)=1 from rfl]
    have hix:=run_at1 wr
    have e4:fixAt s 2=l++seg 0 143 8 48 s:=HS.out
    have L1:Below w.heap.size w (wr.alloc (.cells #[.int .i64 0,.int .i64 143,.int .i64 8,.int .i64 48] 191)):=L.alloc hBr _
    have hown1:=hown.alloc (.cells #[.int .i64 0,.int .i64 143,.int .i64 8,.int .i64 48] 191)
    by_cases hm:0≤s∧s≤143
    ·obtain⟨x,hx⟩:=Int.eq_ofNat_of_zero_le (show 0≤48+s by omega)
     have hxb:x<4294967296:=by omega
     have e5:(48+s-0).toNat=x:=by omega
     have e6:seg 0 143 8 48 s=highL x 8:=by unfold seg;rw[if_pos hm,e5];rfl
     rw[e6]at e4
     have H4:Hid (_):=e4
     obtain⟨hm1,hm2⟩:=hm
     have hm3:=decide_eq_true hm1
     have hm4:=decide_eq_true hm2
     clear e4 e5 e6 HS H
     go_wp2
     clear hown L hix
     generalize wr.alloc (.cells #[.int .i64 0,.int .i64 143,.int .i64 8,.int .i64 48] 191)=w1 at*
     go_loopw [3,7] (fun v i w2=>∃(j:Nat),j≤8∧i= .int .i64 (7-(j:Int))∧w2.ownsRow w.heap.size 3 1 v (l.length+j) (icells (l++highP x 8 j))∧Below w.heap.size w w2) (fun _ i _=>(intOf i+1).toNat)
     case atStart=>exact⟨0,by omega,rfl,by rw[show highP x 8 0= []from rfl,List.append_nil];exact hown1,L1⟩
     case round=>
      obtain⟨j,hj,rfl,hownj,Lj⟩:=hrel
      have hBj:w.heap.size≤wr.heap.size:=Lj.size
      by_cases hjn:j<8
      ·have e1:(7:Int)-(j:Int)=((8-1-j:Nat):Int):=by omega
       have HP:Hid (_):=Math.highP_succ x 8 j
       have hsh:=bit_shift' x (8-1-j) hxb
       have HQ:Hid ((8-1-j:Nat)+1+j=8):=by show _=_;omega
       have hq:(8-1-j:Nat)≤20:=by omega
       rw[e1]
       clear e1
       generalize x/2^(8-1-j)%2=y at*
       generalize 8-1-j=q at*
       go_wp2_with (at_builtin;refine wpList_append_own _ rfl _ _ 29 rfl w.heap.size 3 i0 (.int .i64 0) 1 8 Tryz.underlying29 hi hz0 hz1 hz2 rfl (by decide) _ _ _ rfl (hownj.alloc _) ⟨wr.heap.size,0,none⟩ 1 1 [.int .i64 y] rfl rfl ?c1 ?c2 ?c3 ?c4 ?c5 ?_)
       case c1=>exact cell_one_new _ _ _
       case c2=>intro u hu;simp at hu;subst hu;rfl
       case c3=>unfold maxLen;omega
       case c4=>omega
       case c5=>simp;omega
       ·intro v' w3 hown3 hgrow _
        have L3:Below w.heap.size w w3:=(Lj.alloc hBj _).grown hgrow (by simp;omega) (fun m h=>own_ge hownj m h)
        rw[icells_snoc,List.append_assoc,←HP.out]at hown3
        clear hownj hgrow
        go_wp2
        go_roundw
        case rel=>exact⟨j+1,by omega,by have:=HQ.out;go_num,hown3,L3⟩
        case measure=>simp[intOf]<;>omega
      ·obtain rfl:j=8:=by omega
       rw[Math.highP_all]at hownj
       have HL:Hid ((l++highL x 8).length=l.length+8):=by show _=_;rw[List.length_append,Math.highL_length]
       go_wp2
       go_roundw
       case rel=>exact⟨2,l++highL x 8,by omega,by go_num,by rw[HL.out];omega,by rw[HL.out];exact hownj,Lj,H4.out.symm⟩
       case measure=>simp[intOf]
    ·have e6:seg 0 143 8 48 s= []:=by unfold seg;rw[if_neg hm]
     rw[e6,List.append_nil]at e4
     have H4:Hid (_):=e4
     clear e4 e6 HS H
     by_cases hm1:0≤s
     ·have hm2:143<s:=by omega
      clear hm
      first
       |(exfalso;omega)
       |(go_wp2
         go_roundw
         case rel=>exact⟨2,l,by omega,by go_num,by omega,hown1,L1,H4.out.symm⟩
         case measure=>simp[intOf])
     ·clear hm
      go_wp2
      go_roundw
      case rel=>exact⟨2,l,by omega,by go_num,by omega,hown1,L1,H4.out.symm⟩
      case measure=>simp[intOf]
   ·rw[show((2:Nat):Int)=2 from rfl]
    have hix:=run_at2 wr
    have e4:fixAt s 3=l++seg 280 287 8 192 s:=HS.out
    have L1:Below w.heap.size w (wr.alloc (.cells #[.int .i64 280,.int .i64 287,.int .i64 8,.int .i64 192] 191)):=L.alloc hBr _
    have hown1:=hown.alloc (.cells #[.int .i64 280,.int .i64 287,.int .i64 8,.int .i64 192] 191)
    by_cases hm:280≤s∧s≤287
    ·obtain⟨x,hx⟩:=Int.eq_ofNat_of_zero_le (show 0≤192+s-280 by omega)
     have hxb:x<4294967296:=by omega
     have e5:(192+s-280).toNat=x:=by omega
     have e6:seg 280 287 8 192 s=highL x 8:=by unfold seg;rw[if_pos hm,e5];rfl
     rw[e6]at e4
     have H4:Hid (_):=e4
     obtain⟨hm1,hm2⟩:=hm
     have hm3:=decide_eq_true hm1
     have hm4:=decide_eq_true hm2
     clear e4 e5 e6 HS H
     go_wp2
     clear hown L hix
     generalize wr.alloc (.cells #[.int .i64 280,.int .i64 287,.int .i64 8,.int .i64 192] 191)=w1 at*
     go_loopw [3,7] (fun v i w2=>∃(j:Nat),j≤8∧i= .int .i64 (7-(j:Int))∧w2.ownsRow w.heap.size 3 1 v (l.length+j) (icells (l++highP x 8 j))∧Below w.heap.size w w2) (fun _ i _=>(intOf i+1).toNat)
     case atStart=>exact⟨0,by omega,rfl,by rw[show highP x 8 0= []from rfl,List.append_nil];exact hown1,L1⟩
     case round=>
      obtain⟨j,hj,rfl,hownj,Lj⟩:=hrel
      have hBj:w.heap.size≤wr.heap.size:=Lj.size
      by_cases hjn:j<8
      ·have e1:(7:Int)-(j:Int)=((8-1-j:Nat):Int):=by omega
       have HP:Hid (_):=Math.highP_succ x 8 j
       have hsh:=bit_shift' x (8-1-j) hxb
       have HQ:Hid ((8-1-j:Nat)+1+j=8):=by show _=_;omega
       have hq:(8-1-j:Nat)≤20:=by omega
       rw[e1]
       clear e1
       generalize x/2^(8-1-j)%2=y at*
       generalize 8-1-j=q at*
       go_wp2_with (at_builtin;refine wpList_append_own _ rfl _ _ 29 rfl w.heap.size 3 i0 (.int .i64 0) 1 8 Tryz.underlying29 hi hz0 hz1 hz2 rfl (by decide) _ _ _ rfl (hownj.alloc _) ⟨wr.heap.size,0,none⟩ 1 1 [.int .i64 y] rfl rfl ?c1 ?c2 ?c3 ?c4 ?c5 ?_)
       case c1=>exact cell_one_new _ _ _
       case c2=>intro u hu;simp at hu;subst hu;rfl
       case c3=>unfold maxLen;omega
       case c4=>omega
       case c5=>simp;omega
       ·intro v' w3 hown3 hgrow _
        have L3:Below w.heap.size w w3:=(Lj.alloc hBj _).grown hgrow (by simp;omega) (fun m h=>own_ge hownj m h)
        rw[icells_snoc,List.append_assoc,←HP.out]at hown3
        clear hownj hgrow
        go_wp2
        go_roundw
        case rel=>exact⟨j+1,by omega,by have:=HQ.out;go_num,hown3,L3⟩
        case measure=>simp[intOf]<;>omega
      ·obtain rfl:j=8:=by omega
       rw[Math.highP_all]at hownj
       have HL:Hid ((l++highL x 8).length=l.length+8):=by show _=_;rw[List.length_append,Math.highL_length]
       go_wp2
       go_roundw
       case rel=>exact⟨3,l++highL x 8,by omega,by go_num,by rw[HL.out];omega,by rw[HL.out];exact hownj,Lj,H4.out.symm⟩
       case measure=>simp[intOf]
    ·have e6:seg 280 287 8 192 s= []:=by unfold seg;rw[if_neg hm]
     rw[e6,List.append_nil]at e4
     have H4:Hid (_):=e4
     clear e4 e6 HS H
     by_cases hm1:280≤s
     ·have hm2:287<s:=by omega
      clear hm
      first
       |(exfalso;omega)
       |(go_wp2
         go_roundw
         case rel=>exact⟨3,l,by omega,by go_num,by omega,hown1,L1,H4.out.symm⟩
         case measure=>simp[intOf])
     ·clear hm
      go_wp2
      go_roundw
      case rel=>exact⟨3,l,by omega,by go_num,by omega,hown1,L1,H4.out.symm⟩
      case measure=>simp[intOf]
   ·rw[show((3:Nat):Int)=3 from rfl]
    have hix:=run_at3 wr
    have e4:fixAt s 4=l++seg 144 255 9 400 s:=HS.out
    have L1:Below w.heap.size w (wr.alloc (.cells #[.int .i64 144,.int .i64 255,.int .i64 9,.int .i64 400] 191)):=L.alloc hBr _
    have hown1:=hown.alloc (.cells #[.int .i64 144,.int .i64 255,.int .i64 9,.int .i64 400] 191)
    by_cases hm:144≤s∧s≤255
    ·obtain⟨x,hx⟩:=Int.eq_ofNat_of_zero_le (show 0≤400+s-144 by omega)
     have hxb:x<4294967296:=by omega
     have e5:(400+s-144).toNat=x:=by omega
     have e6:seg 144 255 9 400 s=highL x 9:=by unfold seg;rw[if_pos hm,e5];rfl
     rw[e6]at e4
     have H4:Hid (_):=e4
     obtain⟨hm1,hm2⟩:=hm
     have hm3:=decide_eq_true hm1
     have hm4:=decide_eq_true hm2
     clear e4 e5 e6 HS H
     go_wp2
     clear hown L hix
     generalize wr.alloc (.cells #[.int .i64 144,.int .i64 255,.int .i64 9,.int .i64 400] 191)=w1 at*
     go_loopw [3,7] (fun v i w2=>∃(j:Nat),j≤9∧i= .int .i64 (8-(j:Int))∧w2.ownsRow w.heap.size 3 1 v (l.length+j) (icells (l++highP x 9 j))∧Below w.heap.size w w2) (fun _ i _=>(intOf i+1).toNat)
     case atStart=>exact⟨0,by omega,rfl,by rw[show highP x 9 0= []from rfl,List.append_nil];exact hown1,L1⟩
     case round=>
      obtain⟨j,hj,rfl,hownj,Lj⟩:=hrel
      have hBj:w.heap.size≤wr.heap.size:=Lj.size
      by_cases hjn:j<9
      ·have e1:(8:Int)-(j:Int)=((9-1-j:Nat):Int):=by omega
       have HP:Hid (_):=Math.highP_succ x 9 j
       have hsh:=bit_shift' x (9-1-j) hxb
       have HQ:Hid ((9-1-j:Nat)+1+j=9):=by show _=_;omega
       have hq:(9-1-j:Nat)≤20:=by omega
       rw[e1]
       clear e1
       generalize x/2^(9-1-j)%2=y at*
       generalize 9-1-j=q at*
       go_wp2_with (at_builtin;refine wpList_append_own _ rfl _ _ 29 rfl w.heap.size 3 i0 (.int .i64 0) 1 8 Tryz.underlying29 hi hz0 hz1 hz2 rfl (by decide) _ _ _ rfl (hownj.alloc _) ⟨wr.heap.size,0,none⟩ 1 1 [.int .i64 y] rfl rfl ?c1 ?c2 ?c3 ?c4 ?c5 ?_)
       case c1=>exact cell_one_new _ _ _
       case c2=>intro u hu;simp at hu;subst hu;rfl
       case c3=>unfold maxLen;omega
       case c4=>omega
       case c5=>simp;omega
       ·intro v' w3 hown3 hgrow _
        have L3:Below w.heap.size w w3:=(Lj.alloc hBj _).grown hgrow (by simp;omega) (fun m h=>own_ge hownj m h)
        rw[icells_snoc,List.append_assoc,←HP.out]at hown3
        clear hownj hgrow
        go_wp2
        go_roundw
        case rel=>exact⟨j+1,by omega,by have:=HQ.out;go_num,hown3,L3⟩
        case measure=>simp[intOf]<;>omega
      ·obtain rfl:j=9:=by omega
       rw[Math.highP_all]at hownj
       have HL:Hid ((l++highL x 9).length=l.length+9):=by show _=_;rw[List.length_append,Math.highL_length]
       go_wp2
       go_roundw
       case rel=>exact⟨4,l++highL x 9,by omega,by go_num,by rw[HL.out];omega,by rw[HL.out];exact hownj,Lj,H4.out.symm⟩
       case measure=>simp[intOf]
    ·have e6:seg 144 255 9 400 s= []:=by unfold seg;rw[if_neg hm]
     rw[e6,List.append_nil]at e4
     have H4:Hid (_):=e4
     clear e4 e6 HS H
     by_cases hm1:144≤s
     ·have hm2:255<s:=by omega
      clear hm
      first
       |(exfalso;omega)
       |(go_wp2
         go_roundw
         case rel=>exact⟨4,l,by omega,by go_num,by omega,hown1,L1,H4.out.symm⟩
         case measure=>simp[intOf])
     ·clear hm
      go_wp2
      go_roundw
      case rel=>exact⟨4,l,by omega,by go_num,by omega,hown1,L1,H4.out.symm⟩
      case measure=>simp[intOf]
   ·rw[H.out,HA.out]at hown
    go_wp2
    go_ret
    exact⟨_,rfl,hown,L⟩
 ·have e:fixL s= []:=by unfold fixL;rw[if_neg (by omega),if_neg (by omega),if_neg (by omega),if_neg (by omega)]
  rw[e]
  clear e
  go_enter Tryz.func214,Tryz.ntmps214
  go_wp2
  go_ret
  exact⟨_,rfl,own_new _ _,new_below _ _⟩

end Pk
end Go.Proofs.YtcjgkmhpeedhiaaGreatDoor

/- The mathematics of chapter 3: the pieces of a text. -/
namespace Go.Proofs.YtcjgkmhpeedhiaaGreatDoor
namespace Math

def runFrom (s:ByteArray) (e l:Nat):Nat→Nat→Nat
 |0,n=>n
 |f+1,n=>if l+n<s.size∧s[e+n]? =s[l+n]? then runFrom s e l f (n+1)else n

def run (s:ByteArray) (e l:Nat):Nat:=runFrom s e l 258 0

theorem runFrom_le (s:ByteArray) (e l f n:Nat):runFrom s e l f n≤n+f:=by
 induction f generalizing n with
 |zero=>exact Nat.le_refl _
 |succ f ih=>
  unfold runFrom
  split
  ·have:=ih (n+1);omega
  ·omega

theorem runFrom_fits (s:ByteArray) (e l f n:Nat) (h:l+n≤s.size):l+runFrom s e l f n≤s.size:=by
 induction f generalizing n with
 |zero=>exact h
 |succ f ih=>
  unfold runFrom
  split
  ·rename_i h1
   exact ih (n+1) (by omega)
  ·exact h

theorem run_le (s:ByteArray) (e l:Nat):run s e l≤258:=by
 have:=runFrom_le s e l 258 0
 unfold run
 omega

theorem run_fits (s:ByteArray) (e l:Nat) (h:l≤s.size):l+run s e l≤s.size:=runFrom_fits s e l 258 0 h

theorem runFrom_yes (s:ByteArray) (e l n:Nat) (hn:n<258) (h:l+n<s.size) (hs:s[e+n]? =s[l+n]?):runFrom s e l (258-n) n=runFrom s e l (258-(n+1)) (n+1):=by
 rw[show 258-n=(258-(n+1))+1 by omega,runFrom,if_pos ⟨h,hs⟩]

theorem runFrom_no (s:ByteArray) (e l n:Nat) (h:¬(n<258∧l+n<s.size∧s[e+n]? =s[l+n]?)):runFrom s e l (258-n) n=n:=by
 by_cases hn:n<258
 ·rw[show 258-n=(258-(n+1))+1 by omega,runFrom,if_neg (by intro h1;exact h ⟨hn,h1.1,h1.2⟩)]
 ·rw[show 258-n=0 by omega]
  rfl

def best (s:ByteArray) (i:Nat):Nat→Nat×Nat
 |0=>(0,0)
 |k+1=>if(best s i k).1<run s (i-(k+1)) i then(run s (i-(k+1)) i,k+1)else best s i k

theorem best_le (s:ByteArray) (i k:Nat):(best s i k).1≤258∧(best s i k).2≤k:=by
 induction k with
 |zero=>exact⟨by simp[best],by simp[best]⟩
 |succ k ih=>
  unfold best
  split
  ·exact⟨run_le _ _ _,Nat.le_refl _⟩
  ·exact⟨ih.1,by omega⟩

theorem best_fits (s:ByteArray) (i k:Nat) (h:i≤s.size):i+(best s i k).1≤s.size:=by
 induction k with
 |zero=>simpa [best]using h
 |succ k ih=>
  unfold best
  split
  ·exact run_fits _ _ _ h
  ·exact ih

def far (i:Nat):Nat:=min i 1024

def pieceAt (s:ByteArray) (i:Nat):Pc:=if 3≤(best s i (far i)).1 then⟨0,(best s i (far i)).1,(best s i (far i)).2⟩else⟨((s.data.toList.getD i 0).toNat:Int),0,0⟩
def stepAt (s:ByteArray) (i:Nat):Nat:=if 3≤(best s i (far i)).1 then(best s i (far i)).1 else 1

def pcsFrom (s:ByteArray):Nat→Nat→List Pc
 |0,_=> []
 |f+1,i=>if i<s.size then pieceAt s i::pcsFrom s f (i+stepAt s i)else[]

def pieces (s:ByteArray):List Pc:=if s.size≤3000 then pcsFrom s s.size 0 else[]

theorem stepAt_pos (s:ByteArray) (i:Nat):1≤stepAt s i:=by
 unfold stepAt
 split
 ·omega
 ·omega

theorem stepAt_fits (s:ByteArray) (i:Nat) (h:i<s.size):i+stepAt s i≤s.size:=by
 unfold stepAt
 split
 ·exact best_fits s i _ (by omega)
 ·omega

theorem pcsFrom_step (s:ByteArray) (n i:Nat) (hi:i<s.size) (hn:n≤i):pcsFrom s (s.size-n) i=pieceAt s i::pcsFrom s (s.size-(n+1)) (i+stepAt s i):=by
 rw[show s.size-n=(s.size-(n+1))+1 by omega,pcsFrom,if_pos hi]

theorem pcsFrom_end (s:ByteArray) (f i:Nat) (hi:¬i<s.size):pcsFrom s f i= []:=by
 cases f with
 |zero=>rfl
 |succ f=>rw[pcsFrom,if_neg hi]

end Math
end Go.Proofs.YtcjgkmhpeedhiaaGreatDoor

/- The mathematics of chapter 3: the bits of pieces. -/
namespace Go.Proofs.YtcjgkmhpeedhiaaGreatDoor
namespace Pk
open Math (Pc Bits lowL highL)

theorem fixL_bits (s:Int):Bits (fixL s):=by
 unfold fixL
 split
 ·exact Math.highL_bits _ _
 split
 ·exact Math.highL_bits _ _
 split
 ·exact Math.highL_bits _ _
 split
 ·exact Math.highL_bits _ _
 ·exact Bits.nil

theorem fixL_length (s:Int):(fixL s).length≤9:=by
 unfold fixL
 split
 ·rw[Math.highL_length];omega
 split
 ·rw[Math.highL_length];omega
 split
 ·rw[Math.highL_length];omega
 split
 ·rw[Math.highL_length];omega
 ·simp

theorem fixL_pos (s:Int) (h0:0≤s) (h1:s≤285):7≤(fixL s).length:=by
 unfold fixL
 split
 ·rw[Math.highL_length];omega
 split
 ·rw[Math.highL_length];omega
 split
 ·rw[Math.highL_length];omega
 split
 ·rw[Math.highL_length];omega
 ·omega

def PcOk (p:Pc):Prop:=(p.n=0∧p.d=0∧0≤p.x∧p.x≤255)∨(p.x=0∧3≤p.n∧p.n≤258∧1≤p.d∧p.d≤1024)

theorem best_back (s:ByteArray) (i k:Nat) (h:1≤(Math.best s i k).1):1≤(Math.best s i k).2:=by
 induction k with
 |zero=>simp[Math.best]at h
 |succ k ih=>
  unfold Math.best at h⊢
  split
  ·simp
  ·rename_i h2
   rw[if_neg h2]at h
   exact ih h

theorem pieceAt_ok (s:ByteArray) (i:Nat):PcOk (Math.pieceAt s i):=by
 unfold Math.pieceAt
 split
 ·rename_i h
  have h1:=Math.best_le s i (Math.far i)
  have h2:=best_back s i (Math.far i) (by omega)
  have h3:Math.far i≤1024:=by unfold Math.far;omega
  exact Or.inr ⟨rfl,by show(3:Int)≤((Math.best s i (Math.far i)).1:Int);omega,by show((Math.best s i (Math.far i)).1:Int)≤258;omega,by show(1:Int)≤((Math.best s i (Math.far i)).2:Int);omega,by show((Math.best s i (Math.far i)).2:Int)≤1024;omega⟩
 ·have h4:=(s.data.toList.getD i 0).toNat_lt
  exact Or.inl ⟨rfl,rfl,by show(0:Int)≤((s.data.toList.getD i 0).toNat:Int);omega,by show((s.data.toList.getD i 0).toNat:Int)≤255;omega⟩

theorem pcsFrom_ok (s:ByteArray) (f i:Nat):∀p∈Math.pcsFrom s f i,PcOk p:=by
 induction f generalizing i with
 |zero=>intro p hp;simp[Math.pcsFrom]at hp
 |succ f ih=>
  intro p hp
  unfold Math.pcsFrom at hp
  split at hp
  ·rcases List.mem_cons.1 hp with rfl|hp
   ·exact pieceAt_ok s i
   ·exact ih _ p hp
  ·cases hp

theorem pieces_ok (s:ByteArray):∀p∈Math.pieces s,PcOk p:=by
 unfold Math.pieces
 split
 ·exact pcsFrom_ok s _ _
 ·intro p hp;cases hp

def pcBits (p:Pc):List Nat:=if p.n=0 then fixL p.x else fixL (lenC p.n)++lowL (lenX p.n).toNat (lenB p.n).toNat++highL (backC p.d).toNat 5++lowL (backX p.d).toNat (backB p.d).toNat

def pcsBits:List Pc→List Nat
 | []=> []
 |p::r=>pcBits p++pcsBits r

theorem pcsBits_append (a b:List Pc):pcsBits (a++b)=pcsBits a++pcsBits b:=by
 induction a with
 |nil=>rfl
 |cons p a ih=>show pcBits p++pcsBits (a++b)=_;rw[ih,←List.append_assoc];rfl

theorem pcsBits_take (ps:List Pc) (k:Nat) (h:k<ps.length):pcsBits (ps.take (k+1))=pcsBits (ps.take k)++pcBits ps[k]:=by
 rw[List.take_add_one,List.getElem?_eq_getElem h,pcsBits_append]
 show _++(pcBits ps[k]++ [])=_
 rw[List.append_nil]

theorem copy_nums (n d:Int) (h:3≤n∧n≤258∧1≤d∧d≤1024):
 (257≤lenC n∧lenC n≤285)∧(0≤lenB n∧lenB n≤15)∧(0≤lenX n∧lenX n≤40000)∧(0≤backC d∧backC d≤40000)∧(0≤backB d∧backB d≤15)∧(0≤backX d∧backX d≤40000):=by
 have hb:∀k r:Nat,k<32768→r≤2→Math.nbits r k≤15∧Math.codeX r k<32768:=by
  intro k r hk hr
  have h1:=blen_bd k 15 (by omega)
  refine⟨by unfold Math.nbits;omega,?_⟩
  unfold Math.codeX
  exact Nat.lt_of_le_of_lt (Nat.mod_le _ _) hk
 obtain⟨k,hk⟩:=Int.eq_ofNat_of_zero_le (show 0≤d-1 by omega)
 obtain rfl:d=(k:Int)+1:=by omega
 obtain⟨b1,b2,b3⟩:=back_yes k (by omega)
 rw[b1,b2,b3]
 have hk2:=hb k 1 (by omega) (by omega)
 have hcb:Math.codeC 1 k≤40000:=by
  unfold Math.codeC
  have h3:k/2^Math.nbits 1 k≤k:=Nat.div_le_self _ _
  omega
 by_cases h2:n=258
 ·subst h2
  obtain⟨e1,e2,e3⟩:=len_top
  rw[e1,e2,e3]
  omega
 ·obtain⟨m,hm⟩:=Int.eq_ofNat_of_zero_le (show 0≤n-3 by omega)
  obtain rfl:n=(m:Int)+3:=by omega
  obtain⟨e1,e2,e3⟩:=len_yes m (by omega)
  rw[e1,e2,e3]
  have hm2:=hb m 2 (by omega) (by omega)
  have hcl:Math.codeC 2 m≤28:=by
   obtain⟨c,c1,c2⟩:=Math.code_at 4 m (by omega)
   have hc:=(Math.code_of 2 c m c1 c2).1
   rw[hc]
   apply Classical.byContradiction
   intro hn
   have h1:Math.cleast 4 29≤Math.cleast 4 c:=Math.cleast_mono 4 29 c (by omega) (by omega)
   have h2:Math.cleast 4 29=320:=by decide
   omega
  omega

theorem pcBits_length (p:Pc) (h:PcOk p):(pcBits p).length≤44:=by
 unfold pcBits
 split
 ·have:=fixL_length p.x;omega
 ·rename_i h0
  rcases h with h|h
  ·omega
  ·obtain⟨-,h1,-,-,h2,-⟩:=copy_nums p.n p.d ⟨h.2.1,h.2.2.1,h.2.2.2.1,h.2.2.2.2⟩
   have:=fixL_length (lenC p.n)
   simp only[List.length_append,Math.lowL_length,Math.highL_length]
   omega

theorem pcBits_bits (p:Pc):Bits (pcBits p):=by
 unfold pcBits
 split
 ·exact fixL_bits _
 ·exact(((fixL_bits _).append (Math.lowL_bits _ _)).append (Math.highL_bits _ _)).append (Math.lowL_bits _ _)

theorem pcsBits_bits (ps:List Pc):Bits (pcsBits ps):=by
 induction ps with
 |nil=>exact Bits.nil
 |cons p r ih=>exact(pcBits_bits p).append ih

theorem pcsBits_length (ps:List Pc) (h:∀p∈ps,PcOk p):(pcsBits ps).length≤44*ps.length:=by
 induction ps with
 |nil=>simp[pcsBits]
 |cons p r ih=>
  have h1:=pcBits_length p (h p (List.mem_cons_self ..))
  have h2:=ih fun q hq=>h q (List.mem_cons_of_mem _ hq)
  show(pcBits p++pcsBits r).length≤_
  rw[List.length_append,List.length_cons]
  omega

def packL (s:ByteArray):List Nat:= [1,1,0]++pcsBits (Math.pieces s)++fixL 256

def packS (s:ByteArray):ByteArray:=if s.size≤3000 then⟨(Math.bytesOf (packL s)).toArray⟩else⟨#[]⟩

theorem packS_yes (s:ByteArray) (h:s.size≤3000):packS s=⟨(Math.bytesOf (packL s)).toArray⟩:=if_pos h

theorem packS_no (s:ByteArray) (h:¬s.size≤3000):packS s=⟨#[]⟩:=if_neg h

end Pk
end Go.Proofs.YtcjgkmhpeedhiaaGreatDoor

/- The mathematics of chapter 3: the pieces of a text make it up, and none of them could be longer. -/
namespace Go.Proofs.YtcjgkmhpeedhiaaGreatDoor
namespace Math

theorem runFrom_same (s:ByteArray) (e l f n:Nat) (h:∀j,j<n→s[e+j]? =s[l+j]?):∀j,j<runFrom s e l f n→s[e+j]? =s[l+j]? :=by
 induction f generalizing n with
 |zero=>exact h
 |succ f ih=>
  unfold runFrom
  split
  ·rename_i h1
   refine ih (n+1) fun j hj=> ?_
   by_cases e:j=n
   ·subst e;exact h1.2
   ·exact h j (by omega)
  ·exact h

theorem run_same (s:ByteArray) (e l j:Nat) (h:j<run s e l):s[e+j]? =s[l+j]? :=runFrom_same s e l 258 0 (fun j hj=>by omega) j h

theorem runFrom_max (s:ByteArray) (e l f n:Nat) (h:runFrom s e l f n<n+f):¬(l+runFrom s e l f n<s.size∧s[e+runFrom s e l f n]? =s[l+runFrom s e l f n]?):=by
 induction f generalizing n with
 |zero=>unfold runFrom at h;omega
 |succ f ih=>
  by_cases h1:l+n<s.size∧s[e+n]? =s[l+n]?
  ·have e1:runFrom s e l (f+1) n=runFrom s e l f (n+1):=by rw[runFrom,if_pos h1]
   rw[e1]at h⊢
   exact ih (n+1) (by omega)
  ·have e1:runFrom s e l (f+1) n=n:=by rw[runFrom,if_neg h1]
   rw[e1]
   exact h1

theorem run_max (s:ByteArray) (e l:Nat) (h:run s e l<258) (h1:l+run s e l<s.size):s[e+run s e l]? ≠s[l+run s e l]? :=fun h2=>runFrom_max s e l 258 0 (by show run s e l<0+258;omega) ⟨h1,h2⟩

theorem best_run (s:ByteArray) (i k:Nat) (h:1≤(best s i k).1):(best s i k).1=run s (i-(best s i k).2) i∧1≤(best s i k).2:=by
 induction k with
 |zero=>simp[best]at h
 |succ k ih=>
  unfold best at h⊢
  split
  ·exact⟨rfl,by simp⟩
  ·rename_i h2
   rw[if_neg h2]at h
   exact ih h

def posAt (s:ByteArray):Nat→Nat
 |0=>0
 |k+1=>posAt s k+stepAt s (posAt s k)

theorem pos_inv (s:ByteArray) (hs:s.size≤3000) (k:Nat) (hk:k≤(pieces s).length):(pieces s).drop k=pcsFrom s (s.size-k) (posAt s k)∧k≤posAt s k∧posAt s k≤s.size:=by
 have e0:pieces s=pcsFrom s s.size 0:=if_pos hs
 induction k with
 |zero=>exact⟨by rw[e0];rfl,Nat.le_refl _,Nat.zero_le _⟩
 |succ k ih=>
  obtain⟨h1,h2,h3⟩:=ih (by omega)
  have hlt:posAt s k<s.size:=by
   apply Classical.byContradiction
   intro hn
   rw[pcsFrom_end s _ _ hn]at h1
   have:=congrArg List.length h1
   rw[List.length_drop]at this
   simp at this
   omega
  rw[pcsFrom_step s k (posAt s k) hlt h2]at h1
  have hst:=stepAt_pos s (posAt s k)
  refine⟨?_,by unfold posAt;omega,by unfold posAt;exact stepAt_fits s _ hlt⟩
  have h4:=congrArg List.tail h1
  rw[List.tail_drop]at h4
  exact h4

theorem pos_at (s:ByteArray) (hs:s.size≤3000) (k:Nat) (hk:k<(pieces s).length):(pieces s)[k]=pieceAt s (posAt s k)∧posAt s k<s.size:=by
 obtain⟨h1,h2,h3⟩:=pos_inv s hs k (by omega)
 have hlt:posAt s k<s.size:=by
  apply Classical.byContradiction
  intro hn
  rw[pcsFrom_end s _ _ hn]at h1
  have:=congrArg List.length h1
  rw[List.length_drop]at this
  simp at this
  omega
 rw[pcsFrom_step s k (posAt s k) hlt h2,List.drop_eq_getElem_cons hk]at h1
 exact⟨(List.cons.inj h1).1,hlt⟩

theorem pos_end (s:ByteArray) (hs:s.size≤3000):posAt s (pieces s).length=s.size:=by
 obtain⟨h1,h2,h3⟩:=pos_inv s hs _ (Nat.le_refl _)
 apply Classical.byContradiction
 intro hn
 rw[List.drop_length,pcsFrom_step s _ _ (by omega) h2]at h1
 cases h1

theorem getD_byte (s:ByteArray) (i:Nat):s[i]? =s.data.toList[i]? :=by
 by_cases h:i<s.size
 ·rw[getElem?_pos s i h]
  have h1:i<s.data.toList.length:=by rw[Array.length_toList];exact h
  rw[List.getElem?_eq_getElem h1]
  rfl
 ·rw[getElem?_neg s i h,List.getElem?_eq_none (by rw[Array.length_toList];exact Nat.le_of_not_lt h)]

theorem copy_take (s:ByteArray) (i d n:Nat) (hd:1≤d) (hdi:d≤i) (hn:i+n≤s.size) (h:∀j,j<n→s[i-d+j]? =s[i+j]?) (m:Nat) (hm:m≤n):
 copyN (s.data.toList.take i) d m=s.data.toList.take (i+m):=by
 have hl:s.data.toList.length=s.size:=Array.length_toList
 induction m with
 |zero=>rfl
 |succ m ih=>
  rw[copyN,ih (by omega)]
  have hlen:(s.data.toList.take (i+m)).length=i+m:=by rw[List.length_take];omega
  have hmi:i+m<s.data.toList.length:=by omega
  rw[hlen,show i+(m+1)=i+m+1 by omega,List.take_add_one,List.getElem?_eq_getElem hmi]
  congr 1
  have h2:=h m (by omega)
  rw[getD_byte,getD_byte,List.getElem?_eq_getElem hmi]at h2
  rw[List.getD_eq_getElem?_getD,List.getElem?_take,if_pos (by omega),show i+m-d=i-d+m by omega,h2]
  rfl

theorem piece_cases (s:ByteArray) (i:Nat) (hi:i<s.size):
 (∃n d:Nat,pieceAt s i=⟨0,n,d⟩∧stepAt s i=n∧3≤n∧n≤258∧1≤d∧d≤i∧d≤1024∧i+n≤s.size∧(∀j,j<n→s[i-d+j]? =s[i+j]?)∧(n<258→i+n<s.size→s[i-d+n]? ≠s[i+n]?))∨
 (pieceAt s i=⟨(s[i].toNat:Int),0,0⟩∧stepAt s i=1):=by
 by_cases h:3≤(best s i (far i)).1
 ·left
  obtain⟨h1,h2⟩:=best_run s i (far i) (by omega)
  obtain⟨h3,h4⟩:=best_le s i (far i)
  have h5:=best_fits s i (far i) (by omega)
  have h6:far i≤i∧far i≤1024:=by unfold far;omega
  refine⟨(best s i (far i)).1,(best s i (far i)).2,by unfold pieceAt;rw[if_pos h],by unfold stepAt;rw[if_pos h],h,h3,h2,by omega,by omega,h5,?_,?_⟩
  ·intro j hj
   rw[h1]at hj
   exact run_same s _ i j hj
  ·intro h7 h8
   have:=run_max s (i-(best s i (far i)).2) i (by rw[←h1];exact h7) (by rw[←h1];exact h8)
   rw[←h1]at this
   exact this
 ·right
  refine⟨?_,by unfold stepAt;rw[if_neg h]⟩
  unfold pieceAt
  rw[if_neg h]
  have h1:i<s.data.toList.length:=by rw[Array.length_toList];exact hi
  rw[List.getD_eq_getElem?_getD,List.getElem?_eq_getElem h1]
  rfl

end Math
end Go.Proofs.YtcjgkmhpeedhiaaGreatDoor

/- Contracts of the program's writer of bits. -/
namespace Go.Proofs.YtcjgkmhpeedhiaaGreatDoor
namespace Pk
open Go.ChangeShapes Go.WideShapes Go.ChangeAt Go.RowKit
open Math (Bits bytesOf)
set_option linter.unusedSimpArgs false
set_option linter.unusedVariables false

theorem heap_set {w:World} {c i:Nat} {cs:Array Value} {t:TypeId} {f:Nat×Nat} (h:w.heap[c]? =some (.cells cs t f)) (u:Value):(w.setCell ⟨c,i,none⟩ u).heap[c]? =some (.cells (cs.setIfInBounds i u) t f):=by
 unfold World.setCell
 simp[Array.getElem?_modify,h]

theorem heap_set_other {w:World} {c g i:Nat} {x:Obj} (h:w.heap[c]? =some x) (hne:c≠g) (u:Value):(w.setCell ⟨g,i,none⟩ u).heap[c]? =some x:=by
 rw[Below.heap_setCell w ⟨g,i,none⟩ u c hne]
 exact h

theorem own_set {w:World} {base e g n cap i:Nat} {xs:List Value} (h:w.ownsRow base e 1 (.slice (some ⟨g,0,none⟩) n cap) n xs) (hi:i<n) (u:Value):(w.setCell ⟨g,i,none⟩ u).ownsRow base e 1 (.slice (some ⟨g,0,none⟩) n cap) n (xs.set i u):=by
 obtain⟨hl,h2⟩:=h
 rcases h2 with⟨hv,-⟩|⟨g',cap',cur,hv,hg,hh,h1,h3,h4,h5⟩
 ·cases hv
 ·simp only[Value.slice.injEq,Option.some.injEq,Addr.mk.injEq]at hv
  obtain⟨⟨rfl,-⟩,-,rfl⟩:=hv
  refine⟨by rw[List.length_set];exact hl,Or.inr ⟨g,cap,_,rfl,hg,heap_set hh u,h1,h3,by rw[Array.size_setIfInBounds];exact h4,?_⟩⟩
  rw[Array.toList_setIfInBounds,←h5,List.take_set]

def KeepT (w w1:World):Prop:=∀(k:Nat) (cs:Array Value) (t:TypeId) (f:Nat×Nat),w.heap[k]? =some (.cells cs t f)→t≠5→t≠233→w1.heap[k]? =some (.cells cs t f)

theorem KeepT.refl (w:World):KeepT w w:=fun _ _ _ _ h _ _=>h

theorem KeepT.trans {w w1 w2:World} (h:KeepT w w1) (g:KeepT w1 w2):KeepT w w2:=fun k cs t f m h1 h2=>g k cs t f (h k cs t f m h1 h2) h1 h2

theorem KeepT.set {w w1:World} {c i:Nat} {cs:Array Value} {t:TypeId} {f:Nat×Nat} (h:KeepT w w1) (m:w1.heap[c]? =some (.cells cs t f)) (ht:t=5∨t=233) (u:Value):KeepT w (w1.setCell ⟨c,i,none⟩ u):=by
 intro k cs' t' f' m' h1 h2
 have m1:=h k cs' t' f' m' h1 h2
 by_cases e:k=c
 ·subst e
  rw[m]at m1
  simp only[Option.some.injEq,Obj.cells.injEq]at m1
  rcases ht with ht|ht
  ·exact absurd (m1.2.1.symm.trans ht) h1
  ·exact absurd (m1.2.1.symm.trans ht) h2
 ·exact heap_set_other m1 e u

theorem KeepT.drew {w w1:World} (h:KeepT w w1):KeepT w w1.drew:=h

theorem KeepT.of {w w1:World} (L:Below w.heap.size w w1):KeepT w w1:=fun _ _ _ _ m _ _=>kept L (lt_of m) m

theorem KeepT.row {w w1:World} {base e size:Nat} {v:Value} {n:Nat} {xs:List Value} (K:KeepT w w1) (h:w.ownsRow base e size v n xs) (h1:e≠5) (h2:e≠233):w1.ownsRow base e size v n xs:=by
 obtain⟨ha,hb⟩:=h
 refine⟨ha,?_⟩
 rcases hb with hb|⟨g,cap,cur,hv,hg,hh,hr⟩
 ·exact Or.inl hb
 ·exact Or.inr ⟨g,cap,cur,hv,hg,K _ _ _ _ hh h1 h2,hr⟩

theorem KeepT.two {w:World} {g c q:Nat} {cur cs:Array Value} {u u2:Value} (hh:w.heap[g]? =some (.cells cur 5)) (m:w.heap[c]? =some (.cells cs 233)) (hgc:g≠c):KeepT w ((w.setCell ⟨g,q,none⟩ u).setCell ⟨c,1,none⟩ u2).drew:=
 (((KeepT.refl w).set hh (Or.inl rfl) u).set (heap_set_other m (Ne.symm hgc) u) (Or.inr rfl) u2).drew

def Wr (B c:Nat) (l:List Nat) (w:World):Prop:=B≤c∧Bits l∧∃v,w.heap[c]? =some (.cells #[v,.int .i64 (l.length:Int)] 233)∧w.ownsRow B 5 1 v (bytesOf l).length (bcells (bytesOf l))

theorem own_block {w:World} {base e size g n cap:Nat} {xs:List Value} (h:w.ownsRow base e size (.slice (some ⟨g,0,none⟩) n cap) n xs):∃cur,w.heap[g]? =some (.cells cur e):=by
 obtain⟨-,h2⟩:=h
 rcases h2 with⟨hv,-⟩|⟨g',cap',cur,hv,hg,hh,-⟩
 ·cases hv
 ·simp only[Value.slice.injEq,Option.some.injEq,Addr.mk.injEq]at hv
  rw[hv.1.1]
  exact⟨cur,hh⟩

theorem own_type {w:World} {base e size:Nat} {v:Value} {n:Nat} {xs:List Value} (h:w.ownsRow base e size v n xs):∀g,v.ownBlock=some g→∃cur,w.heap[g]? =some (.cells cur e):=by
 obtain⟨-,h2⟩:=h
 intro g hg
 rcases h2 with⟨hv,-⟩|⟨g',cap',cur,hv,-,hh,-⟩
 ·rw[hv]at hg
  cases hg
 ·rw[hv]at hg
  simp only[Value.ownBlock,Option.some.injEq]at hg
  subst hg
  exact⟨cur,hh⟩

theorem KeepT.grown {w w1 w2:World} {o:Option Nat} (K:KeepT w w1) (G:w1.grownBy w2 o) (ho:∀g,o=some g→∃cur,w1.heap[g]? =some (.cells cur 5)):KeepT w w2:=by
 intro k cs t f m h1 h2
 have m1:=K k cs t f m h1 h2
 rw[G.block k (lt_of m1) (by
  intro e
  obtain⟨cur,hc⟩:=ho k e.symm
  rw[hc]at m1
  simp only[Option.some.injEq,Obj.cells.injEq]at m1
  exact h1 m1.2.1.symm)]
 exact m1

theorem bcells_set (l:List UInt8) (i:Nat) (b:UInt8):(bcells l).set i (.int .u8 (b.toNat:Int))=bcells (l.set i b):=by simp[bcells,List.map_set]

theorem wrap_small (z:Nat) (h:z<256):wrap64 (z:Int)%256=(z:Int):=by
 unfold wrap64
 omega

theorem or_val (X b r:Nat) (hlow:X<2^r) (hsum:X+b*2^r<256):bits BinOp.or IntKind.u8 (X:Int) (wrap64 ((b:Int)*2^r)%256)=((UInt8.ofNat (X+b*2^r)).toNat:Int):=by
 have e4:(b:Int)*2^r=((b*2^r:Nat):Int):=by simp
 rw[e4,wrap_small _ (by omega),Math.bits_or_u8 X (b*2^r) (by omega) (by omega),Math.or_low X b r hlow,UInt8.toNat_ofNat',Nat.mod_eq_of_lt hsum]

theorem bit_end {B c N q g M cap:Nat} {l:List Nat} {b:Nat} {w:World} {y:Int} {z:UInt8} {bs:List UInt8} (hBc:B≤c) (hbits:Bits l) (hb:b≤1) (HL:l.length=N) (m:w.heap[c]? =some (.cells #[.slice (some ⟨g,0,none⟩) M cap,.int .i64 (N:Int)] 233)) (hgc:g≠c)
 (hown:w.ownsRow B 5 1 (.slice (some ⟨g,0,none⟩) M cap) M (bcells bs)) (hq:q<M) (hM:bs.length=M) (hne:(Value.slice (some ⟨g,0,none⟩) M cap).ownBlock≠some c) (hy:y=(z.toNat:Int)) (hset:bytesOf (l++ [b])=bs.set q z):
 Wr B c (l++ [b]) ((w.setCell ⟨g,q,none⟩ (.int .u8 y)).setCell ⟨c,1,none⟩ (.int .i64 ((N:Int)+1))).drew:=by
 subst hy
 refine⟨hBc,hbits.append (Math.Bits.one hb),.slice (some ⟨g,0,none⟩) M cap,?_,?_⟩
 ·have h1:=heap_set (i:=1) (heap_set_other (g:=g) (i:=q) m (Ne.symm hgc) (.int .u8 (z.toNat:Int))) (.int .i64 ((N:Int)+1))
  have e:((l++ [b]).length:Int)=(N:Int)+1:=by rw[List.length_append,HL];simp
  rw[e]
  exact h1
 ·have h1:=ownsRow_setCell_other (own_set hown (i:=q) hq (.int .u8 (z.toNat:Int))) (a:=⟨c,1,none⟩) hne (.int .i64 ((N:Int)+1))
  rw[bcells_set,←hset]at h1
  have h2:(bytesOf (l++ [b])).length=M:=by rw[hset,List.length_set];exact hM
  rw[h2]
  exact h1

theorem or_zero (b:Nat) (hb:b≤1):bits BinOp.or IntKind.u8 0 (b:Int)=((UInt8.ofNat b).toNat:Int):=by
 have h:=Math.bits_or_u8 0 b (by omega) (by omega)
 rw[Nat.zero_or]at h
 rw[UInt8.toNat_ofNat',Nat.mod_eq_of_lt (by omega)]
 exact h

theorem set_last (l:List UInt8) (x y:UInt8) (q:Nat) (h:l.length=q):(l++ [x]).set q y=l++ [y]:=by
 subst h
 simp

set_option maxHeartbeats 2000000 in
theorem bit_more (B c N q r:Nat) (l:List Nat) (b:Nat) (w:World) (H:Wr B c l w) (hb:b≤1) (hN:N≤1000000) (HL:Hid (l.length=N)) (hq:N=8*q+r) (hr:r<8) (hr0:r≠0):
 Calls Tryz.prog 207 #[.pointer (some ⟨c,0,none⟩),.int .i64 b] w fun e w'=>e= .returned (.tuple #[])∧Wr B c (l++ [b]) w'∧Below B w w'∧KeepT w w':=by
 obtain⟨hBc,hbits,v,m,hown⟩:=H
 have hlen:=Math.bytesOf_length l
 rw[HL.out]at m hlen
 obtain⟨g,cap,rfl,hg1,hg2,u,hu,hc⟩:=own_at hown q (by omega)
 have hne:=own_ne' hown m (by decide)
 have hbl:(bytesOf l)[q]'(by omega)=UInt8.ofNat (Math.byteAt l q):=by simp[bytesOf]
 rw[bcells_at _ _ (by omega),hbl]at hu
 simp only[Option.some.injEq]at hu
 subst hu
 have hbt:=Math.byteAt_lt hbits q
 rw[UInt8.toNat_ofNat',Nat.mod_eq_of_lt hbt]at hc
 have hlow:=Math.byteAt_low hbits
 have hmore:=Math.bytesOf_more l b (by rw[HL.out];omega)
 rw[HL.out,show N/8=q by omega,show N%8=r by omega]at hlow hmore
 have HM:Hid (_):=hmore
 clear hmore hbl
 generalize Math.byteAt l q=X at*
 have hsum:X+b*2^r<256:=by
  have h2:2^r≤2^7:=Nat.pow_le_pow_right (by omega) (by omega)
  have h3:b*2^r≤1*2^r:=Nat.mul_le_mul_right _ hb
  omega
 obtain⟨cur,hh⟩:=own_block hown
 have HHH:Hid (_):=hh
 have hf:w.frozen? ⟨g,q,none⟩=false:=frozen_at hh q
 clear hh
 have c0:w.cell? ⟨c,0,none⟩=some (.slice (some ⟨g,0,none⟩) (bytesOf l).length cap):=cell_at m 0
 have c1:w.cell? ⟨c,1,none⟩=some (.int .i64 N):=cell_at m 1
 have f1:w.frozen? ⟨c,1,none⟩=false:=frozen_at m 1
 have hgc:g≠c:=fun e=>hne (by rw[e];rfl)
 have e1:(N:Int)/8=q:=by omega
 have e2:(N:Int)%8=r:=by omega
 have e3:((r:Int)==0)=false:=by rw[beq_eq_false_iff_ne];omega
 have hql:(q:Int)<(bytesOf l).length:=by omega
 have HQ:Hid (N=8*q+r):=hq
 have HMM:Hid (_):=m
 have HNE:Hid (_):=hne
 have HLN:Hid ((bytesOf l).length=(N+7)/8):=hlen
 clear hq hlen hne m hbt
 generalize hML:(bytesOf l).length=M at*
 have HML:Hid (_):=hML
 clear hML
 go_enter Tryz.func207,Tryz.ntmps207
 go_wp2
 go_region
 go_wp2
 go_end0
 exact⟨rfl,bit_end hBc hbits hb HL HMM.out hgc hown (by omega) HML.out HNE.out (or_val X b r hlow hsum) HM.out,(((Below.refl B w).setCell hg1 _).setCell hBc _).drew,KeepT.two HHH.out HMM.out hgc⟩

set_option maxHeartbeats 2000000 in
theorem bit_new (B c N q:Nat) (l:List Nat) (b:Nat) (w:World) (H:Wr B c l w) (hB:B≤w.heap.size) (hb:b≤1) (hN:N≤1000000) (HL:Hid (l.length=N)) (hq:N=8*q):
 Calls Tryz.prog 207 #[.pointer (some ⟨c,0,none⟩),.int .i64 b] w fun e w'=>e= .returned (.tuple #[])∧Wr B c (l++ [b]) w'∧Below B w w'∧KeepT w w':=by
 obtain⟨i0,hi,hz0,hz1,hz2⟩:=info_of info_u8
 obtain⟨hBc,hbits,v,m,hown⟩:=H
 have hlen:=Math.bytesOf_length l
 rw[HL.out]at m hlen
 have hM:(bytesOf l).length=q:=by omega
 rw[hM]at hown
 have hnew:=Math.bytesOf_new l b (by rw[HL.out];omega)
 have HW:Hid (_):=hnew
 have HML:Hid (_):=hM
 have hne:=own_ne hown m (by decide)
 have hmc:=lt_of m
 have c0:w.cell? ⟨c,0,none⟩=some v:=cell_at m 0
 have c1:w.cell? ⟨c,1,none⟩=some (.int .i64 N):=cell_at m 1
 have e2:(N:Int)%8=0:=by omega
 have e1:(N:Int)/8=q:=by omega
 have HQ:Hid (N=8*q):=hq
 have hqb:q≤1000000:=by omega
 obtain⟨va,vc,rfl,-⟩:=own_form hown
 clear hq hlen hM hnew
 go_enter Tryz.func207,Tryz.ntmps207
 go_wp2_with (at_builtin;refine wpList_append_own _ rfl _ _ 22 rfl B 5 i0 (.int .u8 0) 1 1 Tryz.underlying22 hi hz0 hz1 hz2 rfl (by decide) _ _ _ rfl (hown.alloc _) ⟨w.heap.size,0,none⟩ 1 1 [.int .u8 0] rfl rfl ?c1 ?c2 ?c3 ?c4 ?c5 ?_)
 case c1=>exact cell_one_new _ _ _
 case c2=>intro u hu;simp at hu;subst hu;rfl
 case c3=>unfold maxLen;omega
 case c4=>omega
 case c5=>simp;omega
 intro v' w3 hown3 hgrow _
 have L3:Below B w w3:=((Below.refl B w).alloc hB _).grown hgrow (by simp;omega) (fun k h=>own_ge hown k h)
 have m3:w3.heap[c]? =some (.cells #[.slice va q vc,.int .i64 N] 233):=by
  rw[hgrow.block c (by simp;omega) hne]
  exact heap_old m _
 have hne3:=own_ne' hown3 m3 (by decide)
 have hs:=bcells_snoc (bytesOf l) 0
 rw[show((0:UInt8).toNat:Int)=0 from rfl]at hs
 rw[hs]at hown3
 obtain⟨g,cap,rfl,hg1,hg2,u,hu,hc⟩:=own_at hown3 q (by omega)
 rw[bcells_at _ _ (by rw[List.length_append,HML.out];simp)]at hu
 simp only[Option.some.injEq]at hu
 subst hu
 have hz:(bytesOf l++ [0])[q]'(by rw[List.length_append,HML.out];simp)=0:=by
  rw[List.getElem_append_right (by rw[HML.out];exact Nat.le_refl _)]
  simp
 rw[hz]at hc
 have hc:w3.cell? ⟨g,q,none⟩=some (.int .u8 0):=hc
 have hgc:g≠c:=fun e=>hne3 (by rw[e];rfl)
 obtain⟨cur,hh⟩:=own_block hown3
 have hf:w3.frozen? ⟨g,q,none⟩=false:=frozen_at hh q
 have K3:KeepT w w3:=KeepT.grown (KeepT.of (new_below w _)) hgrow (own_type (hown.alloc (.cells #[.int .u8 0] 5)))
 have HK4:Hid (KeepT w (w3.setCell ⟨c,0,none⟩ (.slice (some ⟨g,0,none⟩) (q+1) cap))):=K3.set m3 (Or.inr rfl) _
 have HH4:Hid (_):=heap_set_other (g:=c) (i:=0) hh hgc (.slice (some ⟨g,0,none⟩) (q+1) cap)
 clear hh K3
 have d0:w3.cell? ⟨c,0,none⟩=some (.slice va q vc):=cell_at m3 0
 have d1:w3.cell? ⟨c,1,none⟩=some (.int .i64 N):=cell_at m3 1
 have g0:w3.frozen? ⟨c,0,none⟩=false:=frozen_at m3 0
 have g1:w3.frozen? ⟨c,1,none⟩=false:=frozen_at m3 1
 have HM3:Hid (_):=m3
 have HN3:Hid (_):=hne3
 clear hz hs hgrow hne c0 c1 m hmc m3 hne3 hown
 generalize hQ1:q+1=q1 at*
 have hql:(q:Int)<q1:=by omega
 have HQ1:Hid (q+1=q1):=hQ1
 clear hQ1
 have L4:Below B w (w3.setCell ⟨c,0,none⟩ (.slice (some ⟨g,0,none⟩) q1 cap)):=L3.setCell hBc _
 have m4:=heap_set (i:=0) HM3.out (.slice (some ⟨g,0,none⟩) q1 cap)
 have hown4:=ownsRow_setCell_other hown3 (a:=⟨c,0,none⟩) HN3.out (.slice (some ⟨g,0,none⟩) q1 cap)
 have hc4:(w3.setCell ⟨c,0,none⟩ (.slice (some ⟨g,0,none⟩) q1 cap)).cell? ⟨g,q,none⟩=some (.int .u8 0):=by
  rw[World.cell?_setCell_other _ _ _ _ (by simp[hgc,Ne.symm hgc])]
  exact hc
 have hf4:(w3.setCell ⟨c,0,none⟩ (.slice (some ⟨g,0,none⟩) q1 cap)).frozen? ⟨g,q,none⟩=false:=by rw[World.frozen?_setCell];exact hf
 go_wp2
 clear hc hf d0 d1 g0 g1 hown3 L3 HM3
 generalize w3.setCell ⟨c,0,none⟩ (.slice (some ⟨g,0,none⟩) q1 cap)=w4 at*
 have d0:w4.cell? ⟨c,0,none⟩=some (.slice (some ⟨g,0,none⟩) q1 cap):=cell_at m4 0
 have d1:w4.cell? ⟨c,1,none⟩=some (.int .i64 N):=cell_at m4 1
 have g1:w4.frozen? ⟨c,1,none⟩=false:=frozen_at m4 1
 have HM4:Hid (_):=m4
 clear m4
 go_region
 go_wp2
 go_end0
 exact⟨rfl,bit_end hBc hbits hb HL HM4.out hgc hown4 (by omega) (by rw[List.length_append,HML.out];exact HQ1.out) HN3.out (or_zero b hb) (by rw[HW.out,set_last _ _ _ _ HML.out]),((L4.setCell hg1 _).setCell hBc _).drew,HK4.out.trans (KeepT.two HH4.out HM4.out hgc)⟩

theorem bit_val (B c:Nat) (l:List Nat) (b:Nat) (w:World) (H:Wr B c l w) (hB:B≤w.heap.size) (hb:b≤1) (hN:l.length≤1000000):
 Calls Tryz.prog 207 #[.pointer (some ⟨c,0,none⟩),.int .i64 b] w fun e w'=>e= .returned (.tuple #[])∧Wr B c (l++ [b]) w'∧Below B w w'∧KeepT w w':=by
 by_cases h:l.length%8=0
 ·exact bit_new B c l.length (l.length/8) l b w H hB hb hN rfl (by omega)
 ·exact bit_more B c l.length (l.length/8) (l.length%8) l b w H hb hN rfl (by omega) (by omega) h

theorem bit_shift (n i:Nat) (hn:n<4294967296):bits BinOp.and IntKind.i64 ((n:Int)/2^i) 1=((n/2^i%2:Nat):Int):=by
 have e:(n:Int)/2^i=((n/2^i:Nat):Int):=by simp
 rw[e]
 exact Math.and_one_i64 _ (Nat.lt_of_le_of_lt (Nat.div_le_self _ _) (by omega))

set_option maxHeartbeats 1000000 in
theorem low_val (B c:Nat) (l:List Nat) (n k:Nat) (w:World) (H:Wr B c l w) (hB:B≤w.heap.size) (hn:n<4294967296) (hk:k≤60) (hN:l.length≤900000):
 Calls Tryz.prog 208 #[.pointer (some ⟨c,0,none⟩),.int .i64 n,.int .i64 k] w fun e w'=>e= .returned (.tuple #[])∧Wr B c (l++Math.lowL n k) w'∧Below B w w'∧KeepT w w':=by
 go_enter Tryz.func208,Tryz.ntmps208
 go_wp2
 go_loopw [8] (fun i wr=>∃(j:Nat),j≤k∧i= .int .i64 j∧Hid (Wr B c (l++Math.lowL n j) wr)∧Below B w wr∧KeepT w wr) (fun i _=>k-(intOf i).toNat)
 case atStart=>exact⟨0,by omega,rfl,by show Wr B c (l++ []) w;rw[List.append_nil];exact H,Below.refl _ _,KeepT.refl _⟩
 case round=>
  obtain⟨j,hj,rfl,HW,L,K⟩:=hrel
  by_cases hjk:j<k
  ·have hsh:=bit_shift n j hn
   have hBr:B≤wr.heap.size:=Nat.le_trans hB L.size
   have HB:Hid (∀b,b≤1→_):=fun b hb=>bit_val B c (l++Math.lowL n j) b wr HW.out hBr hb (by rw[List.length_append,Math.lowL_length];omega)
   have HS:Hid (_):=Math.lowL_succ n j
   have hb1:n/2^j%2≤1:=by omega
   generalize n/2^j%2=b at*
   go_wp2_with fail
   refine(HB.out b hb1).mono ?_
   rintro e w2 ⟨rfl,W2,L2,K2⟩
   have K3:=K.trans K2
   rw[List.append_assoc,←HS.out]at W2
   have W3:Hid (_):=W2
   have L3:=L.trans L2
   clear W2 L2 HW HB L K K2
   go_wp2
   go_roundw
   case rel=>exact⟨j+1,by omega,by go_num,W3,L3,K3⟩
   case measure=>simp[intOf];omega
  ·obtain rfl:j=k:=by omega
   go_wp2
   go_end0
   exact⟨rfl,HW.out,L,K⟩

set_option maxHeartbeats 1000000 in
theorem high_val (B c:Nat) (l:List Nat) (n k:Nat) (w:World) (H:Wr B c l w) (hB:B≤w.heap.size) (hn:n<4294967296) (hk:k≤60) (hN:l.length≤900000):
 Calls Tryz.prog 213 #[.pointer (some ⟨c,0,none⟩),.int .i64 n,.int .i64 k] w fun e w'=>e= .returned (.tuple #[])∧Wr B c (l++Math.highL n k) w'∧Below B w w'∧KeepT w w':=by
 go_enter Tryz.func213,Tryz.ntmps213
 go_wp2
 go_loopw [6] (fun i wr=>∃(j:Nat),j≤k∧i= .int .i64 ((k:Int)-1-j)∧Hid (Wr B c (l++Math.highP n k j) wr)∧Below B w wr∧KeepT w wr) (fun i _=>(intOf i+1).toNat)
 case atStart=>exact⟨0,by omega,by simp,by show Wr B c (l++ []) w;rw[List.append_nil];exact H,Below.refl _ _,KeepT.refl _⟩
 case round=>
  obtain⟨j,hj,rfl,HW,L,K⟩:=hrel
  by_cases hjk:j<k
  ·have e1:(k:Int)-1-j=((k-1-j:Nat):Int):=by omega
   have hsh:=bit_shift n (k-1-j) hn
   have hBr:B≤wr.heap.size:=Nat.le_trans hB L.size
   have HB:Hid (∀b,b≤1→_):=fun b hb=>bit_val B c (l++Math.highP n k j) b wr HW.out hBr hb (by rw[List.length_append];simp[Math.highP];omega)
   have HS:Hid (_):=Math.highP_succ n k j
   have hb1:n/2^(k-1-j)%2≤1:=by omega
   generalize n/2^(k-1-j)%2=b at*
   have hq:(k-1-j:Nat)≤60:=by omega
   have HQ:Hid ((k-1-j:Nat)+1+j=k):=by show _=_;omega
   rw[e1]
   clear e1
   generalize k-1-j=q at*
   go_wp2_with fail
   refine(HB.out b hb1).mono ?_
   rintro e w2 ⟨rfl,W2,L2,K2⟩
   have K3:=K.trans K2
   rw[List.append_assoc,←HS.out]at W2
   have W3:Hid (_):=W2
   have L3:=L.trans L2
   clear W2 L2 HW HB L K K2
   go_wp2
   go_roundw
   case rel=>exact⟨j+1,by omega,by have:=HQ.out;go_num,W3,L3,K3⟩
   case measure=>simp[intOf]<;>omega
  ·obtain rfl:j=k:=by omega
   rw[Math.highP_all]at HW
   have e1:(j:Int)-1-j= -1:=by omega
   rw[e1]
   go_wp2
   go_end0
   exact⟨rfl,HW.out,L,K⟩

theorem head_val (B c:Nat) (n:Nat) (w:World) (H:Wr B c [] w) (hB:B≤w.heap.size) (hn:n<4294967296):
 Calls Tryz.prog 203 #[.pointer (some ⟨c,0,none⟩),.int .i64 n] w fun e w'=>e= .returned (.tuple #[])∧Wr B c ([1]++Math.lowL n 2) w'∧Below B w w'∧KeepT w w':=by
 go_enter Tryz.func203,Tryz.ntmps203
 go_wp2_with fail
 refine(bit_val B c [] 1 _ H hB (by omega) (by simp)).mono ?_
 rintro e w1 ⟨rfl,W1,L1,K1⟩
 go_wp2_with fail
 refine(low_val B c ([]++ [1]) n 2 _ W1 (Nat.le_trans hB L1.size) hn (by omega) (by simp)).mono ?_
 rintro e w2 ⟨rfl,W2,L2,K2⟩
 go_wp2
 go_end0
 exact⟨rfl,W2,L1.trans L2,K1.trans K2⟩

end Pk
end Go.Proofs.YtcjgkmhpeedhiaaGreatDoor

/- Contracts of Stored, of the program and of its model. -/
namespace Go.Proofs.YtcjgkmhpeedhiaaGreatDoor
namespace Pk
open Go.ChangeShapes Go.WideShapes Go.ChangeAt Go.RowKit
open Math (Bits bytesOf)
set_option linter.unusedSimpArgs false
set_option linter.unusedVariables false

abbrev t2' (s:ByteArray) (b:Bool):Value:= .tuple #[.string s,.bool b]

def storedHead (n:Nat):List UInt8:= [1,UInt8.ofNat (n%256),UInt8.ofNat (n/256),UInt8.ofNat (255-n%256),UInt8.ofNat (255-n/256)]

def storedS (s:ByteArray):ByteArray:=if s.size≤3000 then⟨(storedHead s.size).toArray⟩++s else⟨#[]⟩

theorem wr_new (w:World):Wr w.heap.size w.heap.size [] (w.alloc (.cells #[.slice none 0 0,.int .i64 0] 233)):=
 ⟨Nat.le_refl _,Math.Bits.nil,.slice none 0 0,heap_new w _,World.ownsRow_nil _ _ _ _⟩

end Pk
end Go.Proofs.YtcjgkmhpeedhiaaGreatDoor

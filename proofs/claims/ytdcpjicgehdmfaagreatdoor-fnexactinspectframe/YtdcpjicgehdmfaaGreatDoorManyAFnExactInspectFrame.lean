/- Texts laid into one, in their order: PkRuns, Tabs, HnCtl, HnInts, HnOff, HnHand, HnOk, HnOkS, HnOpen, HnMark, HnCopy, HnChk, HnTaken, HnChkS, HnClo, HnCon, HnCk, HnClone, HnTo, HnCp, HnUpd, HnIns, HnUpdS. -/
import Derived.Test.YtdcpjicgehdmfaaGreatDoorPkRow
import Derived.Test.YtdcpjicgehdmfaaGreatDoorErrs
import Derived.Deep.Strs
import Derived.Test.YtdcpjicgehdmfaaGreatDoorDecDoor
import Derived.WalkKit
import Derived.ProofKit
import Derived.OpenShut
import Derived.Deep.DeepHandedRow
import Derived.Lib.LaidTab
import Derived.Stop.LaidErr
import Derived.ChangeOld
import Derived.Below
import Derived.Deep.Slices
import Derived.Lib.SmallJoins
import Derived.Test.YtdcpjicgehdmfaaGreatDoorTkTic
import Derived.Maps.AppendAt
import Derived.BigRegion
/- The program's table of runs: what the rows list of it, and what its cells hold. -/
namespace Go.Proofs.YtdcpjicgehdmfaaGreatDoor
namespace Pk
open Go.ChangeShapes Go.WideShapes Go.ChangeAt Go.RowKit
set_option linter.unusedSimpArgs false
set_option linter.unusedVariables false

def runVals:List Int:= [256,279,7,0,0,143,8,48,280,287,8,192,144,255,9,400]

def Runs (w:World):Prop:=∀i,i<16→w.cell? ⟨5,i,none⟩=some (.int .i64 (runVals.getD i 0))

def runsW (w:World):World:= { w with heap:=w.heap.modify 5 (Errs.put (runVals.map fun z=>Value.int .i64 z).toArray) }

theorem Runs.lt {w:World} (h:Runs w):5<w.heap.size:=by
 have ha:=h 0 (by omega)
 apply Nat.lt_of_not_le
 intro hle
 unfold World.cell? at ha
 rw[Array.getElem?_eq_none hle]at ha
 simp at ha

theorem Runs.on {w w1:World} (h:Runs w) {B:Nat} (L:Below B w w1) (hB:5<B):Runs w1:=by
 intro i hi
 rw[L.cell (p:=⟨5,i,none⟩) hB]
 exact h i hi

set_option maxRecDepth 100000 in
theorem run_cells {H:Type} {enc:TypeId×Value→H} {W:World} {base:Nat} {spare:Nat→Bool} {held:Bool} {fuel:Nat} {cs:List Value} {a b c d:Int} {y:DataW H×List MemPlace} (h:DataW.trod enc Tryz.prog W base spare held fuel 208 cs=some y) (hy:y.1= .agg [.lit (.int .i64 a),.lit (.int .i64 b),.lit (.int .i64 c),.lit (.int .i64 d)]):
 cs= [.int .i64 a,.int .i64 b,.int .i64 c,.int .i64 d]:=by
 obtain⟨xs,n,-,rfl,hl,hxl,hf⟩:=DataW.trod_struct Tryz.underlying208 h
 have hl4:cs.length=4:=hl.trans (by kernel_rfl)
 have c1:Tryz.prog.cellsOf 3=1:=by kernel_rfl
 match xs,hxl,cs,hl4 with
 | [y0,y1,y2,y3],_,[v0,v1,v2,v3],_=>
   simp at hy
   have h0:=hf 0 _ rfl
   have h1:=hf 1 _ rfl
   have h2:=hf 2 _ rfl
   have h3:=hf 3 _ rfl
   simp[c1]at h0 h1 h2 h3
   obtain⟨a0,e0,z0,-⟩:=DataW.trod_int Tryz.underlying3 h0
   obtain⟨a1,e1,z1,-⟩:=DataW.trod_int Tryz.underlying3 h1
   obtain⟨a2,e2,z2,-⟩:=DataW.trod_int Tryz.underlying3 h2
   obtain⟨a3,e3,z3,-⟩:=DataW.trod_int Tryz.underlying3 h3
   subst z0 z1 z2 z3
   simp at e0 e1 e2 e3 hy
   obtain⟨rfl,rfl,rfl,rfl⟩:=hy
   rw[e0,e1,e2,e3]

set_option maxRecDepth 100000 in
theorem runs_of {r:List (String×DataW Unit)} {W:World} (h:laidMet Tryz.prog (("loop.example/g00211/impl.fixedRuns",Rows.laid_loop_example_g00211_impl_fixedRuns)::r) W):Runs W:=by
 obtain⟨ps,⟨g',t',cs,fuel,p,q,hg',ht',hvar,hd,-,-⟩,-⟩:=h
 have hg:Tryz.prog.globalNamed "loop.example/g00211/impl.fixedRuns" =some 5:=by kernel_rfl
 have hty:(Tryz.prog.globals[5]?).map (·.type)=some 209:=by kernel_rfl
 obtain rfl:=Option.some.inj (hg.symm.trans hg')
 obtain rfl:=Option.some.inj (hty.symm.trans ht')
 obtain⟨cs⟩:=cs
 obtain⟨xs,m,-,hx,hl,hxl,hf⟩:=DataW.trod_array Tryz.underlying209 hd
 have c4:Tryz.prog.cellsOf 208=4:=by kernel_rfl
 have hl16:cs.length=16:=hl.trans (by kernel_rfl)
 match xs,hxl with
 | [y0,y1,y2,y3],_=>
   simp[Rows.laid_loop_example_g00211_impl_fixedRuns]at hx
   obtain⟨⟨hx0,hx1,hx2,hx3⟩,-⟩:=hx
   have h0:=hf 0 (by omega)
   have h1:=hf 1 (by omega)
   have h2:=hf 2 (by omega)
   have h3:=hf 3 (by omega)
   rw[c4]at h0 h1 h2 h3
   have k0:=run_cells h0 hx0.symm
   have k1:=run_cells h1 hx1.symm
   have k2:=run_cells h2 hx2.symm
   have k3:=run_cells h3 hx3.symm
   have hcs:cs=runVals.map (fun z=>Value.int .i64 z):=by
    match cs,hl16 with
    | [v0,v1,v2,v3,v4,v5,v6,v7,v8,v9,v10,v11,v12,v13,v14,v15],_=>
      simp at k0 k1 k2 k3
      simp[runVals,k0,k1,k2,k3]
   intro i hi
   rw[World.var?_cell hg hvar i,hcs]
   have:i<runVals.length:=hi
   simp[List.getD,this]

end Pk
end Go.Proofs.YtdcpjicgehdmfaaGreatDoor

/- What the rows of this seat list of the library's tables, one by one, and worlds that hold them. -/
namespace Go.Proofs.YtdcpjicgehdmfaaGreatDoor
namespace Tabs
open Go.ChangeShapes Go.WideShapes Go.ChangeAt Go.RowKit

def flat1:DataW Unit→List Value
 | .lit (.int k z)=> [Value.int k z]
 | .agg l=>l.map fun d=>match d with| .lit (.int k z)=>Value.int k z|_=>Value.bool false
 |_=> [Value.bool false]

def vals:DataW Unit→Array Value
 | .agg l=>(l.flatMap flat1).toArray
 |_=> #[]

def put (c:Array Value):Obj→Obj
 | .cells _ t frozen=> .cells c t frozen
 |o=>o

def tabW (g:Nat) (d:DataW Unit) (w:World):World:= { w with heap:=w.heap.modify g (put (vals d)) }

theorem gTab:Tryz.prog.globalNamed "internal/strconv.uint64pow10" =some 8:=by kernel_rfl

theorem gTabType:(Tryz.prog.globals[8]?).map (·.type)=some 227:=by kernel_rfl

theorem cellsT:Tryz.prog.cellsOf 227=20:=by kernel_rfl

theorem cellsE:Tryz.prog.cellsOf 131=1:=by kernel_rfl

theorem tens_eq:(Rows.laid_internal_strconv_uint64pow10:DataW Unit)=Lib.tabData .u64 Lib.pow10Tab:=by kernel_rfl

theorem tens_of {r:List (String×DataW Unit)} {W:World} (h:laidMet Tryz.prog (("internal/strconv.uint64pow10",Rows.laid_internal_strconv_uint64pow10)::r) W):Num.Tens W:=by
 rw[tens_eq]at h
 exact Lib.tabIs_of_head (rest:=r) gTab gTabType Tryz.underlying227 Tryz.underlying131 cellsE cellsT h

end Tabs
end Go.Proofs.YtdcpjicgehdmfaaGreatDoor

/- Contracts of the laws' own helpers over controls: a copy of a slice of them, and two such slices held against each other. -/
namespace Go.Proofs.YtdcpjicgehdmfaaGreatDoor
namespace Hn
open Go.ChangeShapes Go.WideShapes Go.ChangeAt Go.RowKit
open Pk (new_below join_below cell_at heap_new frozen_at lt_of kept info_of own_form own_below)
set_option linter.unusedSimpArgs false
set_option linter.unusedVariables false

structure Ct where
 dv:Int
 no:Int
 tk:Int
 tr:Int
 dy:Int
 sa:Int

abbrev lgV (p:Ct):Value:= .agg #[.int .i64 p.dv,.int .i64 p.no,.int .i64 p.tk,.int .i64 p.tr,.int .i64 p.dy,.int .i64 p.sa]

def Controls (w:World) (a:Option Addr) (ps:List Ct):Prop:=
 ps= []∨∃b o,a=some ⟨b,o,none⟩∧b<w.heap.size∧∀i (h:i<ps.length),w.cell? ⟨b,o+i*6,none⟩=some (.int .i64 ps[i].dv)∧w.cell? ⟨b,o+i*6+1,none⟩=some (.int .i64 ps[i].no)∧w.cell? ⟨b,o+i*6+2,none⟩=some (.int .i64 ps[i].tk)∧w.cell? ⟨b,o+i*6+3,none⟩=some (.int .i64 ps[i].tr)∧w.cell? ⟨b,o+i*6+4,none⟩=some (.int .i64 ps[i].dy)∧w.cell? ⟨b,o+i*6+5,none⟩=some (.int .i64 ps[i].sa)

theorem Controls.on {w w1:World} {a:Option Addr} {ps:List Ct} (h:Controls w a ps) (L:Below w.heap.size w w1):Controls w1 a ps:=by
 rcases h with h|⟨b,o,ha,hb,hc⟩
 ·exact Or.inl h
 ·exact Or.inr ⟨b,o,ha,Nat.lt_of_lt_of_le hb L.size,fun i hi=>by rw[L.cell (p:=⟨b,o+i*6,none⟩) hb,L.cell (p:=⟨b,o+i*6+1,none⟩) hb,L.cell (p:=⟨b,o+i*6+2,none⟩) hb,L.cell (p:=⟨b,o+i*6+3,none⟩) hb,L.cell (p:=⟨b,o+i*6+4,none⟩) hb,L.cell (p:=⟨b,o+i*6+5,none⟩) hb];exact hc i hi⟩

theorem Controls.at {w:World} {a:Option Addr} {ps:List Ct} (h:Controls w a ps) (k:Nat) (hk:k<ps.length):∃b o,a=some ⟨b,o,none⟩∧b<w.heap.size∧w.cell? ⟨b,o+k*6,none⟩=some (.int .i64 ps[k].dv)∧w.cell? ⟨b,o+k*6+1,none⟩=some (.int .i64 ps[k].no)∧w.cell? ⟨b,o+k*6+2,none⟩=some (.int .i64 ps[k].tk)∧w.cell? ⟨b,o+k*6+3,none⟩=some (.int .i64 ps[k].tr)∧w.cell? ⟨b,o+k*6+4,none⟩=some (.int .i64 ps[k].dy)∧w.cell? ⟨b,o+k*6+5,none⟩=some (.int .i64 ps[k].sa):=by
 rcases h with h|⟨b,o,ha,hb,hc⟩
 ·subst h;simp at hk
 ·exact⟨b,o,ha,hb,hc k hk⟩

theorem info_control:(Tryz.prog.info? 77).map (fun i=>(i.zero,i.size,i.bytes))=some (some (lgV ⟨0,0,0,0,0,0⟩),6,48):=by kernel_rfl

theorem toControl_val (p:Ct) (w:World):
 Calls Tryz.prog 41 #[lgV p] w fun e w'=>e= .returned (lgV p)∧Below w.heap.size w w':=by
 go_enter Tryz.func41,Tryz.ntmps41
 go_wp2
 refine bodyPost_ret (v:=lgV p) (by simp[results,Tryz.results41,go_sem]) rfl ?_
 refine⟨rfl,?_⟩
 (repeat' (first|apply Below.setCell|apply Below.alloc|exact Below.refl _ _))<;>first|(simp;done)|(simp;omega)

theorem eqControl_same (p:Ct) (w:World):
 Calls Tryz.prog 52 #[lgV p,lgV p] w fun e w'=>e= .returned (.bool true)∧Below w.heap.size w w':=by
 go_enter Tryz.func52,Tryz.ntmps52
 go_wp2
 go_ret
 exact⟨rfl,join_below (new_below _ _) (new_below _ _)⟩

def Laidcontrol (w:World) (g n k:Nat) (ps:List Ct):Prop:=(∀j,j<n*6→(∃v,w.cell? ⟨g,j,none⟩=some v)∧w.frozen? ⟨g,j,none⟩=false)∧
 ∀i (h:i<ps.length),i<k→w.cell? ⟨g,i*6,none⟩=some (.int .i64 ps[i].dv)∧w.cell? ⟨g,i*6+1,none⟩=some (.int .i64 ps[i].no)∧w.cell? ⟨g,i*6+2,none⟩=some (.int .i64 ps[i].tk)∧w.cell? ⟨g,i*6+3,none⟩=some (.int .i64 ps[i].tr)∧w.cell? ⟨g,i*6+4,none⟩=some (.int .i64 ps[i].dy)∧w.cell? ⟨g,i*6+5,none⟩=some (.int .i64 ps[i].sa)

theorem set_cell {w:World} {g i j:Nat} {u v:Value} (h:w.cell? ⟨g,i,none⟩=some v):(w.setCell ⟨g,j,none⟩ u).cell? ⟨g,i,none⟩=some (if i=j then u else v):=by
 by_cases e:i=j
 ·subst e
  rw[if_pos rfl]
  exact World.cell?_setCell_same _ _ _ h
 ·rw[if_neg e,World.cell?_setCell_other _ _ _ _ (by intro h;apply e;simpa using h.symm)]
  exact h

def setcontrol (w:World) (g j:Nat) (p:Ct):World:=(((((w.setCell ⟨g,j,none⟩ (.int .i64 p.dv)).setCell ⟨g,j+1,none⟩ (.int .i64 p.no)).setCell ⟨g,j+2,none⟩ (.int .i64 p.tk)).setCell ⟨g,j+3,none⟩ (.int .i64 p.tr)).setCell ⟨g,j+4,none⟩ (.int .i64 p.dy)).setCell ⟨g,j+5,none⟩ (.int .i64 p.sa)

theorem setcontrol_cell {w:World} {g i j:Nat} {p:Ct} {v:Value} (h:w.cell? ⟨g,i,none⟩=some v):(setcontrol w g j p).cell? ⟨g,i,none⟩=some (if i=j+5 then .int .i64 p.sa else if i=j+4 then .int .i64 p.dy else if i=j+3 then .int .i64 p.tr else if i=j+2 then .int .i64 p.tk else if i=j+1 then .int .i64 p.no else if i=j then .int .i64 p.dv else v):=set_cell (set_cell (set_cell (set_cell (set_cell (set_cell h)))))

theorem Laidcontrol.on {w w1:World} {g n k:Nat} {ps:List Ct} (h:Laidcontrol w g n k ps) {B:Nat} (L:Below B w w1) (hg:g<B):Laidcontrol w1 g n k ps:=by
 refine⟨fun j hj=> ?_,fun i hi hk=> ?_⟩
 ·rw[L.cell (p:=⟨g,j,none⟩) hg,L.frozen (p:=⟨g,j,none⟩) hg]
  exact h.1 j hj
 ·rw[L.cell (p:=⟨g,i*6,none⟩) hg,L.cell (p:=⟨g,i*6+1,none⟩) hg,L.cell (p:=⟨g,i*6+2,none⟩) hg,L.cell (p:=⟨g,i*6+3,none⟩) hg,L.cell (p:=⟨g,i*6+4,none⟩) hg,L.cell (p:=⟨g,i*6+5,none⟩) hg]
  exact h.2 i hi hk

theorem Laidcontrol.step {w:World} {g n k:Nat} {ps:List Ct} (h:Laidcontrol w g n k ps) (hk:k<n) (hkp:k<ps.length):Laidcontrol (setcontrol w g (k*6) ps[k]) g n (k+1) ps:=by
 refine⟨fun j hj=> ?_,fun i hi hik=> ?_⟩
 ·obtain⟨⟨v,hv⟩,hf⟩:=h.1 j hj
  exact⟨⟨_,setcontrol_cell hv⟩,by unfold setcontrol;rw[World.frozen?_setCell,World.frozen?_setCell,World.frozen?_setCell,World.frozen?_setCell,World.frozen?_setCell,World.frozen?_setCell];exact hf⟩
 ·by_cases e:i=k
  ·subst e
   obtain⟨⟨v0,h0⟩,-⟩:=h.1 (i*6) (by omega)
   obtain⟨⟨v1,h1⟩,-⟩:=h.1 (i*6+1) (by omega)
   obtain⟨⟨v2,h2⟩,-⟩:=h.1 (i*6+2) (by omega)
   obtain⟨⟨v3,h3⟩,-⟩:=h.1 (i*6+3) (by omega)
   obtain⟨⟨v4,h4⟩,-⟩:=h.1 (i*6+4) (by omega)
   obtain⟨⟨v5,h5⟩,-⟩:=h.1 (i*6+5) (by omega)
   rw[setcontrol_cell h0,setcontrol_cell h1,setcontrol_cell h2,setcontrol_cell h3,setcontrol_cell h4,setcontrol_cell h5]
   simp
  ·obtain⟨h0,h1,h2,h3,h4,h5⟩:=h.2 i hi (by omega)
   rw[setcontrol_cell h0,setcontrol_cell h1,setcontrol_cell h2,setcontrol_cell h3,setcontrol_cell h4,setcontrol_cell h5]
   rw[if_neg (by omega),if_neg (by omega),if_neg (by omega),if_neg (by omega),if_neg (by omega),if_neg (by omega),if_neg (by omega),if_neg (by omega),if_neg (by omega),if_neg (by omega),if_neg (by omega),if_neg (by omega),if_neg (by omega),if_neg (by omega),if_neg (by omega),if_neg (by omega),if_neg (by omega),if_neg (by omega),if_neg (by omega),if_neg (by omega),if_neg (by omega),if_neg (by omega),if_neg (by omega),if_neg (by omega),if_neg (by omega),if_neg (by omega),if_neg (by omega),if_neg (by omega),if_neg (by omega),if_neg (by omega),if_neg (by omega),if_neg (by omega),if_neg (by omega),if_neg (by omega),if_neg (by omega),if_neg (by omega)]
   exact⟨rfl,rfl,rfl,rfl,rfl,rfl⟩

theorem Laidcontrol.all {w:World} {g:Nat} {ps:List Ct} (h:Laidcontrol w g ps.length ps.length ps) (hg:g<w.heap.size):Controls w (some ⟨g,0,none⟩) ps:=
 Or.inr ⟨g,0,rfl,hg,fun i hi=>by rw[Nat.zero_add];exact h.2 i hi hi⟩

set_option maxHeartbeats 2000000 in
theorem toControlS_val (a:Option Addr) (ps:List Ct) (cap:Nat) (w:World) (hz:ps.length≤1048576) (I:Controls w a ps):
 Calls Tryz.prog 19 #[.slice a ps.length cap] w fun e w'=>e= .returned (.slice (some ⟨w.heap.size,0,none⟩) ps.length ps.length)∧Below w.heap.size w w'∧Controls w' (some ⟨w.heap.size,0,none⟩) ps∧w.heap.size<w'.heap.size∧Pk.Room w' w.heap.size (ps.length*6):=by
 obtain⟨i0,hi,hz0,hz1,hz2⟩:=info_of info_control
 go_enter Tryz.func19,Tryz.ntmps19
 go_wp2_with (at_make;refine wpList_make_full _ rfl _ _ 33 rfl w.heap.size 77 i0 (lgV ⟨0,0,0,0,0,0⟩) 6 Tryz.underlying33 hi hz0 hz1 .i64 .i64 _ _ ps.length rfl rfl rfl rfl (by rw[hz2];omega) (by unfold maxLen;omega) (Nat.le_refl _) ?_;intro w1 hown hgrow)
 have L1:Below w.heap.size w w1:=(Below.refl _ _).grown hgrow (Nat.le_refl _) (fun k hk=>by cases hk)
 obtain⟨-,h|⟨g,c,cur,he,hge,hcur,hnc,hcm,hcs,-⟩⟩:=hown
 ·obtain⟨h,-⟩:=h
  cases h
 obtain⟨rfl,rfl⟩:g=w.heap.size∧c=ps.length:=by
  simp only[Value.slice.injEq,Option.some.injEq,Addr.mk.injEq]at he
  exact⟨he.1.1.symm,he.2.2.symm⟩
 have F0:Laidcontrol w1 w.heap.size ps.length 0 ps:=by
  refine⟨fun j hj=>⟨⟨cur[j],?_⟩,frozen_at hcur j⟩,fun i h hk=>by omega⟩
  rw[cell_at hcur j]
  exact Array.getElem?_eq_getElem (by omega)
 have hl1:w.heap.size<w1.heap.size:=lt_of hcur
 clear he hge hcur hnc hcm hcs hgrow
 go_wp2
 go_loopw [4] (fun i wr=>∃k:Nat,k≤ps.length∧i= .int .i64 k∧Below w.heap.size w wr∧w.heap.size<wr.heap.size∧Hid (Laidcontrol wr w.heap.size ps.length k ps)) (fun i _=>ps.length-(intOf i).toNat)
 case atStart=>exact⟨0,by omega,rfl,L1,hl1,F0⟩
 case round=>
  obtain⟨k,hk,rfl,LR,hl,F⟩:=hrel
  by_cases hkn:k<ps.length
  ·obtain⟨b,o,rfl,hlt,hc0,hc1,hc2,hc3,hc4,hc5⟩:=(I.on LR).at k hkn
   go_wp2_with fail
   refine(toControl_val ps[k] _).mono ?_
   rintro e w2 ⟨rfl,L2⟩
   have L3:=LR.trans (L2.mono LR.size)
   have hl3:=Nat.lt_of_lt_of_le hl L2.size
   obtain⟨⟨v0,f0⟩,z0⟩:=F.out.1 (k*6) (by omega)
   obtain⟨⟨v1,f1⟩,z1⟩:=F.out.1 (k*6+1) (by omega)
   obtain⟨⟨v2,f2⟩,z2⟩:=F.out.1 (k*6+2) (by omega)
   obtain⟨⟨v3,f3⟩,z3⟩:=F.out.1 (k*6+3) (by omega)
   obtain⟨⟨v4,f4⟩,z4⟩:=F.out.1 (k*6+4) (by omega)
   obtain⟨⟨v5,f5⟩,z5⟩:=F.out.1 (k*6+5) (by omega)
   rw[←L2.cell hl]at f0 f1 f2 f3 f4 f5
   rw[←L2.frozen hl]at z0 z1 z2 z3 z4 z5
   have FS:Hid (Laidcontrol (setcontrol w2 w.heap.size (k*6) ps[k]) w.heap.size ps.length (k+1) ps):=(F.out.on L2 hl).step hkn hkn
   have LS:Below w.heap.size w (setcontrol w2 w.heap.size (k*6) ps[k]):=(((((L3.setCell (Nat.le_refl _) _).setCell (Nat.le_refl _) _).setCell (Nat.le_refl _) _).setCell (Nat.le_refl _) _).setCell (Nat.le_refl _) _).setCell (Nat.le_refl _) _
   have hls:w.heap.size<(setcontrol w2 w.heap.size (k*6) ps[k]).heap.size:=by unfold setcontrol;rw[World.size_setCell,World.size_setCell,World.size_setCell,World.size_setCell,World.size_setCell,World.size_setCell];exact hl3
   clear F
   generalize ps[k]=p at*
   unfold setcontrol at FS LS hls
   go_wp2
   go_roundw
   case rel=>exact⟨k+1,by omega,by go_num,LS,hls,FS⟩
   case measure=>simp[intOf];omega
  ·obtain rfl:k=ps.length:=by omega
   go_wp2
   go_ret
   exact⟨rfl,LR,F.out.all hl,hl,F.out.1⟩

set_option maxHeartbeats 1000000 in
theorem eqControlS_same (a b:Option Addr) (ps:List Ct) (c1 c2:Nat) (w:World) (hz:ps.length≤1048576) (I:Controls w a ps) (J:Controls w b ps):
 Calls Tryz.prog 24 #[.slice a ps.length c1,.slice b ps.length c2] w fun e w'=>e= .returned (.bool true)∧Below w.heap.size w w':=by
 go_enter Tryz.func24,Tryz.ntmps24
 go_wp2
 go_loopw [5] (fun i wr=>∃(k:Nat),k≤ps.length∧i= .int .i64 k∧Below w.heap.size w wr) (fun i _=>ps.length-(intOf i).toNat)
 case atStart=>exact⟨0,by omega,rfl,Below.refl _ _⟩
 case round=>
  obtain⟨k,hk,rfl,L⟩:=hrel
  by_cases hkn:k<ps.length
  ·obtain⟨x,o,rfl,hx,hx0,hx1,hx2,hx3,hx4,hx5⟩:=(I.on L).at k hkn
   obtain⟨y,u,rfl,hy,hy0,hy1,hy2,hy3,hy4,hy5⟩:=(J.on L).at k hkn
   generalize ps[k]=p at*
   have HE:Hid (∀w,_):=fun w=>eqControl_same p w
   go_wp2
   go_region_with (go_at_call 52;(with_reducible refine(HE.out _).mono ?_);rintro e w3 ⟨rfl,L3⟩)
   all_goals
    have L4:Below w.heap.size w w3:=L.drew.trans (L3.mono L.size)
    go_wp2
    go_roundw
    case rel=>exact⟨k+1,by omega,by go_num,L4⟩
    case measure=>simp[intOf];omega
  ·go_wp2
   go_ret
   exact⟨rfl,L⟩

end Hn
end Go.Proofs.YtdcpjicgehdmfaaGreatDoor

/- Contracts of the laws' own helpers over slices of numbers: their size, a copy, two held against each other, marked from a number on and held against the marks. -/
namespace Go.Proofs.YtdcpjicgehdmfaaGreatDoor
namespace Hn
open Go.ChangeShapes Go.WideShapes Go.ChangeAt Go.RowKit
open Pk (new_below join_below cell_at heap_new frozen_at lt_of kept info_of own_form own_below Drawn Room)
set_option linter.unusedSimpArgs false
set_option linter.unusedVariables false

def Ints (w:World) (a:Option Addr) (zs:List Int):Prop:=zs= []∨∃b o,a=some ⟨b,o,none⟩∧b<w.heap.size∧∀i (hi:i<zs.length),w.cell? ⟨b,o+i,none⟩=some (.int .i64 zs[i])

theorem Ints.on {w w1:World} {a:Option Addr} {zs:List Int} (h:Ints w a zs) (hb:Below w.heap.size w w1):Ints w1 a zs:=by
 rcases h with h|⟨b,o,ha,hlt,hc⟩
 ·exact Or.inl h
 ·exact Or.inr ⟨b,o,ha,Nat.lt_of_lt_of_le hlt hb.size,fun i hi=>by rw[hb.cell (p:=⟨b,o+i,none⟩) hlt];exact hc i hi⟩

theorem Ints.at {w:World} {a:Option Addr} {zs:List Int} (h:Ints w a zs) (i:Nat) (hi:i<zs.length):∃b o,a=some ⟨b,o,none⟩∧b<w.heap.size∧w.cell? ⟨b,o+i,none⟩=some (.int .i64 zs[i]):=by
 rcases h with h|⟨b,o,ha,hlt,hc⟩
 ·subst h;simp at hi
 ·exact⟨b,o,ha,hlt,hc i hi⟩

theorem intInfo:(Tryz.prog.info? 3).map (fun i=>(i.zero,i.size,i.bytes))=some (some (.int .i64 0),1,8):=by kernel_rfl

def Filled (w:World) (g n k:Nat) (zs:List Int):Prop:=∀j,j<n→(∃v,w.cell? ⟨g,j,none⟩=some v)∧w.frozen? ⟨g,j,none⟩=false∧(j<k→w.cell? ⟨g,j,none⟩=some (.int .i64 (zs.getD j 0)))

theorem Filled.step {w:World} {g n k:Nat} {zs:List Int} (h:Filled w g n k zs):Filled (w.setCell ⟨g,k,none⟩ (.int .i64 (zs.getD k 0))) g n (k+1) zs:=by
 intro j hj
 obtain⟨⟨v,hv⟩,hf,hc⟩:=h j hj
 by_cases e:j=k
 ·subst e
  refine⟨⟨_,World.cell?_setCell_same _ _ _ hv⟩,by rw[World.frozen?_setCell];exact hf,fun _=>World.cell?_setCell_same _ _ _ hv⟩
 ·have hne:(⟨g,j,none⟩:Addr)≠⟨g,k,none⟩:=by simp[e]
  refine⟨⟨v,by rw[World.cell?_setCell_other _ _ _ _ (by simp[e])];exact hv⟩,by rw[World.frozen?_setCell];exact hf,fun hk=> ?_⟩
  rw[World.cell?_setCell_other _ _ _ _ (by simp[e])]
  exact hc (by omega)

theorem Filled.ints {w:World} {g:Nat} {zs:List Int} (h:Filled w g zs.length zs.length zs) (hg:g<w.heap.size):Ints w (some ⟨g,0,none⟩) zs:=by
 refine Or.inr ⟨g,0,rfl,hg,fun i hi=> ?_⟩
 have:=(h i hi).2.2 hi
 rw[Nat.zero_add,this,List.getD_eq_getElem?_getD,List.getElem?_eq_getElem hi]
 rfl

theorem Filled.made {w:World} {g n:Nat} {cur:Array Value} {t:TypeId} {zs:List Int} (h:w.heap[g]? =some (.cells cur t (0,0))) (hs:cur.size=n):Filled w g n 0 zs:=by
 intro j hj
 refine⟨⟨cur[j],?_⟩,frozen_at h j,fun hk=>by omega⟩
 rw[cell_at h j]
 exact Array.getElem?_eq_getElem (by omega)

set_option maxHeartbeats 1000000 in
theorem toIntS_val (a:Option Addr) (zs:List Int) (cap:Nat) (w:World) (hz:zs.length≤1048576) (I:Ints w a zs):
 Calls Tryz.prog 18 #[.slice a zs.length cap] w fun e w'=>e= .returned (.slice (some ⟨w.heap.size,0,none⟩) zs.length zs.length)∧Below w.heap.size w w'∧Ints w' (some ⟨w.heap.size,0,none⟩) zs∧w.heap.size<w'.heap.size∧Room w' w.heap.size zs.length:=by
 obtain⟨i0,hi,hi2⟩:=Option.map_eq_some_iff.1 intInfo
 simp only[Prod.mk.injEq]at hi2
 obtain⟨hz0,hz1,hz2⟩:=hi2
 go_enter Tryz.func18,Tryz.ntmps18
 go_wp2_with (at_make;refine wpList_make_full _ rfl _ _ 24 rfl w.heap.size 3 i0 (.int .i64 0) 1 Tryz.underlying24 hi hz0 hz1 .i64 .i64 _ _ zs.length rfl rfl rfl rfl (by rw[hz2];omega) (by unfold maxLen;omega) (Nat.le_refl _) ?_;intro w1 hown hgrow)
 have L1:Below w.heap.size w w1:=(Below.refl _ _).grown hgrow (Nat.le_refl _) (fun k hk=>by cases hk)
 obtain⟨-,h|⟨g,c,cur,he,hge,hcur,hnc,hcm,hcs,-⟩⟩:=hown
 ·obtain⟨h,-⟩:=h
  cases h
 obtain⟨rfl,rfl⟩:g=w.heap.size∧c=zs.length:=by
  simp only[Value.slice.injEq,Option.some.injEq,Addr.mk.injEq]at he
  exact⟨he.1.1.symm,he.2.2.symm⟩
 have F0:Filled w1 w.heap.size zs.length 0 zs:=Filled.made hcur (by omega)
 have hl1:w.heap.size<w1.heap.size:=(Array.getElem?_eq_some_iff.1 hcur).1
 clear he hge hcur hnc hcm hcs hgrow
 go_wp2
 go_loopw [4] (fun i wr=>∃k:Nat,k≤zs.length∧i= .int .i64 k∧Below w.heap.size w wr∧w.heap.size<wr.heap.size∧Hid (Filled wr w.heap.size zs.length k zs)) (fun i _=>zs.length-(intOf i).toNat)
 case atStart=>exact⟨0,by omega,rfl,L1,hl1,F0⟩
 case round=>
  obtain⟨k,hk,rfl,LR,hl,F⟩:=hrel
  by_cases hkn:k<zs.length
  ·obtain⟨b,o,rfl,hlt,hcell⟩:=(I.on LR).at k hkn
   have hlt0:b<w.heap.size:=by
    rcases I with h|⟨b',o',hb',hlt',-⟩
    ·subst h;simp at hkn
    ·simp only[Option.some.injEq,Addr.mk.injEq]at hb'
     omega
   have hne:b≠w.heap.size:=by omega
   obtain⟨⟨v,hv⟩,hf,-⟩:=F.out k hkn
   have hgd:zs[k]=zs.getD k 0:=by rw[List.getD_eq_getElem?_getD,List.getElem?_eq_getElem hkn];rfl
   rw[hgd]at hcell
   have FS:Hid (_):=F.out.step
   clear F hgd
   generalize zs.getD k 0=z at*
   go_wp2
   go_roundw
   case rel=>exact⟨k+1,by omega,by go_num,LR.setCell (Nat.le_refl _) _,by rw[World.size_setCell];exact hl,FS⟩
   case measure=>simp[intOf];omega
  ·have e:k=zs.length:=by omega
   subst e
   go_wp2
   go_ret
   exact⟨rfl,LR,F.out.ints hl,hl,fun j hj=>⟨(F.out j hj).1,(F.out j hj).2.1⟩⟩

set_option maxHeartbeats 1000000 in
theorem eqIntS_same (a b:Option Addr) (zs:List Int) (c1 c2:Nat) (w:World) (hz:zs.length≤1048576) (I:Ints w a zs) (J:Ints w b zs):
 Calls Tryz.prog 23 #[.slice a zs.length c1,.slice b zs.length c2] w fun e w'=>e= .returned (.bool true)∧Drawn w w':=by
 go_enter Tryz.func23,Tryz.ntmps23
 go_wp2
 go_loopw [5] (fun i wr=>∃(k n:Nat),k≤zs.length∧i= .int .i64 k∧wr=w.drewN n) (fun i _=>zs.length-(intOf i).toNat)
 case atStart=>exact⟨0,0,by omega,rfl,rfl⟩
 case round=>
  obtain⟨k,n,hk,rfl,rfl⟩:=hrel
  by_cases hkn:k<zs.length
  ·obtain⟨x,o,rfl,hx,hxc⟩:=I.at k hkn
   obtain⟨y,u,rfl,hy,hyc⟩:=J.at k hkn
   generalize zs[k]=z at*
   go_wp2
   go_quiet (fail)
   go_wp2
   go_roundw
   case rel=>exact⟨k+1,n+nq,by omega,by go_num,rfl⟩
   case measure=>simp[intOf];omega
  ·go_wp2
   go_ret
   exact⟨rfl,n,rfl⟩

structure Band (lo hi:Nat) (w w':World):Prop where
 os:w'.os=w.os
 tape:w'.tape=w.tape
 output:w'.output=w.output
 size:w'.heap.size=w.heap.size
 block:∀b,b<lo∨hi≤b→w'.heap[b]? =w.heap[b]?

theorem Band.refl (lo hi:Nat) (w:World):Band lo hi w w:=⟨rfl,rfl,rfl,rfl,fun _ _=>rfl⟩

theorem Band.trans {lo hi:Nat} {a b c:World} (h:Band lo hi a b) (k:Band lo hi b c):Band lo hi a c:=
 ⟨k.os.trans h.os,k.tape.trans h.tape,k.output.trans h.output,k.size.trans h.size,fun i hi=>(k.block i hi).trans (h.block i hi)⟩

theorem Band.wide {lo hi lo' hi':Nat} {w w':World} (h:Band lo hi w w') (h1:lo'≤lo) (h2:hi≤hi'):Band lo' hi' w w':=
 ⟨h.os,h.tape,h.output,h.size,fun b hb=>h.block b (by omega)⟩

theorem Band.set {lo hi:Nat} {a w:World} (h:Band lo hi a w) {g i:Nat} (h1:lo≤g) (h2:g<hi) (u:Value):Band lo hi a (w.setCell ⟨g,i,none⟩ u):=by
 have L:=(Below.refl 0 w).setCell (p:=⟨g,i,none⟩) (Nat.zero_le _) u
 refine⟨L.os.trans h.os,L.tape.trans h.tape,L.output.trans h.output,by rw[World.size_setCell];exact h.size,fun b hb=> ?_⟩
 rw[Below.heap_setCell w ⟨g,i,none⟩ u b (by show b≠g;omega)]
 exact h.block b hb

theorem Band.below {lo hi:Nat} {w w':World} (h:Band lo hi w w'):Below lo w w':=⟨h.os,h.tape,h.output,Nat.le_of_eq h.size.symm,fun k hk=>h.block k (Or.inl hk)⟩

theorem Ints.band {lo hi:Nat} {w w1:World} {a:Option Addr} {zs:List Int} (h:Ints w a zs) (L:Band lo hi w w1) (ha:∀b o,a=some ⟨b,o,none⟩→zs≠ []→b<lo∨hi≤b):Ints w1 a zs:=by
 rcases h with h|⟨b,o,rfl,hlt,hc⟩
 ·exact Or.inl h
 ·by_cases hz:zs= []
  ·exact Or.inl hz
  ·exact Or.inr ⟨b,o,rfl,by rw[L.size];exact hlt,fun i hi=>by rw[World.cell?_of_block (a:=⟨b,o+i,none⟩) (L.block b (ha b o rfl hz))];exact hc i hi⟩

theorem Ints.room {w:World} {g:Nat} {zs:List Int} (h:Ints w (some ⟨g,0,none⟩) zs) (hf:∀i,w.frozen? ⟨g,i,none⟩=false):Room w g zs.length:=by
 intro j hj
 obtain⟨b,o,e,-,hc⟩:=h.at j hj
 simp only[Option.some.injEq,Addr.mk.injEq]at e
 obtain⟨rfl,rfl,-⟩:=e
 rw[Nat.zero_add]at hc
 exact⟨⟨_,hc⟩,hf j⟩

theorem Room.band {lo hi:Nat} {w w1:World} {g m:Nat} (h:Room w g m) (L:Band lo hi w w1) (hg:g<lo∨hi≤g):Room w1 g m:=by
 intro j hj
 rw[World.cell?_of_block (a:=⟨g,j,none⟩) (L.block g hg),World.frozen?_of_block (a:=⟨g,j,none⟩) (L.block g hg)]
 exact h j hj

theorem szIntS_yes (a:Option Addr) (n cap:Nat) (z:Int) (w:World) (hz:z≤1048576) (h:(n:Int)≤z):
 Calls Tryz.prog 13 #[.slice a n cap,.int .i64 z] w fun e w'=>e= .returned (.int .i64 (z-(n:Int)))∧w'=w:=by
 have hd:decide (z-(n:Int)<0)=false:=decide_eq_false (by omega)
 go_enter Tryz.func13,Tryz.ntmps13
 go_wp2
 go_ret
 exact⟨rfl,rfl⟩

theorem szIntS_no (a:Option Addr) (n cap:Nat) (z:Int) (w:World) (hz:z≤1048576) (h0:0≤z) (hn:n≤maxLen) (h:z<(n:Int)):
 Calls Tryz.prog 13 #[.slice a n cap,.int .i64 z] w fun e w'=>e= .returned (.int .i64 (-1))∧w'=w:=by
 unfold maxLen at hn
 have hd:decide (z-(n:Int)<0)=true:=decide_eq_true (by omega)
 go_enter Tryz.func13,Tryz.ntmps13
 go_wp2
 go_ret
 exact⟨rfl,rfl⟩

def Mkd (z:Int) (w:World) (g n:Nat):Prop:=∀i,i<n→w.cell? ⟨g,i,none⟩=some (.int .i64 (z+(i:Int)))

theorem Mkd.on {w w1:World} {g n B:Nat} {z:Int} (h:Mkd z w g n) (L:Below B w w1) (hg:g<B):Mkd z w1 g n:=by
 intro i hi
 rw[L.cell (p:=⟨g,i,none⟩) hg]
 exact h i hi

theorem Mkd.step {w:World} {g n k:Nat} {z:Int} (h:Mkd z w g k) (R:Room w g n) (hk:k<n):Mkd z (w.setCell ⟨g,k,none⟩ (.int .i64 (z+(k:Int)))) g (k+1):=by
 intro i hi
 by_cases e:i=k
 ·subst e
  obtain⟨⟨v,hv⟩,-⟩:=R i hk
  rw[set_cell hv,if_pos rfl]
 ·rw[set_cell (h i (by omega)),if_neg e]

set_option maxHeartbeats 1000000 in
theorem markIntS_val (a:Option Addr) (g n cap:Nat) (z:Int) (w:World) (hn:n≤1048576) (hz0:0≤z) (hz1:z≤1152921504606846976) (h:n=0∨(a=some ⟨g,0,none⟩∧Room w g n)):
 Calls Tryz.prog 25 #[.slice a n cap,.int .i64 z] w fun e w'=>e= .returned (.int .i64 (z+(n:Int)))∧Band g (g+1) w w'∧Mkd z w' g n∧∀m,Room w g m→Room w' g m:=by
 have HR:Hid (0<n→a=some ⟨g,0,none⟩∧Room w g n):=fun h0=>h.resolve_left (by omega)
 clear h
 go_enter Tryz.func25,Tryz.ntmps25
 go_wp2
 go_loopw [1,5] (fun t i wr=>∃k:Nat,k≤n∧i= .int .i64 k∧t= .int .i64 (z+(k:Int))∧Band g (g+1) w wr∧Hid (∀m,Room w g m→Room wr g m)∧Hid (Mkd z wr g k)∧Hid (0<n→a=some ⟨g,0,none⟩∧Room wr g n)) (fun _ i _=>n-(intOf i).toNat)
 case atStart=>exact⟨0,by omega,rfl,by simp,Band.refl _ _ _,fun m h=>h,fun i hi=>by omega,HR⟩
 case round=>
  obtain⟨k,hk,rfl,rfl,L,RM,M,RR⟩:=hrel
  by_cases hkn:k<n
  ·obtain⟨rfl,R⟩:=RR.out (by omega)
   have HM:Hid (_):=M.out.step R hkn
   have HQ:Hid (_):=R.set g k (.int .i64 (z+(k:Int)))
   have HX:Hid (∀m,Room w g m→_):=fun m h=>(RM.out m h).set g k (.int .i64 (z+(k:Int)))
   have L3:=L.set (i:=k) (Nat.le_refl g) (by omega) (.int .i64 (z+(k:Int)))
   obtain⟨⟨v0,f0⟩,z0⟩:=R k hkn
   clear R RR HR M
   go_wp2
   go_roundw
   case rel=>exact⟨k+1,by omega,by go_num,by go_num,L3,HX,HM,fun _=>⟨by simp,HQ.out⟩⟩
   case measure=>simp[intOf];omega
  ·obtain rfl:k=n:=by omega
   go_wp2
   go_ret
   exact⟨rfl,L,M.out,RM.out⟩

set_option maxHeartbeats 1000000 in
theorem heldIntS_val (a:Option Addr) (g n cap:Nat) (z:Int) (w:World) (hn:n≤1048576) (hz0:0≤z) (hz1:z≤1152921504606846976) (h:n=0∨a=some ⟨g,0,none⟩) (M:Mkd z w g n):
 Calls Tryz.prog 27 #[.slice a n cap,.int .i64 z] w fun e w'=>e= .returned (.int .i64 (z+(n:Int)))∧w'=w:=by
 have HA:Hid (0<n→a=some ⟨g,0,none⟩):=fun h0=>h.resolve_left (by omega)
 have HM:Hid (_):=M
 clear h M
 go_enter Tryz.func27,Tryz.ntmps27
 go_wp2
 go_loop [1,5] (fun t i=>∃k:Nat,k≤n∧i= .int .i64 k∧t= .int .i64 (z+(k:Int))) (fun _ i=>n-(intOf i).toNat)
 case atStart=>exact⟨0,by omega,rfl,by simp⟩
 case round=>
  obtain⟨k,hk,rfl,rfl⟩:=hrel
  by_cases hkn:k<n
  ·obtain rfl:=HA.out (by omega)
   have c0:=HM.out k hkn
   go_wp2
   go_round
   case rel=>exact⟨k+1,by omega,by go_num,by go_num⟩
   case measure=>simp[intOf];omega
  ·obtain rfl:k=n:=by omega
   go_wp2
   go_ret
   exact⟨rfl,rfl⟩

end Hn
end Go.Proofs.YtdcpjicgehdmfaaGreatDoor

/- Lists of numbers that are off: OffOk of program and model. -/
namespace Go.Proofs.YtdcpjicgehdmfaaGreatDoor
namespace Hn
open Go.ChangeShapes Go.WideShapes Go.ChangeAt Go.RowKit
open Pk (new_below join_below cell_at heap_new frozen_at lt_of kept heap_old Drawn info_of Room)
set_option linter.unusedSimpArgs false
set_option linter.unusedVariables false

def inB (x lo hi:Int):Bool:=decide (lo≤x)&&decide (x≤hi)

theorem in_is {x lo hi:Int}:inB x lo hi=true↔lo≤x∧x≤hi:=by simp[inB]
theorem in_not {x lo hi:Int}:inB x lo hi=false↔¬(lo≤x∧x≤hi):=by
 rw[←in_is]
 simp

theorem btw_yes (x lo hi:Int) (w:World) (h:inB x lo hi=true):
 Calls Tryz.prog 78 #[.int .i64 x,.int .i64 lo,.int .i64 hi] w fun e w'=>e= .returned (.bool true)∧w'=w:=by
 obtain⟨h1,h2⟩:=in_is.1 h
 have d1:decide (lo≤x)=true:=decide_eq_true h1
 have d2:decide (x≤hi)=true:=decide_eq_true h2
 clear h h1 h2
 go_enter Tryz.func78,Tryz.ntmps78
 go_wp2
 go_ret
 exact⟨rfl,rfl⟩

theorem btw_no (x lo hi:Int) (w:World) (h:inB x lo hi=false):
 Calls Tryz.prog 78 #[.int .i64 x,.int .i64 lo,.int .i64 hi] w fun e w'=>e= .returned (.bool false)∧w'=w:=by
 by_cases h1:lo≤x
 ·have h2:¬x≤hi:=fun h2=>in_not.1 h ⟨h1,h2⟩
  have d1:decide (lo≤x)=true:=decide_eq_true h1
  have d2:decide (x≤hi)=false:=decide_eq_false h2
  clear h h1 h2
  go_enter Tryz.func78,Tryz.ntmps78
  go_wp2
  go_ret
  exact⟨rfl,rfl⟩
 ·have d1:decide (lo≤x)=false:=decide_eq_false h1
  clear h h1
  go_enter Tryz.func78,Tryz.ntmps78
  go_wp2
  go_ret
  exact⟨rfl,rfl⟩

theorem btw_val (x lo hi:Int) (w:World):Calls Tryz.prog 78 #[.int .i64 x,.int .i64 lo,.int .i64 hi] w fun e w'=>e= .returned (.bool (inB x lo hi))∧w'=w:=by
 cases h:inB x lo hi
 ·exact btw_no x lo hi w h
 ·exact btw_yes x lo hi w h

theorem ins_yes (x lo hi:Int) (w:World) (h:inB x lo hi=true):
 Calls Tryz.prog 56 #[.int .i64 x,.int .i64 lo,.int .i64 hi] w fun e w'=>e= .returned (.bool true)∧w'=w:=by
 obtain⟨h1,h2⟩:=in_is.1 h
 have d1:decide (lo≤x)=true:=decide_eq_true h1
 have d2:decide (x≤hi)=true:=decide_eq_true h2
 clear h h1 h2
 go_enter Tryz.func56,Tryz.ntmps56
 go_wp2
 go_ret
 exact⟨rfl,rfl⟩

theorem ins_no (x lo hi:Int) (w:World) (h:inB x lo hi=false):
 Calls Tryz.prog 56 #[.int .i64 x,.int .i64 lo,.int .i64 hi] w fun e w'=>e= .returned (.bool false)∧w'=w:=by
 by_cases h1:lo≤x
 ·have h2:¬x≤hi:=fun h2=>in_not.1 h ⟨h1,h2⟩
  have d1:decide (lo≤x)=true:=decide_eq_true h1
  have d2:decide (x≤hi)=false:=decide_eq_false h2
  clear h h1 h2
  go_enter Tryz.func56,Tryz.ntmps56
  go_wp2
  go_ret
  exact⟨rfl,rfl⟩
 ·have d1:decide (lo≤x)=false:=decide_eq_false h1
  clear h h1
  go_enter Tryz.func56,Tryz.ntmps56
  go_wp2
  go_ret
  exact⟨rfl,rfl⟩

theorem ins_val (x lo hi:Int) (w:World):Calls Tryz.prog 56 #[.int .i64 x,.int .i64 lo,.int .i64 hi] w fun e w'=>e= .returned (.bool (inB x lo hi))∧w'=w:=by
 cases h:inB x lo hi
 ·exact ins_no x lo hi w h
 ·exact ins_yes x lo hi w h

def offG (p:Int):List Int→Bool
 | []=>true
 |x::t=>decide (p<x)&&(decide (x≤999999999)&&offG x t)

def offB (l:List Int):Bool:=decide (l.length≤200)&&offG 0 l

theorem off_step {p:Int} {l:List Int} {k:Nat} (hk:k<l.length):offG p (l.drop k)=(decide (p<l[k])&&(decide (l[k]≤999999999)&&offG l[k] (l.drop (k+1)))):=by
 rw[List.drop_eq_getElem_cons hk]
 rfl

theorem off_end (p:Int) (l:List Int):offG p (l.drop l.length)=true:=by simp[offG]

set_option maxHeartbeats 1000000 in
theorem implOff_val (a:Option Addr) (l:List Int) (cap:Nat) (w:World) (hz:l.length≤1048576) (I:Ints w a l):
 Calls Tryz.prog 114 #[.slice a l.length cap] w fun e w'=>e= .returned (.bool (offB l))∧w'=w:=by
 by_cases h2:l.length≤200
 ·have hd:decide ((200:Int)<(l.length:Int))=false:=decide_eq_false (by omega)
  have HO:Hid (offB l=offG 0 l):=by show offB l=offG 0 l;unfold offB;rw[decide_eq_true h2,Bool.true_and]
  clear h2
  go_enter Tryz.func114,Tryz.ntmps114
  go_wp2
  go_loop [3,11] (fun t i=>∃(k:Nat) (p:Int),k≤l.length∧i= .int .i64 k∧t= .int .i64 p∧Hid (offG p (l.drop k)=offG 0 l)) (fun _ i=>l.length-(intOf i).toNat)
  case atStart=>exact⟨0,0,by omega,rfl,rfl,rfl⟩
  case round=>
   obtain⟨k,p,hk,rfl,rfl,HP⟩:=hrel
   by_cases hkn:k<l.length
   ·obtain⟨b,o,rfl,hlt,hc⟩:=I.at k hkn
    have HS:Hid (_=_):=(off_step (p:=p) hkn).symm.trans HP.out
    clear HP
    generalize l[k]=x at*
    by_cases h3:p<x
    ·have d3:decide (x≤p)=false:=decide_eq_false (by omega)
     by_cases h4:x≤999999999
     ·have d4:decide ((999999999:Int)<x)=false:=decide_eq_false (by omega)
      have HN:Hid (offG x (l.drop (k+1))=offG 0 l):=by
       have:=HS.out
       rw[decide_eq_true h3,decide_eq_true h4,Bool.true_and,Bool.true_and]at this
       exact this
      clear h3 h4 HS
      go_wp2
      go_round
      case rel=>exact⟨k+1,x,by omega,by go_num,rfl,HN⟩
      case measure=>simp[intOf];omega
     ·have d4:decide ((999999999:Int)<x)=true:=decide_eq_true (by omega)
      have HN:Hid (offB l=false):=by
       show offB l=false
       rw[HO.out,←HS.out,decide_eq_false h4]
       simp
      clear h3 h4 HS
      go_wp2
      go_ret
      exact⟨by rw[HN.out]<;>rfl,rfl⟩
    ·have d3:decide (x≤p)=true:=decide_eq_true (by omega)
     have HN:Hid (offB l=false):=by
      show offB l=false
      rw[HO.out,←HS.out,decide_eq_false h3]
      simp
     clear h3 HS
     go_wp2
     go_ret
     exact⟨by rw[HN.out]<;>rfl,rfl⟩
   ·obtain rfl:k=l.length:=by omega
    have HN:Hid (offB l=true):=by
     show offB l=true
     rw[HO.out,←HP.out]
     exact off_end p l
    go_wp2
    go_ret
    exact⟨by rw[HN.out]<;>rfl,rfl⟩
 ·have hd:decide ((200:Int)<(l.length:Int))=true:=decide_eq_true (by omega)
  have HO:Hid (offB l=false):=by show offB l=false;unfold offB;rw[decide_eq_false h2,Bool.false_and]
  clear h2
  go_enter Tryz.func114,Tryz.ntmps114
  go_wp2
  go_ret
  exact⟨by rw[HO.out]<;>rfl,rfl⟩

def pre (l:List Int) (k:Nat):Int:=if k=0 then 0 else l.getD (k-1) 0

theorem pre_next {l:List Int} {k:Nat} (hk:k<l.length):pre l (k+1)=l[k]:=by
 unfold pre
 rw[if_neg (by omega),List.getD_eq_getElem?_getD,Nat.add_sub_cancel,List.getElem?_eq_getElem hk]
 rfl

theorem off_first {p x:Int} {t:List Int} {r:Bool} (h:(decide (p<x)&&(decide (x≤999999999)&&offG x t))=r) (h1:p<x) (h2:x≤999999999):offG x t=r:=by
 rw[decide_eq_true h1,decide_eq_true h2,Bool.true_and,Bool.true_and]at h
 exact h

theorem off_no {p x:Int} {t:List Int} {r:Bool} (h:(decide (p<x)&&(decide (x≤999999999)&&offG x t))=r) (h1:¬(p<x∧x≤999999999)):r=false:=by
 rw[←h]
 by_cases h2:p<x
 ·have h3:¬x≤999999999:=fun h3=>h1 ⟨h2,h3⟩
  rw[decide_eq_false h3]
  simp
 ·rw[decide_eq_false h2]
  simp

set_option maxRecDepth 100000 in
set_option maxHeartbeats 4000000 in
theorem specOff_val (a:Option Addr) (l:List Int) (cap:Nat) (w:World) (hz:l.length≤1048576) (I:Ints w a l):
 Calls Tryz.prog 59 #[.slice a l.length cap] w fun e w'=>e= .returned (.bool (offB l))∧Drawn w w':=by
 have HO:Hid (offB l=(decide (l.length≤200)&&offG 0 l)):=rfl
 have HI:Hid (_∨_):=I
 go_enter Tryz.func59,Tryz.ntmps59
 go_wp2
 go_loopw [3] (fun i wr=>∃(k:Nat),k≤l.length∧i= .int .i64 k∧Drawn w wr∧Hid (offG (pre l k) (l.drop k)=offG 0 l)∧0≤pre l k) (fun i _=>l.length-(intOf i).toNat)
 case atStart=>exact⟨0,by omega,rfl,Drawn.refl _,rfl,by simp[pre]⟩
 case round=>
  obtain⟨k,hk,rfl,hD,HP,hpp⟩:=hrel
  by_cases hkn:k<l.length
  ·have IR:Ints wr a l:=Ints.on HI.out (hD.below _)
   obtain⟨b,o,rfl,hlt,hc⟩:=IR.at k hkn
   have HS:Hid (_=_):=(off_step (p:=pre l k) hkn).symm.trans HP.out
   have HX:Hid (pre l (k+1)=l[k]):=pre_next hkn
   clear HP
   by_cases h1:inB l[k] 1 999999999=true
   ·have HIN:Hid (∀W:World,_):=fun W=>ins_yes l[k] 1 999999999 W h1
    obtain⟨hx1,hx2⟩:=in_is.1 h1
    clear h1
    by_cases h0:k=0
    ·have HN:Hid (offG (pre l (k+1)) (l.drop (k+1))=offG 0 l):=by
      show _=_
      rw[HX.out]
      refine off_first HS.out ?_ hx2
      have:pre l k=0:=by simp[pre,h0]
      omega
     have HP':Hid (0≤pre l (k+1)):=by show 0≤_;rw[HX.out];omega
     have dk:decide ((0:Int)<(k:Int))=false:=decide_eq_false (by omega)
     have dk2:decide (0<k)=false:=decide_eq_false (by omega)
     generalize l[k]=x at*
     clear HS HX h0
     go_wp2
     go_quiet ((go_at_call 56;exact Calls.quiet_of_same (HIN.out _)))
     go_wp2
     go_roundw
     case rel=>exact⟨k+1,by omega,by go_num,hD.more _,HN,HP'.out⟩
     case measure=>simp[intOf];omega
    ·have hk1:k-1<l.length:=by omega
     obtain⟨b',o',e',-,hc'⟩:=IR.at (k-1) hk1
     simp only[Option.some.injEq,Addr.mk.injEq,and_true]at e'
     obtain⟨rfl,rfl⟩:=e'
     have HQ:Hid (pre l k=l[k-1]):=by
      show _=_
      have:=pre_next hk1
      rwa [Nat.sub_add_cancel (by omega)]at this
     have hw:IntKind.i64.wrap ((k:Int)-1)=((k-1:Nat):Int):=by rw[IntKind.wrap_i64];omega
     have hw3:wrap64 ((k:Int)-1)=((k-1:Nat):Int):=by unfold wrap64;omega
     have dk2:decide (0<k)=true:=decide_eq_true (by omega)
     have dk:decide ((0:Int)<(k:Int))=true:=decide_eq_true (by omega)
     have hkm:k-1<l.length:=hk1
     by_cases h3:pre l k<l[k]
     ·have HN:Hid (offG (pre l (k+1)) (l.drop (k+1))=offG 0 l):=by
       show _=_
       rw[HX.out]
       exact off_first HS.out h3 hx2
      have HP':Hid (0≤pre l (k+1)):=by show 0≤_;rw[HX.out];omega
      rw[HQ.out]at h3
      generalize l[k]=x at*
      generalize l[k-1]=y at*
      generalize hj:k-1=j at*
      have d3:decide (x≤y)=false:=decide_eq_false (by omega)
      clear HS HX HQ h3
      go_wp2
      go_quiet ((go_at_call 56;exact Calls.quiet_of_same (HIN.out _)))
      go_wp2
      go_roundw
      case rel=>exact⟨k+1,by omega,by go_num,hD.more _,HN,HP'.out⟩
      case measure=>simp[intOf];omega
     ·have HN:Hid (offB l=false):=by
       show offB l=false
       rw[HO.out,off_no HS.out (fun h=>h3 h.1)]
       simp
      rw[HQ.out]at h3
      generalize l[k]=x at*
      generalize l[k-1]=y at*
      generalize hj:k-1=j at*
      have d3:decide (x≤y)=true:=decide_eq_true (by omega)
      clear HS HX HQ h3
      go_wp2
      go_quiet ((go_at_call 56;exact Calls.quiet_of_same (HIN.out _)))
      go_wp2
      go_ret
      exact⟨by rw[HN.out]<;>rfl,hD.more _⟩
   ·have h1':inB l[k] 1 999999999=false:=by simpa using h1
    have HIN:Hid (∀W:World,_):=fun W=>ins_no l[k] 1 999999999 W h1'
    have hno:¬(pre l k<l[k]∧l[k]≤999999999):=fun h=>in_not.1 h1' ⟨by omega,h.2⟩
    have HN:Hid (offB l=false):=by
     show offB l=false
     rw[HO.out,off_no HS.out hno]
     simp
    clear h1 h1' hno HS HX
    generalize l[k]=x at*
    go_wp2
    go_quiet ((go_at_call 56;exact Calls.quiet_of_same (HIN.out _)))
    go_wp2
    go_ret
    exact⟨by rw[HN.out]<;>rfl,hD.more _⟩
  ·obtain rfl:k=l.length:=by omega
   have HN:Hid (offB l=decide (l.length≤200)):=by
    show offB l=_
    rw[HO.out,←HP.out,off_end,Bool.and_true]
   go_wp2
   go_ret
   refine⟨?_,hD⟩
   rw[HN.out]
   congr 2
   simp
   try omega

end Hn
end Go.Proofs.YtdcpjicgehdmfaaGreatDoor

/- Devices as values: what they hold, and where it lies. -/
namespace Go.Proofs.YtdcpjicgehdmfaaGreatDoor
namespace Hn
open Go.ChangeShapes Go.WideShapes Go.ChangeAt Go.RowKit
open Pk (new_below join_below cell_at heap_new frozen_at lt_of kept heap_old Drawn info_of Room)
set_option linter.unusedSimpArgs false
set_option linter.unusedVariables false

structure Hnd where
 dv:Int
 p:Int
 q:Int
 g:Int
 op:Int
 is:Int
 ve:Int
 ol:List Int
 sl:List Ct

structure Pl where
 a:Option Addr
 c:Nat
 b:Option Addr
 d:Nat

abbrev hnV (x:Pl) (o:Hnd):Value:= .agg #[.int .i64 o.dv,.int .i64 o.p,.int .i64 o.q,.int .i64 o.g,.int .i64 o.op,.int .i64 o.is,.int .i64 o.ve,.slice x.a o.ol.length x.c,.slice x.b o.sl.length x.d]
abbrev hnB (x:Pl) (o:Hnd) (t:TypeId):Obj:= .cells #[.int .i64 o.dv,.int .i64 o.p,.int .i64 o.q,.int .i64 o.g,.int .i64 o.op,.int .i64 o.is,.int .i64 o.ve,.slice x.a o.ol.length x.c,.slice x.b o.sl.length x.d] t

structure In (w:World) (x:Pl) (o:Hnd):Prop where
 off:Ints w x.a o.ol
 seen:Controls w x.b o.sl

theorem In.on {w w1:World} {x:Pl} {o:Hnd} (h:In w x o) (L:Below w.heap.size w w1):In w1 x o:=⟨h.off.on L,h.seen.on L⟩

def seenF (dv:Int) (k:Nat):List Ct→Bool
 | []=>true
 |c::t=>decide (c.dv=dv)&&(decide (c.no=(k:Int)+1)&&seenF dv (k+1) t)

def seenB (dv:Int) (l:List Ct):Bool:=decide (l.length≤300)&&seenF dv 0 l

def handB (o:Hnd):Bool:=inB o.dv 1 9999&&(inB o.is 0 9999&&(decide (0≤o.ve)&&(offB o.ol&&seenB o.dv o.sl)))

theorem seen_step {dv:Int} {l:List Ct} {k:Nat} (hk:k<l.length):seenF dv k (l.drop k)=(decide (l[k].dv=dv)&&(decide (l[k].no=(k:Int)+1)&&seenF dv (k+1) (l.drop (k+1)))):=by
 rw[List.drop_eq_getElem_cons hk]
 rfl

theorem seen_end (dv:Int) (k:Nat) (l:List Ct):seenF dv k (l.drop l.length)=true:=by simp[seenF]

theorem seen_yes {dv x y:Int} {k:Int} {r s:Bool} (h:(decide (x=dv)&&(decide (y=k)&&r))=s) (h1:x=dv) (h2:y=k):r=s:=by
 rw[decide_eq_true h1,decide_eq_true h2,Bool.true_and,Bool.true_and]at h
 exact h

theorem seen_no {dv x y:Int} {k:Int} {r s:Bool} (h:(decide (x=dv)&&(decide (y=k)&&r))=s) (h1:¬(x=dv∧y=k)):s=false:=by
 rw[←h]
 by_cases h2:x=dv
 ·have h3:¬y=k:=fun h3=>h1 ⟨h2,h3⟩
  rw[decide_eq_false h3]
  simp
 ·rw[decide_eq_false h2]
  simp

set_option maxHeartbeats 2000000 in
theorem implSeen_val (a:Option Addr) (l:List Ct) (cap:Nat) (dv:Int) (w:World) (hz:l.length≤1048576) (I:Controls w a l):
 Calls Tryz.prog 115 #[.slice a l.length cap,.int .i64 dv] w fun e w'=>e= .returned (.bool (seenB dv l))∧Below w.heap.size w w':=by
 by_cases h2:l.length≤300
 ·have hd:decide ((300:Int)<(l.length:Int))=false:=decide_eq_false (by omega)
  have HO:Hid (seenB dv l=seenF dv 0 l):=by show seenB dv l=seenF dv 0 l;unfold seenB;rw[decide_eq_true h2,Bool.true_and]
  clear h2
  go_enter Tryz.func115,Tryz.ntmps115
  go_wp2
  go_loopw [12] (fun i wr=>∃(k:Nat),k≤l.length∧i= .int .i64 k∧Below w.heap.size w wr∧Hid (seenF dv k (l.drop k)=seenF dv 0 l)) (fun i _=>l.length-(intOf i).toNat)
  case atStart=>exact⟨0,by omega,rfl,Below.refl _ _,rfl⟩
  case round=>
   obtain⟨k,hk,rfl,LR,HP⟩:=hrel
   by_cases hkn:k<l.length
   ·obtain⟨b,o,rfl,hlt,hc0,hc1,hc2,hc3,hc4,hc5⟩:=(I.on LR).at k hkn
    have HS:Hid (_=_):=(seen_step (dv:=dv) hkn).symm.trans HP.out
    clear HP
    generalize l[k]=x at*
    have LN:=join_below LR (new_below wr (.cells #[.int .i64 x.dv,.int .i64 x.no,.int .i64 x.tk,.int .i64 x.tr,.int .i64 x.dy,.int .i64 x.sa] 77))
    by_cases h3:x.dv=dv
    ·have d3:(x.dv !=dv)=false:=by simp[h3]
     by_cases h4:x.no=(k:Int)+1
     ·have d4:(x.no !=(k:Int)+1)=false:=by simp[h4]
      have HN:Hid (seenF dv (k+1) (l.drop (k+1))=seenF dv 0 l):=seen_yes HS.out h3 h4
      clear h3 h4 HS
      go_wp2
      go_roundw
      case rel=>exact⟨k+1,by omega,by go_num,LN,HN⟩
      case measure=>simp[intOf];omega
     ·have d4:(x.no !=(k:Int)+1)=true:=by simp[h4]
      have HN:Hid (seenB dv l=false):=HO.out.trans (seen_no HS.out fun h=>h4 h.2)
      clear h3 h4 HS
      go_wp2
      go_ret
      exact⟨by rw[HN.out]<;>rfl,LN⟩
    ·have d3:(x.dv !=dv)=true:=by simp[h3]
     have HN:Hid (seenB dv l=false):=HO.out.trans (seen_no HS.out fun h=>h3 h.1)
     clear h3 HS
     go_wp2
     go_ret
     exact⟨by rw[HN.out]<;>rfl,LN⟩
   ·obtain rfl:k=l.length:=by omega
    have HN:Hid (seenB dv l=true):=HO.out.trans (HP.out.symm.trans (seen_end dv _ l))
    go_wp2
    go_ret
    exact⟨by rw[HN.out]<;>rfl,LR⟩
 ·have hd:decide ((300:Int)<(l.length:Int))=true:=decide_eq_true (by omega)
  have HO:Hid (seenB dv l=false):=by show seenB dv l=false;unfold seenB;rw[decide_eq_false h2,Bool.false_and]
  clear h2
  go_enter Tryz.func115,Tryz.ntmps115
  go_wp2
  go_ret
  exact⟨by rw[HO.out]<;>rfl,Below.refl _ _⟩

end Hn
end Go.Proofs.YtdcpjicgehdmfaaGreatDoor

/- HandOk of program and model. -/
namespace Go.Proofs.YtdcpjicgehdmfaaGreatDoor
namespace Hn
open Go.ChangeShapes Go.WideShapes Go.ChangeAt Go.RowKit
open Pk (new_below join_below cell_at heap_new frozen_at lt_of kept heap_old Drawn info_of Room)
set_option linter.unusedSimpArgs false
set_option linter.unusedVariables false

theorem hand_no0 {o:Hnd} (h:inB o.dv 1 9999=false):handB o=false:=by unfold handB;rw[h];rfl
theorem hand_no1 {o:Hnd} (h:inB o.is 0 9999=false):handB o=false:=by unfold handB;rw[h,Bool.false_and,Bool.and_false]
theorem hand_no2 {o:Hnd} (h:¬0≤o.ve):handB o=false:=by unfold handB;rw[decide_eq_false h,Bool.false_and,Bool.and_false,Bool.and_false]
theorem hand_no3 {o:Hnd} (h:offB o.ol=false):handB o=false:=by unfold handB;rw[h,Bool.false_and,Bool.and_false,Bool.and_false,Bool.and_false]
theorem hand_is {o:Hnd} (h0:inB o.dv 1 9999=true) (h1:inB o.is 0 9999=true) (h2:0≤o.ve) (h3:offB o.ol=true):handB o=seenB o.dv o.sl:=by
 unfold handB
 rw[h0,h1,decide_eq_true h2,h3,Bool.true_and,Bool.true_and,Bool.true_and,Bool.true_and]

set_option maxRecDepth 100000 in
set_option maxHeartbeats 4000000 in
theorem implHand_val (x:Pl) (o:Hnd) (w:World) (hz:o.ol.length≤1048576) (hz2:o.sl.length≤1048576) (I:In w x o):
 Calls Tryz.prog 77 #[hnV x o] w fun e w'=>e= .returned (.bool (handB o))∧Below w.heap.size w w':=by
 have N:=new_below w (hnB x o 35)
 have m:=heap_new w (hnB x o 35)
 have IN:=I.on N
 have HF:Hid (∀W:World,_):=fun W=>btw_val o.dv 1 9999 W
 have HG:Hid (∀W:World,_):=fun W=>btw_val o.is 0 9999 W
 have HO:Hid (∀W:World,Ints W x.a o.ol→_):=fun W h=>implOff_val x.a o.ol x.c W hz h
 have HS:Hid (∀W:World,Controls W x.b o.sl→_):=fun W h=>implSeen_val x.b o.sl x.d o.dv W hz2 h
 cases h0:inB o.dv 1 9999
 ·have HV:Hid (handB o=false):=hand_no0 h0
  rw[h0]at HF
  clear h0 HG HO HS m I
  go_enter Tryz.func77,Tryz.ntmps77
  go_wp2_with fail
  refine(HF.out _).mono ?_
  rintro e w1 ⟨rfl,rfl⟩
  go_wp2
  go_ret
  exact⟨by rw[HV.out]<;>rfl,N⟩
 cases h1:inB o.is 0 9999
 ·have HV:Hid (handB o=false):=hand_no1 h1
  rw[h0]at HF
  rw[h1]at HG
  clear h0 h1 HO HS m I
  go_enter Tryz.func77,Tryz.ntmps77
  go_wp2_with fail
  refine(HF.out _).mono ?_
  rintro e w1 ⟨rfl,rfl⟩
  go_wp2_with fail
  refine(HG.out _).mono ?_
  rintro e w1 ⟨rfl,rfl⟩
  go_wp2
  go_ret
  exact⟨by rw[HV.out]<;>rfl,N⟩
 by_cases h2:0≤o.ve
 ·have d2:decide (o.ve<0)=false:=decide_eq_false (by omega)
  rw[h0]at HF
  rw[h1]at HG
  cases h3:offB o.ol
  ·have HV:Hid (handB o=false):=hand_no3 h3
   rw[h3]at HO
   clear h0 h1 h2 h3 HS m I
   go_enter Tryz.func77,Tryz.ntmps77
   go_wp2_with fail
   refine(HF.out _).mono ?_
   rintro e w1 ⟨rfl,rfl⟩
   go_wp2_with fail
   refine(HG.out _).mono ?_
   rintro e w1 ⟨rfl,rfl⟩
   go_wp2_with fail
   refine(HO.out _ IN.off).mono ?_
   rintro e w1 ⟨rfl,rfl⟩
   go_wp2
   go_ret
   exact⟨by rw[HV.out]<;>rfl,N⟩
  ·have HV:Hid (handB o=seenB o.dv o.sl):=hand_is h0 h1 h2 h3
   rw[h3]at HO
   clear h0 h1 h2 h3 m I
   go_enter Tryz.func77,Tryz.ntmps77
   go_wp2_with fail
   refine(HF.out _).mono ?_
   rintro e w1 ⟨rfl,rfl⟩
   go_wp2_with fail
   refine(HG.out _).mono ?_
   rintro e w1 ⟨rfl,rfl⟩
   go_wp2_with fail
   refine(HO.out _ IN.off).mono ?_
   rintro e w1 ⟨rfl,rfl⟩
   go_wp2_with fail
   refine(HS.out _ IN.seen).mono ?_
   rintro e w2 ⟨rfl,L2⟩
   have K2:=join_below N L2
   go_wp2
   go_ret
   exact⟨by rw[HV.out]<;>rfl,K2⟩
 ·have d2:decide (o.ve<0)=true:=decide_eq_true (by omega)
  have HV:Hid (handB o=false):=hand_no2 h2
  rw[h0]at HF
  rw[h1]at HG
  clear h0 h1 h2 HO HS m I
  go_enter Tryz.func77,Tryz.ntmps77
  go_wp2_with fail
  refine(HF.out _).mono ?_
  rintro e w1 ⟨rfl,rfl⟩
  go_wp2_with fail
  refine(HG.out _).mono ?_
  rintro e w1 ⟨rfl,rfl⟩
  go_wp2
  go_ret
  exact⟨by rw[HV.out]<;>rfl,N⟩

end Hn
end Go.Proofs.YtdcpjicgehdmfaaGreatDoor

/- HandOk of the model. -/
namespace Go.Proofs.YtdcpjicgehdmfaaGreatDoor
namespace Hn
open Go.ChangeShapes Go.WideShapes Go.ChangeAt Go.RowKit
open Pk (new_below join_below cell_at heap_new frozen_at lt_of kept heap_old Drawn info_of Room)
set_option linter.unusedSimpArgs false
set_option linter.unusedVariables false

theorem seen_long {dv:Int} {l:List Ct} (h:¬l.length≤300):seenB dv l=false:=by unfold seenB;rw[decide_eq_false h,Bool.false_and]
theorem seen_short {dv:Int} {l:List Ct} (h:l.length≤300):seenB dv l=seenF dv 0 l:=by unfold seenB;rw[decide_eq_true h,Bool.true_and]

set_option maxRecDepth 100000 in
set_option maxHeartbeats 4000000 in
theorem specHand_val (x:Pl) (o:Hnd) (w:World) (hz:o.ol.length≤1048576) (hz2:o.sl.length≤1048576) (I:In w x o):
 Calls Tryz.prog 37 #[hnV x o] w fun e w'=>e= .returned (.bool (handB o))∧Below w.heap.size w w':=by
 have N:=new_below w (hnB x o 35)
 have m:=heap_new w (hnB x o 35)
 have IN:=I.on N
 have HF:Hid (∀W:World,_):=fun W=>ins_val o.dv 1 9999 W
 have HG:Hid (∀W:World,_):=fun W=>ins_val o.is 0 9999 W
 have HO:Hid (∀W:World,Ints W x.a o.ol→_):=fun W h=>specOff_val x.a o.ol x.c W hz h
 cases h0:inB o.dv 1 9999
 ·have HV:Hid (handB o=false):=hand_no0 h0
  rw[h0]at HF
  clear h0 HG HO m I
  go_enter Tryz.func37,Tryz.ntmps37
  go_wp2_with fail
  refine(HF.out _).mono ?_
  rintro e w1 ⟨rfl,rfl⟩
  go_wp2
  go_ret
  exact⟨by rw[HV.out]<;>rfl,N⟩
 cases h1:inB o.is 0 9999
 ·have HV:Hid (handB o=false):=hand_no1 h1
  rw[h0]at HF
  rw[h1]at HG
  clear h0 h1 HO m I
  go_enter Tryz.func37,Tryz.ntmps37
  go_wp2_with fail
  refine(HF.out _).mono ?_
  rintro e w1 ⟨rfl,rfl⟩
  go_wp2_with fail
  refine(HG.out _).mono ?_
  rintro e w1 ⟨rfl,rfl⟩
  go_wp2
  go_ret
  exact⟨by rw[HV.out]<;>rfl,N⟩
 by_cases h2:0≤o.ve
 ·have d2:decide (o.ve<0)=false:=decide_eq_false (by omega)
  rw[h0]at HF
  rw[h1]at HG
  cases h3:offB o.ol
  ·have HV:Hid (handB o=false):=hand_no3 h3
   rw[h3]at HO
   clear h0 h1 h2 h3 m I
   go_enter Tryz.func37,Tryz.ntmps37
   go_wp2_with fail
   refine(HF.out _).mono ?_
   rintro e w1 ⟨rfl,rfl⟩
   go_wp2_with fail
   refine(HG.out _).mono ?_
   rintro e w1 ⟨rfl,rfl⟩
   go_wp2_with fail
   refine(HO.out _ IN.off).mono ?_
   rintro e w1 ⟨rfl,D1⟩
   have K1:=join_below N (D1.below _)
   go_wp2
   go_ret
   exact⟨by rw[HV.out]<;>rfl,K1⟩
  ·have HV:Hid (handB o=seenB o.dv o.sl):=hand_is h0 h1 h2 h3
   rw[h3]at HO
   clear h0 h1 h2 h3
   by_cases h4:o.sl.length≤300
   ·have d4:decide ((300:Int)<(o.sl.length:Int))=false:=decide_eq_false (by omega)
    have HW:Hid (handB o=seenF o.dv 0 o.sl):=HV.out.trans (seen_short h4)
    clear h4 HV
    go_enter Tryz.func37,Tryz.ntmps37
    go_wp2_with fail
    refine(HF.out _).mono ?_
    rintro e w1 ⟨rfl,rfl⟩
    go_wp2_with fail
    refine(HG.out _).mono ?_
    rintro e w1 ⟨rfl,rfl⟩
    go_wp2_with fail
    refine(HO.out _ IN.off).mono ?_
    rintro e w1 ⟨rfl,D1⟩
    have LW:=D1.below (w.alloc (hnB x o 35)).heap.size
    have K1:=join_below N LW
    have m1:=kept LW (lt_of m) m
    have I1:=IN.seen.on LW
    have c8:w1.cell? ⟨w.heap.size,8,none⟩=some (.slice x.b o.sl.length x.d):=cell_at m1 8
    clear D1 LW m N IN HO HF HG
    go_wp2
    go_loopw [3] (fun i wr=>∃(k:Nat),k≤o.sl.length∧i= .int .i64 k∧Drawn w1 wr∧Hid (seenF o.dv k (o.sl.drop k)=seenF o.dv 0 o.sl)) (fun i _=>o.sl.length-(intOf i).toNat)
    case atStart=>exact⟨0,by omega,rfl,Drawn.refl _,rfl⟩
    case round=>
     obtain⟨k,hk,rfl,hD,HP⟩:=hrel
     have LD:=hD.below w1.heap.size
     have m2:=kept LD (lt_of m1) m1
     have r0:wr.cell? ⟨w.heap.size,0,none⟩=some (.int .i64 o.dv):=cell_at m2 0
     have r8:wr.cell? ⟨w.heap.size,8,none⟩=some (.slice x.b o.sl.length x.d):=cell_at m2 8
     have K2:=join_below K1 LD
     by_cases hkn:k<o.sl.length
     ·obtain⟨b,u,eb,hlt,hc0,hc1,hc2,hc3,hc4,hc5⟩:=(I1.on LD).at k hkn
      rw[eb]at r8
      have HS:Hid (_=_):=(seen_step (dv:=o.dv) hkn).symm.trans HP.out
      clear HP m2 LD
      generalize o.sl[k]=y at*
      generalize o.dv=dv at*
      by_cases h5:y.dv=dv
      ·have d5:(y.dv !=dv)=false:=by simp[h5]
       by_cases h6:y.no=(k:Int)+1
       ·have d6:(y.no !=(k:Int)+1)=false:=by simp[h6]
        have HN:Hid (seenF dv (k+1) (o.sl.drop (k+1))=seenF dv 0 o.sl):=seen_yes HS.out h5 h6
        clear h5 h6 HS
        go_wp2
        go_quiet (fail)
        go_wp2
        go_roundw
        case rel=>exact⟨k+1,by omega,by go_num,hD.more _,HN⟩
        case measure=>simp[intOf];omega
       ·have d6:(y.no !=(k:Int)+1)=true:=by simp[h6]
        have HN:Hid (handB o=false):=HW.out.trans (seen_no HS.out fun h=>h6 h.2)
        clear h5 h6 HS
        go_wp2
        go_quiet (fail)
        go_wp2
        go_ret
        exact⟨by rw[HN.out]<;>rfl,join_below K1 ((hD.more _).below _)⟩
      ·have d5:(y.dv !=dv)=true:=by simp[h5]
       have HN:Hid (handB o=false):=HW.out.trans (seen_no HS.out fun h=>h5 h.1)
       clear h5 HS
       go_wp2
       go_quiet (fail)
       go_wp2
       go_ret
       exact⟨by rw[HN.out]<;>rfl,join_below K1 ((hD.more _).below _)⟩
     ·obtain rfl:k=o.sl.length:=by omega
      have HN:Hid (handB o=true):=HW.out.trans (HP.out.symm.trans (seen_end o.dv _ o.sl))
      go_wp2
      go_ret
      exact⟨by rw[HN.out]<;>rfl,K2⟩
   ·have d4:decide ((300:Int)<(o.sl.length:Int))=true:=decide_eq_true (by omega)
    have HW:Hid (handB o=false):=HV.out.trans (seen_long h4)
    have k8:∀W:World,Drawn (w.alloc (hnB x o 35)) W→W.cell? ⟨w.heap.size,8,none⟩=some (.slice x.b o.sl.length x.d):=fun W D=>cell_at (kept (D.below _) (lt_of m) m) 8
    clear h4 HV
    go_enter Tryz.func37,Tryz.ntmps37
    go_wp2_with fail
    refine(HF.out _).mono ?_
    rintro e w1 ⟨rfl,rfl⟩
    go_wp2_with fail
    refine(HG.out _).mono ?_
    rintro e w1 ⟨rfl,rfl⟩
    go_wp2_with fail
    refine(HO.out _ IN.off).mono ?_
    rintro e w1 ⟨rfl,D1⟩
    have c8:=k8 _ D1
    have K1:=join_below N (D1.below _)
    go_wp2
    go_ret
    exact⟨by rw[HW.out]<;>rfl,K1⟩
 ·have d2:decide (o.ve<0)=true:=decide_eq_true (by omega)
  have HV:Hid (handB o=false):=hand_no2 h2
  rw[h0]at HF
  rw[h1]at HG
  clear h0 h1 h2 HO m I
  go_enter Tryz.func37,Tryz.ntmps37
  go_wp2_with fail
  refine(HF.out _).mono ?_
  rintro e w1 ⟨rfl,rfl⟩
  go_wp2_with fail
  refine(HG.out _).mono ?_
  rintro e w1 ⟨rfl,rfl⟩
  go_wp2
  go_ret
  exact⟨by rw[HV.out]<;>rfl,N⟩

end Hn
end Go.Proofs.YtdcpjicgehdmfaaGreatDoor

/- Controls that came in: how many there are, and what they hold. -/
namespace Go.Proofs.YtdcpjicgehdmfaaGreatDoor
namespace Hn
open Go.ChangeShapes Go.WideShapes Go.ChangeAt Go.RowKit
set_option linter.unusedSimpArgs false
set_option linter.unusedVariables false

theorem add_plain (b o i:Nat):Addr.add ⟨b,o,none⟩ i=⟨b,o+i,none⟩:=by simp[Addr.add]

abbrev WfI (x:Int):Prop:=(Lit.int .i64 x).wf=true

structure Wf (p:Ct):Prop where
 dv:WfI p.dv
 no:WfI p.no
 tk:WfI p.tk
 tr:WfI p.tr
 dy:WfI p.dy
 sa:WfI p.sa

def Wfs (ps:List Ct):Prop:=∀p∈ps,Wf p

theorem szControlS_yes (a:Option Addr) (n cap:Nat) (z:Int) (w:World) (hz:z≤1048576) (h:(n:Int)≤z):
 Calls Tryz.prog 14 #[.slice a n cap,.int .i64 z] w fun e w'=>e= .returned (.int .i64 (z-(n:Int)))∧w'=w:=by
 have hd:decide (z-(n:Int)<0)=false:=decide_eq_false (by omega)
 go_enter Tryz.func14,Tryz.ntmps14
 go_wp2
 go_ret
 exact⟨rfl,rfl⟩

theorem szControlS_no (a:Option Addr) (n cap:Nat) (z:Int) (w:World) (hz:z≤1048576) (h0:0≤z) (hn:n≤maxLen) (h:z<(n:Int)):
 Calls Tryz.prog 14 #[.slice a n cap,.int .i64 z] w fun e w'=>e= .returned (.int .i64 (-1))∧w'=w:=by
 unfold maxLen at hn
 have hd:decide (z-(n:Int)<0)=true:=decide_eq_true (by omega)
 go_enter Tryz.func14,Tryz.ntmps14
 go_wp2
 go_ret
 exact⟨rfl,rfl⟩

set_option maxRecDepth 100000 in
theorem control_cells {H:Type} {enc:TypeId×Value→H} {W:World} {base:Nat} {spare:Nat→Bool} {held:Bool} {fuel:Nat} {cs:List Value} {x:DataW H×List MemPlace} (h:DataW.trod enc Tryz.prog W base spare held fuel 79 cs=some x):
 ∃p:Ct,cs= [.int .i64 p.dv,.int .i64 p.no,.int .i64 p.tk,.int .i64 p.tr,.int .i64 p.dy,.int .i64 p.sa]∧Wf p:=by
 obtain⟨xs,n,-,-,hl,hxl,hf⟩:=DataW.trod_struct Tryz.underlying79 h
 have hl4:cs.length=6:=hl.trans (by kernel_rfl)
 have c1:Tryz.prog.cellsOf 3=1:=by kernel_rfl
 match xs,hxl,cs,hl4 with
 | [y0,y1,y2,y3,y4,y5],_,[v0,v1,v2,v3,v4,v5],_=>
   have h0:=hf 0 _ rfl
   have h1:=hf 1 _ rfl
   have h2:=hf 2 _ rfl
   have h3:=hf 3 _ rfl
   have h4:=hf 4 _ rfl
   have h5:=hf 5 _ rfl
   simp[c1]at h0 h1 h2 h3 h4 h5
   obtain⟨a0,e0,-,w0⟩:=DataW.trod_int Tryz.underlying3 h0
   obtain⟨a1,e1,-,w1⟩:=DataW.trod_int Tryz.underlying3 h1
   obtain⟨a2,e2,-,w2⟩:=DataW.trod_int Tryz.underlying3 h2
   obtain⟨a3,e3,-,w3⟩:=DataW.trod_int Tryz.underlying3 h3
   obtain⟨a4,e4,-,w4⟩:=DataW.trod_int Tryz.underlying3 h4
   obtain⟨a5,e5,-,w5⟩:=DataW.trod_int Tryz.underlying3 h5
   simp at e0 e1 e2 e3 e4 e5
   exact⟨⟨a0,a1,a2,a3,a4,a5⟩,by rw[e0,e1,e2,e3,e4,e5],⟨w0,w1,w2,w3,w4,w5⟩⟩

theorem controls_open {H:Type} {enc:TypeId×Value→H} {W:World} {base:Nat} {spare:Nat→Bool} {held:Bool} {fuel:Nat} {cs:List Value} {x:DataW H×List MemPlace} (h:DataW.trod enc Tryz.prog W base spare held fuel 25 cs=some x):
 ∃(a:Option Addr) (cap:Nat) (ps:List Ct),cs= [.slice a ps.length cap]∧ps.length≤maxLen∧Controls W a ps∧Wfs ps:=by
 rcases Go.Deep.open_slice Tryz.underlying25 h with⟨h0,-⟩|⟨a,len,cap,m,n,D,Pl,rfl,hb,hl,hm,hmm,-,hx⟩
 ·exact⟨none,0,[],h0,by simp,Or.inl rfl,by intro p hp;simp at hp⟩
 have hlm:len≤m:=by rw[hmm];split<;>omega
 have c4:Tryz.prog.cellsOf 79=6:=by kernel_rfl
 have each:∀i,i<len→∃p:Ct,(W.cell? (a.add (i*6))=some (.int .i64 p.dv)∧W.cell? (a.add (i*6+1))=some (.int .i64 p.no)∧W.cell? (a.add (i*6+2))=some (.int .i64 p.tk)∧W.cell? (a.add (i*6+3))=some (.int .i64 p.tr)∧W.cell? (a.add (i*6+4))=some (.int .i64 p.dy)∧W.cell? (a.add (i*6+5))=some (.int .i64 p.sa))∧Wf p:=by
  intro i hi
  obtain⟨cs',h1,h2⟩:=hx i (by omega)
  rw[c4]at h1
  obtain⟨-,hlen,hcell⟩:=World.cells?_some h1
  obtain⟨p,rfl,hwf⟩:=control_cells h2
  refine⟨p,⟨?_,?_,?_,?_,?_,?_⟩,hwf⟩
  ·have:=hcell 0 (by simp)
   rw[Go.Deep.add_add]at this
   simpa using this
  ·have:=hcell 1 (by simp)
   rw[Go.Deep.add_add]at this
   simpa using this
  ·have:=hcell 2 (by simp)
   rw[Go.Deep.add_add]at this
   simpa using this
  ·have:=hcell 3 (by simp)
   rw[Go.Deep.add_add]at this
   simpa using this
  ·have:=hcell 4 (by simp)
   rw[Go.Deep.add_add]at this
   simpa using this
  ·have:=hcell 5 (by simp)
   rw[Go.Deep.add_add]at this
   simpa using this
 haveI:Inhabited Ct:=⟨⟨0,0,0,0,0,0⟩⟩
 obtain⟨q,hq⟩:=Go.Deep.choose_lt each
 refine⟨some a,cap,(List.range len).map q,by simp,by simp;omega,?_,?_⟩
 rotate_left
 ·intro p hp
  simp at hp
  obtain⟨i,hi,rfl⟩:=hp
  exact(hq i hi).2
 by_cases h0:len=0
 ·subst h0;exact Or.inl rfl
 ·obtain⟨b,o,spot⟩:=a
  have hs:=World.cell?_spot (hq 0 (by omega)).1.1
  simp[Addr.add]at hs
  subst hs
  refine Or.inr ⟨b,o,rfl,?_,fun i hi=> ?_⟩
  ·have h1:=(hq 0 (by omega)).1.1
   apply Nat.lt_of_not_le
   intro hle
   unfold World.cell? at h1
   simp[Addr.add,Array.getElem?_eq_none hle]at h1
  ·simp at hi
   have:=(hq i hi).1
   simp[add_plain]at this
   simpa [Nat.add_assoc]using this

end Hn
end Go.Proofs.YtdcpjicgehdmfaaGreatDoor

/- Contracts of the laws' own helpers over controls that a function has been given or has made: marked, held against the marks. -/
namespace Go.Proofs.YtdcpjicgehdmfaaGreatDoor
namespace Hn
open Go.ChangeShapes Go.WideShapes Go.ChangeAt Go.RowKit
open Pk (new_below join_below cell_at heap_new frozen_at lt_of kept heap_old Drawn info_of Room)
set_option linter.unusedSimpArgs false
set_option linter.unusedVariables false

theorem Controls.band {lo hi:Nat} {w w1:World} {a:Option Addr} {ps:List Ct} (h:Controls w a ps) (L:Band lo hi w w1) (ha:∀b o,a=some ⟨b,o,none⟩→ps≠ []→b<lo∨hi≤b):Controls w1 a ps:=by
 rcases h with h|⟨b,o,rfl,hlt,hc⟩
 ·exact Or.inl h
 ·by_cases hz:ps= []
  ·exact Or.inl hz
  ·have hb:=L.block b (ha b o rfl hz)
   exact Or.inr ⟨b,o,rfl,by rw[L.size];exact hlt,fun i hi=>by rw[World.cell?_of_block (a:=⟨b,o+i*6,none⟩) hb,World.cell?_of_block (a:=⟨b,o+i*6+1,none⟩) hb,World.cell?_of_block (a:=⟨b,o+i*6+2,none⟩) hb,World.cell?_of_block (a:=⟨b,o+i*6+3,none⟩) hb,World.cell?_of_block (a:=⟨b,o+i*6+4,none⟩) hb,World.cell?_of_block (a:=⟨b,o+i*6+5,none⟩) hb];exact hc i hi⟩

def Marked (z:Int) (w:World) (g n:Nat):Prop:=∀i,i<n→w.cell? ⟨g,i*6,none⟩=some (.int .i64 (z+6*(i:Int)))∧w.cell? ⟨g,i*6+1,none⟩=some (.int .i64 (z+6*(i:Int)+1))∧w.cell? ⟨g,i*6+2,none⟩=some (.int .i64 (z+6*(i:Int)+2))∧w.cell? ⟨g,i*6+3,none⟩=some (.int .i64 (z+6*(i:Int)+3))∧w.cell? ⟨g,i*6+4,none⟩=some (.int .i64 (z+6*(i:Int)+4))∧w.cell? ⟨g,i*6+5,none⟩=some (.int .i64 (z+6*(i:Int)+5))

theorem Marked.on {w w1:World} {g n B:Nat} {z:Int} (h:Marked z w g n) (L:Below B w w1) (hg:g<B):Marked z w1 g n:=by
 intro i hi
 rw[L.cell (p:=⟨g,i*6,none⟩) hg,L.cell (p:=⟨g,i*6+1,none⟩) hg,L.cell (p:=⟨g,i*6+2,none⟩) hg,L.cell (p:=⟨g,i*6+3,none⟩) hg,L.cell (p:=⟨g,i*6+4,none⟩) hg,L.cell (p:=⟨g,i*6+5,none⟩) hg]
 exact h i hi

theorem Marked.step {w:World} {g n k:Nat} {z:Int} (h:Marked z w g k) (R:Room w g (n*6)) (hk:k<n):Marked z ((((((w.setCell ⟨g,k*6,none⟩ (.int .i64 (z+6*(k:Int)))).setCell ⟨g,k*6+1,none⟩ (.int .i64 (z+6*(k:Int)+1))).setCell ⟨g,k*6+2,none⟩ (.int .i64 (z+6*(k:Int)+2))).setCell ⟨g,k*6+3,none⟩ (.int .i64 (z+6*(k:Int)+3))).setCell ⟨g,k*6+4,none⟩ (.int .i64 (z+6*(k:Int)+4))).setCell ⟨g,k*6+5,none⟩ (.int .i64 (z+6*(k:Int)+5))) g (k+1):=by
 intro i hi
 by_cases e:i=k
 ·subst e
  obtain⟨⟨v0,e0⟩,-⟩:=R (i*6) (by omega)
  obtain⟨⟨v1,e1⟩,-⟩:=R (i*6+1) (by omega)
  obtain⟨⟨v2,e2⟩,-⟩:=R (i*6+2) (by omega)
  obtain⟨⟨v3,e3⟩,-⟩:=R (i*6+3) (by omega)
  obtain⟨⟨v4,e4⟩,-⟩:=R (i*6+4) (by omega)
  obtain⟨⟨v5,e5⟩,-⟩:=R (i*6+5) (by omega)
  rw[set_cell (set_cell (set_cell (set_cell (set_cell (set_cell e0))))),set_cell (set_cell (set_cell (set_cell (set_cell (set_cell e1))))),set_cell (set_cell (set_cell (set_cell (set_cell (set_cell e2))))),set_cell (set_cell (set_cell (set_cell (set_cell (set_cell e3))))),set_cell (set_cell (set_cell (set_cell (set_cell (set_cell e4))))),set_cell (set_cell (set_cell (set_cell (set_cell (set_cell e5)))))]
  simp
 ·obtain⟨e0,e1,e2,e3,e4,e5⟩:=h i (by omega)
  rw[set_cell (set_cell (set_cell (set_cell (set_cell (set_cell e0))))),set_cell (set_cell (set_cell (set_cell (set_cell (set_cell e1))))),set_cell (set_cell (set_cell (set_cell (set_cell (set_cell e2))))),set_cell (set_cell (set_cell (set_cell (set_cell (set_cell e3))))),set_cell (set_cell (set_cell (set_cell (set_cell (set_cell e4))))),set_cell (set_cell (set_cell (set_cell (set_cell (set_cell e5)))))]
  rw[if_neg (by omega),if_neg (by omega),if_neg (by omega),if_neg (by omega),if_neg (by omega),if_neg (by omega),if_neg (by omega),if_neg (by omega),if_neg (by omega),if_neg (by omega),if_neg (by omega),if_neg (by omega),if_neg (by omega),if_neg (by omega),if_neg (by omega),if_neg (by omega),if_neg (by omega),if_neg (by omega),if_neg (by omega),if_neg (by omega),if_neg (by omega),if_neg (by omega),if_neg (by omega),if_neg (by omega),if_neg (by omega),if_neg (by omega),if_neg (by omega),if_neg (by omega),if_neg (by omega),if_neg (by omega),if_neg (by omega),if_neg (by omega),if_neg (by omega),if_neg (by omega),if_neg (by omega),if_neg (by omega)]
  exact⟨rfl,rfl,rfl,rfl,rfl,rfl⟩

set_option maxRecDepth 100000 in
set_option maxHeartbeats 2000000 in
theorem markControlS_val (a:Option Addr) (g n cap:Nat) (z:Int) (w:World) (hn:n≤1048577) (hz0:0≤z) (hz1:z≤1152921504606846976) (h:n=0∨(a=some ⟨g,0,none⟩∧Room w g (n*6))):
 Calls Tryz.prog 26 #[.slice a n cap,.int .i64 z] w fun e w'=>e= .returned (.int .i64 (z+6*(n:Int)))∧Band g (g+1) w w'∧Marked z w' g n∧∀m,Room w g m→Room w' g m:=by
 have HR:Hid (0<n→a=some ⟨g,0,none⟩∧Room w g (n*6)):=fun h0=>h.resolve_left (by omega)
 clear h
 go_enter Tryz.func26,Tryz.ntmps26
 go_wp2
 go_loopw [1,5] (fun t i wr=>∃k:Nat,k≤n∧i= .int .i64 k∧t= .int .i64 (z+6*(k:Int))∧Band g (g+1) w wr∧Hid (∀m,Room w g m→Room wr g m)∧Hid (Marked z wr g k)∧Hid (0<n→a=some ⟨g,0,none⟩∧Room wr g (n*6))) (fun _ i _=>n-(intOf i).toNat)
 case atStart=>exact⟨0,by omega,rfl,by simp,Band.refl _ _ _,fun m h=>h,fun i hi=>by omega,HR⟩
 case round=>
  obtain⟨k,hk,rfl,rfl,L,RM,M,RR⟩:=hrel
  by_cases hkn:k<n
  ·obtain⟨rfl,R⟩:=RR.out (by omega)
   have HM:Hid (_):=M.out.step R hkn
   have HQ:Hid (_):=(((((R.set g (k*6) (.int .i64 (z+6*(k:Int)))).set g (k*6+1) (.int .i64 (z+6*(k:Int)+1))).set g (k*6+2) (.int .i64 (z+6*(k:Int)+2))).set g (k*6+3) (.int .i64 (z+6*(k:Int)+3))).set g (k*6+4) (.int .i64 (z+6*(k:Int)+4))).set g (k*6+5) (.int .i64 (z+6*(k:Int)+5))
   have HX:Hid (∀m,Room w g m→_):=fun m h=>((((((RM.out m h).set g (k*6) (.int .i64 (z+6*(k:Int)))).set g (k*6+1) (.int .i64 (z+6*(k:Int)+1))).set g (k*6+2) (.int .i64 (z+6*(k:Int)+2))).set g (k*6+3) (.int .i64 (z+6*(k:Int)+3))).set g (k*6+4) (.int .i64 (z+6*(k:Int)+4))).set g (k*6+5) (.int .i64 (z+6*(k:Int)+5))
   have L3:=(((((L.set (i:=k*6) (Nat.le_refl g) (by omega) (.int .i64 (z+6*(k:Int)))).set (i:=k*6+1) (Nat.le_refl g) (by omega) (.int .i64 (z+6*(k:Int)+1))).set (i:=k*6+2) (Nat.le_refl g) (by omega) (.int .i64 (z+6*(k:Int)+2))).set (i:=k*6+3) (Nat.le_refl g) (by omega) (.int .i64 (z+6*(k:Int)+3))).set (i:=k*6+4) (Nat.le_refl g) (by omega) (.int .i64 (z+6*(k:Int)+4))).set (i:=k*6+5) (Nat.le_refl g) (by omega) (.int .i64 (z+6*(k:Int)+5))
   obtain⟨⟨v0,f0⟩,z0⟩:=R (k*6) (by omega)
   obtain⟨⟨v1,f1⟩,z1⟩:=R (k*6+1) (by omega)
   obtain⟨⟨v2,f2⟩,z2⟩:=R (k*6+2) (by omega)
   obtain⟨⟨v3,f3⟩,z3⟩:=R (k*6+3) (by omega)
   obtain⟨⟨v4,f4⟩,z4⟩:=R (k*6+4) (by omega)
   obtain⟨⟨v5,f5⟩,z5⟩:=R (k*6+5) (by omega)
   have e2:z+6*(k:Int)+1+1=z+6*(k:Int)+2:=by omega
   have e3:z+6*(k:Int)+2+1=z+6*(k:Int)+3:=by omega
   have e4:z+6*(k:Int)+3+1=z+6*(k:Int)+4:=by omega
   have e5:z+6*(k:Int)+4+1=z+6*(k:Int)+5:=by omega
   have e6:z+6*(k:Int)+5+1=z+6*(k:Int)+6:=by omega
   clear R M RR HR
   go_wp2
   go_roundw
   case rel=>exact⟨k+1,by omega,by go_num,by go_num,L3,HX,HM,fun _=>⟨by simp,HQ.out⟩⟩
   case measure=>simp[intOf];omega
  ·obtain rfl:k=n:=by omega
   go_wp2
   go_ret
   exact⟨rfl,L,M.out,RM.out⟩

set_option maxRecDepth 100000 in
set_option maxHeartbeats 2000000 in
theorem heldControlS_val (a:Option Addr) (g n cap:Nat) (z:Int) (w:World) (hn:n≤1048577) (hz0:0≤z) (hz1:z≤1152921504606846976) (h:n=0∨a=some ⟨g,0,none⟩) (M:Marked z w g n):
 Calls Tryz.prog 28 #[.slice a n cap,.int .i64 z] w fun e w'=>e= .returned (.int .i64 (z+6*(n:Int)))∧w'=w:=by
 have HA:Hid (0<n→a=some ⟨g,0,none⟩):=fun h0=>h.resolve_left (by omega)
 have HM:Hid (_):=M
 clear h M
 go_enter Tryz.func28,Tryz.ntmps28
 go_wp2
 go_loop [1,5] (fun t i=>∃k:Nat,k≤n∧i= .int .i64 k∧t= .int .i64 (z+6*(k:Int))) (fun _ i=>n-(intOf i).toNat)
 case atStart=>exact⟨0,by omega,rfl,by simp⟩
 case round=>
  obtain⟨k,hk,rfl,rfl⟩:=hrel
  by_cases hkn:k<n
  ·obtain rfl:=HA.out (by omega)
   obtain⟨c0,c1,c2,c3,c4,c5⟩:=HM.out k hkn
   have e2:z+6*(k:Int)+1+1=z+6*(k:Int)+2:=by omega
   have e3:z+6*(k:Int)+2+1=z+6*(k:Int)+3:=by omega
   have e4:z+6*(k:Int)+3+1=z+6*(k:Int)+4:=by omega
   have e5:z+6*(k:Int)+4+1=z+6*(k:Int)+5:=by omega
   have e6:z+6*(k:Int)+5+1=z+6*(k:Int)+6:=by omega
   go_wp2
   go_round
   case rel=>exact⟨k+1,by omega,by go_num,by go_num⟩
   case measure=>simp[intOf];omega
  ·obtain rfl:k=n:=by omega
   go_wp2
   go_ret
   exact⟨rfl,rfl⟩

end Hn
end Go.Proofs.YtdcpjicgehdmfaaGreatDoor

/- Contracts of the laws' own helpers over devices: their size, a copy, two of them held against each other, marked and held against the marks. -/
namespace Go.Proofs.YtdcpjicgehdmfaaGreatDoor
namespace Hn
open Go.ChangeShapes Go.WideShapes Go.ChangeAt Go.RowKit Go.Joins
open Pk (new_below join_below cell_at heap_new frozen_at lt_of kept heap_old Drawn info_of Room)
set_option linter.unusedSimpArgs false
set_option linter.unusedVariables false

theorem named {P:Program} {f:FuncId} {args:Array Value} {w:World} {post:Ending→World→Prop} (h:∀W,W=w→Calls P f args W post):Calls P f args w post:=h w rfl

theorem h_set {w:World} {c i:Nat} {cs:Array Value} {t:TypeId} {f:Nat×Nat} (h:w.heap[c]? =some (.cells cs t f)) (u:Value):(w.setCell ⟨c,i,none⟩ u).heap[c]? =some (.cells (cs.setIfInBounds i u) t f):=by
 unfold World.setCell
 simp[Array.getElem?_modify,h]

theorem h_other {w:World} {c g i:Nat} {x:Obj} (h:w.heap[c]? =some x) (hne:c≠g) (u:Value):(w.setCell ⟨g,i,none⟩ u).heap[c]? =some x:=by
 rw[Below.heap_setCell w ⟨g,i,none⟩ u c hne]
 exact h

theorem two_blocks (w:World) (a b:Obj):((w.alloc a).alloc b).heap[w.heap.size]? =some a∧((w.alloc a).alloc b).heap[w.heap.size+1]? =some b∧((w.alloc a).alloc b).heap.size=w.heap.size+1+1:=by
 have e1:(w.alloc a).heap.size=w.heap.size+1:=Array.size_push ..
 refine⟨heap_old (heap_new w a) b,?_,?_⟩
 ·rw[←e1];exact heap_new (w.alloc a) b
 ·rw[←e1];exact Array.size_push ..

theorem three_blocks (w:World) (a b c:Obj):(((w.alloc a).alloc b).alloc c).heap[w.heap.size]? =some a∧(((w.alloc a).alloc b).alloc c).heap[w.heap.size+1]? =some b∧(((w.alloc a).alloc b).alloc c).heap[w.heap.size+1+1]? =some c:=by
 have e1:(w.alloc a).heap.size=w.heap.size+1:=Array.size_push ..
 have e2:((w.alloc a).alloc b).heap.size=w.heap.size+1+1:=by rw[←e1];exact Array.size_push ..
 refine⟨heap_old (heap_old (heap_new w a) b) c,?_,?_⟩
 ·rw[←e1];exact heap_old (heap_new (w.alloc a) b) c
 ·rw[←e2];exact heap_new ((w.alloc a).alloc b) c

theorem szHand_yes (x:Pl) (o:Hnd) (z:Int) (w:World) (hz:z≤1048576) (h:(o.ol.length:Int)+(o.sl.length:Int)≤z):
 Calls Tryz.prog 4 #[hnV x o,.int .i64 z] w fun e w'=>e= .returned (.int .i64 (z-(o.ol.length:Int)-(o.sl.length:Int)))∧Below w.heap.size w w':=by
 have hd:decide (z-(o.ol.length:Int)<0)=false:=decide_eq_false (by omega)
 have hd2:decide (z-(o.ol.length:Int)-(o.sl.length:Int)<0)=false:=decide_eq_false (by omega)
 have N:=new_below w (hnB x o 27)
 go_enter Tryz.func4,Tryz.ntmps4
 go_wp2_with fail
 refine(szIntS_yes x.a o.ol.length x.c z _ hz (by omega)).mono ?_
 rintro e w1 ⟨rfl,rfl⟩
 go_wp2_with fail
 refine(szControlS_yes x.b o.sl.length x.d _ _ (by omega) (by omega)).mono ?_
 rintro e w1 ⟨rfl,rfl⟩
 go_wp2
 go_ret
 exact⟨rfl,N⟩

theorem szHand_no (x:Pl) (o:Hnd) (z:Int) (w:World) (hz:z≤1048576) (h0:0≤z) (hm:o.ol.length≤maxLen) (hm2:o.sl.length≤maxLen) (h:¬(o.ol.length:Int)+(o.sl.length:Int)≤z):
 Calls Tryz.prog 4 #[hnV x o,.int .i64 z] w fun e w'=>e= .returned (.int .i64 (-1))∧Below w.heap.size w w':=by
 have N:=new_below w (hnB x o 27)
 have HM:Hid (o.ol.length≤maxLen):=hm
 have HM2:Hid (o.sl.length≤maxLen):=hm2
 clear hm hm2
 by_cases h1:(o.ol.length:Int)≤z
 ·have hd:decide (z-(o.ol.length:Int)<0)=false:=decide_eq_false (by omega)
  go_enter Tryz.func4,Tryz.ntmps4
  go_wp2_with fail
  refine(szIntS_yes x.a o.ol.length x.c z _ hz h1).mono ?_
  rintro e w1 ⟨rfl,rfl⟩
  go_wp2_with fail
  refine(szControlS_no x.b o.sl.length x.d _ _ (by omega) (by omega) HM2.out (by omega)).mono ?_
  rintro e w1 ⟨rfl,rfl⟩
  go_wp2
  go_ret
  exact⟨rfl,N⟩
 ·go_enter Tryz.func4,Tryz.ntmps4
  go_wp2_with fail
  refine(szIntS_no x.a o.ol.length x.c z _ hz h0 HM.out (by omega)).mono ?_
  rintro e w1 ⟨rfl,rfl⟩
  go_wp2
  go_ret
  exact⟨rfl,N⟩

theorem toParams_val (p q g:Int) (w:World):
 Calls Tryz.prog 17 #[.agg #[.int .i64 p,.int .i64 q,.int .i64 g]] w fun e w'=>e= .returned (.agg #[.int .i64 p,.int .i64 q,.int .i64 g])∧Below w.heap.size w w':=by
 go_enter Tryz.func17,Tryz.ntmps17
 go_wp2
 refine bodyPost_ret (v:= .agg #[.int .i64 p,.int .i64 q,.int .i64 g]) (by simp[results,Tryz.results17,go_sem]) rfl ?_
 refine⟨rfl,?_⟩
 first
  |exact(((new_below w _).alloc (by simp) _).alloc (by simp;omega) _)
  |(repeat' (first|apply Below.setCell|apply Below.alloc|exact Below.refl _ _))<;>simp

theorem eqParams_same (p q g:Int) (w:World):
 Calls Tryz.prog 22 #[.agg #[.int .i64 p,.int .i64 q,.int .i64 g],.agg #[.int .i64 p,.int .i64 q,.int .i64 g]] w fun e w'=>e= .returned (.bool true)∧Below w.heap.size w w':=by
 go_enter Tryz.func22,Tryz.ntmps22
 go_wp2
 go_ret
 exact⟨rfl,join_below (new_below _ _) (new_below _ _)⟩

set_option maxRecDepth 100000 in
set_option maxHeartbeats 4000000 in
theorem eqHand_same (x y:Pl) (o:Hnd) (w:World) (hz:o.ol.length≤1048576) (hz2:o.sl.length≤1048576) (I:In w x o) (J:In w y o):
 Calls Tryz.prog 10 #[hnV x o,hnV y o] w fun e w'=>e= .returned (.bool true)∧Below w.heap.size w w':=by
 have HZ:Hid (o.ol.length≤1048576∧o.sl.length≤1048576):=⟨hz,hz2⟩
 have N:=join_below (new_below w (hnB x o 35)) (new_below _ (hnB y o 35))
 have m:=heap_old (heap_new w (hnB x o 35)) (hnB y o 35)
 have n:=heap_new (w.alloc (hnB x o 35)) (hnB y o 35)
 have e1:(w.alloc (hnB x o 35)).heap.size=w.heap.size+1:=Array.size_push ..
 rw[e1]at n
 clear hz hz2 e1
 go_enter Tryz.func10,Tryz.ntmps10
 go_wp2_with fail
 refine named fun W hW=> ?_
 rw[←hW]at N m n
 clear hW
 refine(eqParams_same o.p o.q o.g _).mono ?_
 rintro e v0 ⟨rfl,L0⟩
 have m0:=kept L0 (lt_of m) m
 have n0:=kept L0 (lt_of n) n
 have N0:=join_below N L0
 clear m n N L0
 have c4:v0.cell? ⟨w.heap.size,4,none⟩=some (.int .i64 o.op):=cell_at m0 4
 have c5:v0.cell? ⟨w.heap.size,5,none⟩=some (.int .i64 o.is):=cell_at m0 5
 have c6:v0.cell? ⟨w.heap.size,6,none⟩=some (.int .i64 o.ve):=cell_at m0 6
 have c7:v0.cell? ⟨w.heap.size,7,none⟩=some (.slice x.a o.ol.length x.c):=cell_at m0 7
 have d4:v0.cell? ⟨w.heap.size+1,4,none⟩=some (.int .i64 o.op):=cell_at n0 4
 have d5:v0.cell? ⟨w.heap.size+1,5,none⟩=some (.int .i64 o.is):=cell_at n0 5
 have d6:v0.cell? ⟨w.heap.size+1,6,none⟩=some (.int .i64 o.ve):=cell_at n0 6
 have d7:v0.cell? ⟨w.heap.size+1,7,none⟩=some (.slice y.a o.ol.length y.c):=cell_at n0 7
 go_wp2_with fail
 refine(eqIntS_same x.a y.a o.ol x.c y.c _ HZ.out.1 (I.off.on N0) (J.off.on N0)).mono ?_
 rintro e v1 ⟨rfl,D1⟩
 have L1:=D1.below v0.heap.size
 have m1:=kept L1 (lt_of m0) m0
 have n1:=kept L1 (lt_of n0) n0
 have N1:=join_below N0 L1
 clear m0 n0 N0 L1 c4 c5 c6 c7 d4 d5 d6 d7 D1
 have c8:v1.cell? ⟨w.heap.size,8,none⟩=some (.slice x.b o.sl.length x.d):=cell_at m1 8
 have d8:v1.cell? ⟨w.heap.size+1,8,none⟩=some (.slice y.b o.sl.length y.d):=cell_at n1 8
 go_wp2_with fail
 refine(eqControlS_same x.b y.b o.sl x.d y.d _ HZ.out.2 (I.seen.on N1) (J.seen.on N1)).mono ?_
 rintro e v2 ⟨rfl,L2⟩
 have N2:=join_below N1 L2
 go_wp2
 go_ret
 exact⟨rfl,N2⟩

structure Mine (lo:Nat) (w:World) (x:Pl) (o:Hnd) (g1 g2:Nat):Prop where
 ne:g1≠g2
 lo1:lo≤g1
 lo2:lo≤g2
 off:o.ol.length=0∨(x.a=some ⟨g1,0,none⟩∧g1<w.heap.size∧Room w g1 o.ol.length)
 seen:o.sl.length=0∨(x.b=some ⟨g2,0,none⟩∧g2<w.heap.size∧Room w g2 (o.sl.length*6))

theorem Mine.on {lo:Nat} {w w1:World} {x:Pl} {o:Hnd} {g1 g2:Nat} (h:Mine lo w x o g1 g2) (L:Below w.heap.size w w1):Mine lo w1 x o g1 g2:=
 ⟨h.ne,h.lo1,h.lo2,h.off.imp_right fun⟨h1,h2,h3⟩=>⟨h1,Nat.lt_of_lt_of_le h2 L.size,h3.on L h2⟩,h.seen.imp_right fun⟨h1,h2,h3⟩=>⟨h1,Nat.lt_of_lt_of_le h2 L.size,h3.on L h2⟩⟩

structure Brd (lo hi:Nat) (w w':World):Prop where
 os:w'.os=w.os
 tape:w'.tape=w.tape
 output:w'.output=w.output
 size:w.heap.size≤w'.heap.size
 block:∀b,b<w.heap.size→b<lo∨hi≤b→w'.heap[b]? =w.heap[b]?

theorem Brd.of {lo hi:Nat} {w w':World} (h:Below w.heap.size w w'):Brd lo hi w w':=⟨h.os,h.tape,h.output,h.size,fun b hb _=>h.block b hb⟩

theorem Brd.band {lo hi lo' hi':Nat} {w w':World} (h:Band lo' hi' w w') (h1:lo≤lo') (h2:hi'≤hi):Brd lo hi w w':=⟨h.os,h.tape,h.output,Nat.le_of_eq h.size.symm,fun b _ hb=>h.block b (by omega)⟩

theorem Brd.trans {lo hi:Nat} {a b c:World} (h:Brd lo hi a b) (k:Brd lo hi b c):Brd lo hi a c:=
 ⟨k.os.trans h.os,k.tape.trans h.tape,k.output.trans h.output,Nat.le_trans h.size k.size,fun i hi h'=>(k.block i (Nat.lt_of_lt_of_le hi h.size) h').trans (h.block i hi h')⟩

theorem Brd.below {lo hi B:Nat} {a w w':World} (h:Brd lo hi w w') (L:Below B a w) (hB:B≤lo) (hs:B≤a.heap.size):Below B a w':=
 ⟨h.os.trans L.os,h.tape.trans L.tape,h.output.trans L.output,Nat.le_trans L.size h.size,fun k hk=>(h.block k (Nat.lt_of_lt_of_le (Nat.lt_of_lt_of_le hk hs) L.size) (Or.inl (by omega))).trans (L.block k hk)⟩

def Far (lo hi:Nat) (x:Pl) (o:Hnd):Prop:=(∀b u,x.a=some ⟨b,u,none⟩→o.ol≠ []→b<lo∨hi≤b)∧∀b u,x.b=some ⟨b,u,none⟩→o.sl≠ []→b<lo∨hi≤b

theorem Far.of {lo hi:Nat} {w:World} {x:Pl} {o:Hnd} (h:In w x o) (hl:w.heap.size≤lo):Far lo hi x o:=by
 refine⟨fun b u e hne=> ?_,fun b u e hne=> ?_⟩
 ·rcases h.off with h0|⟨b',o',e',hb,-⟩
  ·exact absurd h0 hne
  ·rw[e]at e'
   simp only[Option.some.injEq,Addr.mk.injEq]at e'
   omega
 ·rcases h.seen with h0|⟨b',o',e',hb,-⟩
  ·exact absurd h0 hne
  ·rw[e]at e'
   simp only[Option.some.injEq,Addr.mk.injEq]at e'
   omega

theorem Far.mine {lo hi:Nat} {w:World} {x:Pl} {o:Hnd} {g1 g2:Nat} (h:Mine hi w x o g1 g2):Far lo hi x o:=by
 refine⟨fun b u e hne=> ?_,fun b u e hne=> ?_⟩
 ·rcases h.off with h0|⟨h1,-,-⟩
  ·exact absurd (List.eq_nil_of_length_eq_zero h0) hne
  ·rw[e]at h1
   simp only[Option.some.injEq,Addr.mk.injEq]at h1
   have:=h.lo1
   omega
 ·rcases h.seen with h0|⟨h1,-,-⟩
  ·exact absurd (List.eq_nil_of_length_eq_zero h0) hne
  ·rw[e]at h1
   simp only[Option.some.injEq,Addr.mk.injEq]at h1
   have:=h.lo2
   omega

theorem Ints.brd {lo hi:Nat} {w w1:World} {a:Option Addr} {zs:List Int} (h:Ints w a zs) (L:Brd lo hi w w1) (ha:∀b o,a=some ⟨b,o,none⟩→zs≠ []→b<lo∨hi≤b):Ints w1 a zs:=by
 rcases h with h|⟨b,o,rfl,hlt,hc⟩
 ·exact Or.inl h
 ·by_cases hz:zs= []
  ·exact Or.inl hz
  ·exact Or.inr ⟨b,o,rfl,Nat.lt_of_lt_of_le hlt L.size,fun i hi=>by rw[World.cell?_of_block (a:=⟨b,o+i,none⟩) (L.block b hlt (ha b o rfl hz))];exact hc i hi⟩

theorem Controls.brd {lo hi:Nat} {w w1:World} {a:Option Addr} {ps:List Ct} (h:Controls w a ps) (L:Brd lo hi w w1) (ha:∀b o,a=some ⟨b,o,none⟩→ps≠ []→b<lo∨hi≤b):Controls w1 a ps:=by
 rcases h with h|⟨b,o,rfl,hlt,hc⟩
 ·exact Or.inl h
 ·by_cases hz:ps= []
  ·exact Or.inl hz
  ·have hb:=L.block b hlt (ha b o rfl hz)
   exact Or.inr ⟨b,o,rfl,Nat.lt_of_lt_of_le hlt L.size,fun i hi=>by rw[World.cell?_of_block (a:=⟨b,o+i*6,none⟩) hb,World.cell?_of_block (a:=⟨b,o+i*6+1,none⟩) hb,World.cell?_of_block (a:=⟨b,o+i*6+2,none⟩) hb,World.cell?_of_block (a:=⟨b,o+i*6+3,none⟩) hb,World.cell?_of_block (a:=⟨b,o+i*6+4,none⟩) hb,World.cell?_of_block (a:=⟨b,o+i*6+5,none⟩) hb];exact hc i hi⟩

theorem In.brd {lo hi:Nat} {w w1:World} {x:Pl} {o:Hnd} (h:In w x o) (L:Brd lo hi w w1) (F:Far lo hi x o):In w1 x o:=⟨h.off.brd L F.1,h.seen.brd L F.2⟩

theorem Room.brd {lo hi:Nat} {w w1:World} {g m:Nat} (h:Room w g m) (L:Brd lo hi w w1) (h0:g<w.heap.size) (hg:g<lo∨hi≤g):Room w1 g m:=by
 intro j hj
 rw[World.cell?_of_block (a:=⟨g,j,none⟩) (L.block g h0 hg),World.frozen?_of_block (a:=⟨g,j,none⟩) (L.block g h0 hg)]
 exact h j hj

theorem Mine.brd {lo hi lo':Nat} {w w1:World} {x:Pl} {o:Hnd} {g1 g2:Nat} (h:Mine lo' w x o g1 g2) (L:Brd lo hi w w1) (hh:hi≤lo'):Mine lo' w1 x o g1 g2:=
 ⟨h.ne,h.lo1,h.lo2,h.off.imp_right fun⟨h1,h2,h3⟩=>⟨h1,Nat.lt_of_lt_of_le h2 L.size,Room.brd h3 L h2 (Or.inr (Nat.le_trans hh h.lo1))⟩,h.seen.imp_right fun⟨h1,h2,h3⟩=>⟨h1,Nat.lt_of_lt_of_le h2 L.size,Room.brd h3 L h2 (Or.inr (Nat.le_trans hh h.lo2))⟩⟩

structure Mks (w:World) (o:Hnd) (g1 g2:Nat):Prop where
 off:Mkd 1 w g1 o.ol.length
 seen:Marked (1+(o.ol.length:Int)) w g2 o.sl.length
 lt1:o.ol.length=0∨g1<w.heap.size
 lt2:o.sl.length=0∨g2<w.heap.size

theorem Mks.on {w w1:World} {o:Hnd} {g1 g2:Nat} (h:Mks w o g1 g2) (L:Below w.heap.size w w1):Mks w1 o g1 g2:=by
 refine⟨?_,?_,h.lt1.imp_right fun k=>Nat.lt_of_lt_of_le k L.size,h.lt2.imp_right fun k=>Nat.lt_of_lt_of_le k L.size⟩
 ·rcases h.lt1 with h0|h0
  ·intro i hi;omega
  ·exact h.off.on L h0
 ·rcases h.lt2 with h0|h0
  ·intro i hi;omega
  ·exact h.seen.on L h0

theorem Brd.one {lo hi g:Nat} {w w':World} (h:Band g (g+1) w w') (hc:w.heap.size≤g∨(lo≤g∧g<hi)):Brd lo hi w w':=⟨h.os,h.tape,h.output,Nat.le_of_eq h.size.symm,fun b h0 hb=>h.block b (by omega)⟩

theorem Mkd.band {w w1:World} {g n lo hi:Nat} {z:Int} (h:Mkd z w g n) (L:Band lo hi w w1) (hg:g<lo∨hi≤g):Mkd z w1 g n:=by
 intro i hi'
 rw[World.cell?_of_block (a:=⟨g,i,none⟩) (L.block g hg)]
 exact h i hi'

set_option maxHeartbeats 2000000 in
theorem markHand_val (x:Pl) (o:Hnd) (g1 g2 lo hi:Nat) (w:World) (hz:o.ol.length≤1048576) (hz2:o.sl.length≤1048577) (M:Mine lo w x o g1 g2) (h1:o.ol.length=0∨g1<hi) (h2:o.sl.length=0∨g2<hi):
 Calls Tryz.prog 11 #[hnV x o,.int .i64 1] w fun e w'=>e= .returned (.int .i64 (1+(o.ol.length:Int)+6*(o.sl.length:Int)))∧Brd lo hi w w'∧Mks w' o g1 g2:=by
 have N:=new_below w (hnB x o 35)
 have m:=heap_new w (hnB x o 35)
 have MN:=M.on N
 have hNs:=N.size
 obtain⟨k1,hk1,hk1b⟩:∃k1,(o.ol.length=0∨(x.a=some ⟨k1,0,none⟩∧Room (w.alloc (hnB x o 35)) k1 o.ol.length))∧((o.ol.length=0∧k1=(w.alloc (hnB x o 35)).heap.size+1)∨(k1=g1∧lo≤k1∧k1<hi∧k1<w.heap.size)):=by
  rcases Nat.eq_zero_or_pos o.ol.length with h0|h0
  ·exact⟨_,Or.inl h0,Or.inl ⟨h0,rfl⟩⟩
  ·obtain⟨h3,h4,h5⟩:=MN.off.resolve_left (by omega)
   exact⟨g1,Or.inr ⟨h3,h5⟩,Or.inr ⟨rfl,M.lo1,h1.resolve_left (by omega),(M.off.resolve_left (by omega)).2.1⟩⟩
 obtain⟨k2,hk2,hk2b⟩:∃k2,(o.sl.length=0∨(x.b=some ⟨k2,0,none⟩∧Room (w.alloc (hnB x o 35)) k2 (o.sl.length*6)))∧((o.sl.length=0∧k2=(w.alloc (hnB x o 35)).heap.size+2)∨(k2=g2∧lo≤k2∧k2<hi∧k2<w.heap.size)):=by
  rcases Nat.eq_zero_or_pos o.sl.length with h0|h0
  ·exact⟨_,Or.inl h0,Or.inl ⟨h0,rfl⟩⟩
  ·obtain⟨h3,h4,h5⟩:=MN.seen.resolve_left (by omega)
   exact⟨g2,Or.inr ⟨h3,h5⟩,Or.inr ⟨rfl,M.lo2,h2.resolve_left (by omega),(M.seen.resolve_left (by omega)).2.1⟩⟩
 have hne:k1≠k2:=by
  have:=M.ne
  omega
 have HK1:Hid ((o.ol.length=0∧k1=(w.alloc (hnB x o 35)).heap.size+1)∨(k1=g1∧lo≤k1∧k1<hi∧k1<w.heap.size)):=hk1b
 have HK2:Hid ((o.sl.length=0∧k2=(w.alloc (hnB x o 35)).heap.size+2)∨(k2=g2∧lo≤k2∧k2<hi∧k2<w.heap.size)):=hk2b
 have HK:Hid (k1≠k2∧(w.alloc (hnB x o 35)).heap.size=w.heap.size+1):=⟨hne,Array.size_push ..⟩
 have HR2:Hid (o.sl.length=0∨(x.b=some ⟨k2,0,none⟩∧Room (w.alloc (hnB x o 35)) k2 (o.sl.length*6))):=hk2
 clear h1 h2 M MN hNs hk1b hk2b hne hk2
 go_enter Tryz.func11,Tryz.ntmps11
 go_wp2_with fail
 refine named fun W hW=> ?_
 rw[←hW]at N m hk1 HK1 HK2 HK HR2
 clear hW
 refine(markIntS_val x.a k1 o.ol.length x.c 1 _ hz (by omega) (by omega) hk1).mono ?_
 rintro e w1 ⟨rfl,B1,K1,-⟩
 have m1:w1.cell? ⟨w.heap.size,8,none⟩=some (.slice x.b o.sl.length x.d):=by
  rw[World.cell?_of_block (a:=⟨w.heap.size,8,none⟩) (B1.block w.heap.size (by have:=HK1.out;have:=HK.out;omega))]
  exact cell_at m 8
 have R2:o.sl.length=0∨(x.b=some ⟨k2,0,none⟩∧Room w1 k2 (o.sl.length*6)):=HR2.out.imp_right fun h=>⟨h.1,Room.band h.2 B1 (by have:=HK.out.1;omega)⟩
 have KM:Hid (Mkd 1 w1 k1 o.ol.length):=K1
 clear HR2 hk1 m K1
 go_wp2_with fail
 refine(markControlS_val x.b k2 o.sl.length x.d _ _ hz2 (by omega) (by omega) R2).mono ?_
 rintro e w2 ⟨rfl,B2,K2,-⟩
 have D:Brd lo hi w w2:=((Brd.of N).trans (Brd.one B1 (by have:=HK1.out;omega))).trans (Brd.one B2 (by have:=HK2.out;have:=B1.size;omega))
 have KA:Mks w2 o g1 g2:=by
  have hs:w2.heap.size=W.heap.size:=B2.size.trans B1.size
  refine⟨?_,?_,?_,?_⟩
  ·rcases HK1.out with⟨h,-⟩|⟨h,-⟩
   ·intro i hi;omega
   ·rw[←h]
    exact KM.out.band B2 (by have:=HK.out.1;omega)
  ·rcases HK2.out with⟨h,-⟩|⟨h,-⟩
   ·intro i hi;omega
   ·rw[←h]
    exact K2
  ·rcases HK1.out with⟨h,-⟩|⟨h,-,-,h2⟩
   ·exact Or.inl h
   ·exact Or.inr (by have:=HK.out.2;omega)
  ·rcases HK2.out with⟨h,-⟩|⟨h,-,-,h2⟩
   ·exact Or.inl h
   ·exact Or.inr (by have:=HK.out.2;omega)
 clear KM B1 B2 K2 R2
 go_wp2
 go_ret
 exact⟨rfl,D,KA⟩

set_option maxHeartbeats 2000000 in
theorem heldHand_val (x:Pl) (o:Hnd) (g1 g2:Nat) (w:World) (hz:o.ol.length≤1048576) (hz2:o.sl.length≤1048577) (h1:o.ol.length=0∨x.a=some ⟨g1,0,none⟩) (h2:o.sl.length=0∨x.b=some ⟨g2,0,none⟩) (K:Mks w o g1 g2):
 Calls Tryz.prog 12 #[hnV x o,.int .i64 1] w fun e w'=>e= .returned (.int .i64 (1+(o.ol.length:Int)+6*(o.sl.length:Int)))∧Below w.heap.size w w':=by
 have N:=new_below w (hnB x o 35)
 have KN:=K.on N
 have HH:Hid (o.sl.length=0∨x.b=some ⟨g2,0,none⟩):=h2
 have hd:decide (1+(o.ol.length:Int)<0)=false:=decide_eq_false (by omega)
 have hd2:decide (1+(o.ol.length:Int)+6*(o.sl.length:Int)<0)=false:=decide_eq_false (by omega)
 clear h2 K
 go_enter Tryz.func12,Tryz.ntmps12
 go_wp2_with fail
 refine(heldIntS_val x.a g1 o.ol.length x.c 1 _ hz (by omega) (by omega) h1 KN.off).mono ?_
 rintro e w1 ⟨rfl,rfl⟩
 go_wp2_with fail
 refine(heldControlS_val x.b g2 o.sl.length x.d _ _ hz2 (by omega) (by omega) HH.out KN.seen).mono ?_
 rintro e w1 ⟨rfl,rfl⟩
 go_wp2
 go_ret
 exact⟨rfl,N⟩

end Hn
end Go.Proofs.YtdcpjicgehdmfaaGreatDoor

/- What a check asks: legs of a train on a day, numbers that are off, controls that were taken. -/
namespace Go.Proofs.YtdcpjicgehdmfaaGreatDoor
namespace Hn
open Go.ChangeShapes Go.WideShapes Go.ChangeAt Go.RowKit Go.Joins
open Pk (new_below join_below cell_at heap_new frozen_at lt_of kept heap_old Drawn info_of Room)
open Tk (Lg Legs tkV tkB)
set_option linter.unusedSimpArgs false
set_option linter.unusedVariables false

theorem any_at {α:Type} (P:α→Bool) (l:List α) (k:Nat) (hk:k<l.length) (h:P l[k]=true):l.any P=true:=List.any_eq_true.2 ⟨l[k],List.getElem_mem hk,h⟩

theorem any_none {α:Type} (P:α→Bool) (l:List α) (h:∀i (hi:i<l.length),P l[i]=false):l.any P=false:=by
 rw[List.any_eq_false]
 intro x hx
 obtain⟨i,hi,rfl⟩:=List.mem_iff_getElem.1 hx
 rw[h i hi]
 simp

theorem none_next {α:Type} {P:α→Bool} {l:List α} {k:Nat} (H:∀i (hi:i<l.length),i<k→P l[i]=false) (hk:k<l.length) (h:P l[k]=false):∀i (hi:i<l.length),i<k+1→P l[i]=false:=by
 intro i hi hik
 by_cases e:i=k
 ·subst e;exact h
 ·exact H i hi (by omega)

def onP (tr dy:Int) (p:Lg):Bool:=decide (p.tr=tr)&&decide (p.dy=dy)
def tkP (id tr dy:Int) (c:Ct):Bool:=decide (c.tk=id)&&(decide (c.tr=tr)&&(decide (c.dy=dy)&&decide (c.sa=0)))
def isP (id:Int) (z:Int):Bool:=decide (z=id)

set_option maxHeartbeats 1000000 in
theorem legPred_val (p:Lg) (tr dy:Int) (B1 B2:Nat) (w:World) (h1:B1<w.heap.size) (h2:B2<w.heap.size) (c1:w.cell? ⟨B1,0,none⟩=some (.int .i64 tr)) (c2:w.cell? ⟨B2,0,none⟩=some (.int .i64 dy)):
 Calls Tryz.prog 120 #[Tk.lgV p,.pointer (some ⟨B1,0,none⟩),.pointer (some ⟨B2,0,none⟩)] w fun e w'=>e= .returned (.bool (onP tr dy p))∧Below w.heap.size w w':=by
 have N:=new_below w (.cells #[.int .i64 p.tr,.int .i64 p.dy,.int .i64 p.fr,.int .i64 p.to,.int .i64 p.co,.int .i64 p.se] 126)
 have c1n:=(N.cell (p:=⟨B1,0,none⟩) h1).trans c1
 have c2n:=(N.cell (p:=⟨B2,0,none⟩) h2).trans c2
 by_cases e1:p.tr=tr
 ·have b1:(p.tr==tr)=true:=beq_iff_eq.2 e1
  by_cases e2:p.dy=dy
  ·have b2:(p.dy==dy)=true:=beq_iff_eq.2 e2
   have HV:Hid (onP tr dy p=true):=by show _=_;simp[onP,e1,e2]
   clear e1 e2
   go_enter Tryz.func120,Tryz.ntmps120
   go_wp2
   go_ret
   exact⟨by rw[HV.out]<;>rfl,N⟩
  ·have b2:(p.dy==dy)=false:=beq_eq_false_iff_ne.2 e2
   have HV:Hid (onP tr dy p=false):=by show _=_;simp[onP,e2]
   clear e1 e2
   go_enter Tryz.func120,Tryz.ntmps120
   go_wp2
   go_ret
   exact⟨by rw[HV.out]<;>rfl,N⟩
 ·have b1:(p.tr==tr)=false:=beq_eq_false_iff_ne.2 e1
  have HV:Hid (onP tr dy p=false):=by show _=_;simp[onP,e1]
  clear e1
  go_enter Tryz.func120,Tryz.ntmps120
  go_wp2
  go_ret
  exact⟨by rw[HV.out]<;>rfl,N⟩

set_option maxHeartbeats 2000000 in
theorem legIdx_val (B1 B2:Nat) (tr dy:Int) (a:Option Addr) (l:List Lg) (cap:Nat) (w:World) (hl:l.length≤1048576) (h1:B1<w.heap.size) (h2:B2<w.heap.size) (c1:w.cell? ⟨B1,0,none⟩=some (.int .i64 tr)) (c2:w.cell? ⟨B2,0,none⟩=some (.int .i64 dy)) (I:Legs w a l):
 Calls Tryz.prog 147 #[.slice a l.length cap,.func (.func 120) #[] #[.pointer (some ⟨B1,0,none⟩),.pointer (some ⟨B2,0,none⟩)]] w fun e w'=>∃z:Int,e= .returned (.int .i64 z)∧decide (0≤z)=l.any (onP tr dy)∧Below w.heap.size w w':=by
 go_enter Tryz.func147,Tryz.ntmps147
 go_wp2
 go_loopw [8] (fun i wr=>∃k:Nat,k≤l.length∧i= .int .i64 k∧Below w.heap.size w wr∧Hid (∀i (hi:i<l.length),i<k→onP tr dy l[i]=false)) (fun i _=>l.length-(intOf i).toNat)
 case atStart=>exact⟨0,by omega,rfl,Below.refl _ _,fun i _ h=>by omega⟩
 case round=>
  obtain⟨k,hk,rfl,L,H⟩:=hrel
  by_cases hkn:k<l.length
  ·obtain⟨b,o,rfl,hlt,q0,q1,q2,q3,q4,q5⟩:=(I.on L).at k hkn
   have hB1:B1<wr.heap.size:=Nat.lt_of_lt_of_le h1 L.size
   have hB2:B2<wr.heap.size:=Nat.lt_of_lt_of_le h2 L.size
   have k1:wr.cell? ⟨B1,0,none⟩=some (.int .i64 tr):=(L.cell (p:=⟨B1,0,none⟩) h1).trans c1
   have k2:wr.cell? ⟨B2,0,none⟩=some (.int .i64 dy):=(L.cell (p:=⟨B2,0,none⟩) h2).trans c2
   have HP:Hid (∀W:World,_):=fun W=>legPred_val l[k] tr dy B1 B2 W
   cases hv:onP tr dy l[k]
   ·rw[hv]at HP
    have HN:Hid (∀i (hi:i<l.length),i<k+1→onP tr dy l[i]=false):=none_next H.out hkn hv
    clear hv H
    generalize l[k]=p at*
    go_wp2_with fail
    refine(HP.out _ hB1 hB2 k1 k2).mono ?_
    rintro e w1 ⟨rfl,L1⟩
    have L2:=join_below L L1
    go_wp2
    go_roundw
    case rel=>exact⟨k+1,by omega,by go_num,L2,HN⟩
    case measure=>simp[intOf];omega
   ·rw[hv]at HP
    have HN:Hid (l.any (onP tr dy)=true):=any_at _ l k hkn hv
    clear hv H
    generalize l[k]=p at*
    go_wp2_with fail
    refine(HP.out _ hB1 hB2 k1 k2).mono ?_
    rintro e w1 ⟨rfl,L1⟩
    have L2:=join_below L L1
    go_wp2
    go_ret
    exact⟨_,rfl,by rw[HN.out];exact decide_eq_true (by omega),L2⟩
  ·have HN:Hid (l.any (onP tr dy)=false):=any_none _ l fun i hi=>H.out i hi (by omega)
   clear H
   go_wp2
   go_ret
   exact⟨_,rfl,by rw[HN.out];rfl,L⟩

theorem legCon_val (B1 B2:Nat) (tr dy:Int) (a:Option Addr) (l:List Lg) (cap:Nat) (w:World) (hl:l.length≤1048576) (h1:B1<w.heap.size) (h2:B2<w.heap.size) (c1:w.cell? ⟨B1,0,none⟩=some (.int .i64 tr)) (c2:w.cell? ⟨B2,0,none⟩=some (.int .i64 dy)) (I:Legs w a l):
 Calls Tryz.prog 119 #[.slice a l.length cap,.func (.func 120) #[] #[.pointer (some ⟨B1,0,none⟩),.pointer (some ⟨B2,0,none⟩)]] w fun e w'=>e= .returned (.bool (l.any (onP tr dy)))∧Below w.heap.size w w':=by
 have HC:=legIdx_val B1 B2 tr dy a l cap w hl h1 h2 c1 c2 I
 go_enter Tryz.func119,Tryz.ntmps119
 go_wp2_with fail
 refine HC.mono ?_
 rintro e w1 ⟨z,rfl,hz,L1⟩
 have HZ:Hid (decide (0≤z)=l.any (onP tr dy)):=hz
 clear hz
 go_wp2
 go_ret
 exact⟨by rw[←HZ.out]<;>rfl,L1⟩

set_option maxHeartbeats 2000000 in
theorem goesOn_val (t:Tk.Hd) (nm:ByteArray) (tr dy:Int) (a:Option Addr) (l:List Lg) (cap:Nat) (w:World) (hl:l.length≤1048576) (I:Legs w a l):
 Calls Tryz.prog 83 #[tkV t nm a l.length cap,.int .i64 tr,.int .i64 dy] w fun e w'=>e= .returned (.bool (l.any (onP tr dy)))∧Below w.heap.size w w':=by
 obtain⟨k0,k1,k2⟩:=three_blocks w (tkB t nm a l.length cap 72) (.cells #[.int .i64 tr] 3) (.cells #[.int .i64 dy] 3)
 have L:Below w.heap.size w (((w.alloc (tkB t nm a l.length cap 72)).alloc (.cells #[.int .i64 tr] 3)).alloc (.cells #[.int .i64 dy] 3)):=join_below (join_below (new_below _ _) (new_below _ _)) (new_below _ _)
 have HC:=legCon_val (w.heap.size+1) (w.heap.size+1+1) tr dy a l cap _ hl (lt_of k1) (lt_of k2) (cell_at k1 0) (cell_at k2 0) (I.on L)
 clear k0 k1 k2
 go_enter Tryz.func83,Tryz.ntmps83
 go_wp2_with fail
 refine HC.mono ?_
 rintro e w1 ⟨rfl,L1⟩
 have K:=join_below L L1
 go_wp2
 go_ret
 exact⟨rfl,K⟩

set_option maxHeartbeats 2000000 in
theorem intIdx_val (id:Int) (a:Option Addr) (l:List Int) (cap:Nat) (w:World) (hl:l.length≤1048576) (I:Ints w a l):
 Calls Tryz.prog 121 #[.slice a l.length cap,.int .i64 id] w fun e w'=>∃z:Int,e= .returned (.int .i64 z)∧decide (0≤z)=l.any (isP id)∧w'=w:=by
 go_enter Tryz.func121,Tryz.ntmps121
 go_wp2
 go_loop [8] (fun i=>∃k:Nat,k≤l.length∧i= .int .i64 k∧Hid (∀i (hi:i<l.length),i<k→isP id l[i]=false)) (fun i=>l.length-(intOf i).toNat)
 case atStart=>exact⟨0,by omega,rfl,fun i _ h=>by omega⟩
 case round=>
  obtain⟨k,hk,rfl,H⟩:=hrel
  by_cases hkn:k<l.length
  ·obtain⟨b,o,rfl,hlt,q0⟩:=I.at k hkn
   by_cases hv:l[k]=id
   ·have HN:Hid (l.any (isP id)=true):=any_at _ l k hkn (by simp[isP,hv])
    have b1:(id==l[k])=true:=beq_iff_eq.2 hv.symm
    clear H hv
    generalize l[k]=p at*
    go_wp2
    go_ret
    exact⟨_,rfl,by rw[HN.out];exact decide_eq_true (by omega),rfl⟩
   ·have HN:Hid (∀i (hi:i<l.length),i<k+1→isP id l[i]=false):=none_next H.out hkn (by simp[isP,hv])
    have b1:(id==l[k])=false:=beq_eq_false_iff_ne.2 fun e=>hv e.symm
    clear H hv
    generalize l[k]=p at*
    go_wp2
    go_round
    case rel=>exact⟨k+1,by omega,by go_num,HN⟩
    case measure=>simp[intOf];omega
  ·have HN:Hid (l.any (isP id)=false):=any_none _ l fun i hi=>H.out i hi (by omega)
   clear H
   go_wp2
   go_ret
   exact⟨_,rfl,by rw[HN.out];rfl,rfl⟩

theorem intCon_val (id:Int) (a:Option Addr) (l:List Int) (cap:Nat) (w:World) (hl:l.length≤1048576) (I:Ints w a l):
 Calls Tryz.prog 85 #[.slice a l.length cap,.int .i64 id] w fun e w'=>e= .returned (.bool (l.any (isP id)))∧w'=w:=by
 have HC:=intIdx_val id a l cap w hl I
 go_enter Tryz.func85,Tryz.ntmps85
 go_wp2_with fail
 refine HC.mono ?_
 rintro e w1 ⟨z,rfl,hz,rfl⟩
 have HZ:Hid (decide (0≤z)=l.any (isP id)):=hz
 clear hz HC
 go_wp2
 go_ret
 exact⟨by rw[←HZ.out]<;>rfl,rfl⟩

set_option maxHeartbeats 2000000 in
theorem specHas_val (id:Int) (a:Option Addr) (l:List Int) (cap:Nat) (w:World) (hl:l.length≤1048576) (I:Ints w a l):
 Calls Tryz.prog 102 #[.slice a l.length cap,.int .i64 id] w fun e w'=>e= .returned (.bool (l.any (isP id)))∧w'=w:=by
 go_enter Tryz.func102,Tryz.ntmps102
 go_wp2
 go_loop [5] (fun i=>∃k:Nat,k≤l.length∧i= .int .i64 k∧Hid (∀i (hi:i<l.length),i<k→isP id l[i]=false)) (fun i=>l.length-(intOf i).toNat)
 case atStart=>exact⟨0,by omega,rfl,fun i _ h=>by omega⟩
 case round=>
  obtain⟨k,hk,rfl,H⟩:=hrel
  by_cases hkn:k<l.length
  ·obtain⟨b,o,rfl,hlt,q0⟩:=I.at k hkn
   by_cases hv:l[k]=id
   ·have HN:Hid (l.any (isP id)=true):=any_at _ l k hkn (by simp[isP,hv])
    have b1:(l[k]==id)=true:=beq_iff_eq.2 hv
    clear H hv
    generalize l[k]=p at*
    go_wp2
    go_ret
    exact⟨by rw[HN.out]<;>rfl,rfl⟩
   ·have HN:Hid (∀i (hi:i<l.length),i<k+1→isP id l[i]=false):=none_next H.out hkn (by simp[isP,hv])
    have b1:(l[k]==id)=false:=beq_eq_false_iff_ne.2 hv
    clear H hv
    generalize l[k]=p at*
    go_wp2
    go_round
    case rel=>exact⟨k+1,by omega,by go_num,HN⟩
    case measure=>simp[intOf];omega
  ·have HN:Hid (l.any (isP id)=false):=any_none _ l fun i hi=>H.out i hi (by omega)
   clear H
   go_wp2
   go_ret
   exact⟨by rw[HN.out]<;>rfl,rfl⟩

end Hn
end Go.Proofs.YtdcpjicgehdmfaaGreatDoor

/- Whether a device has taken a ticket; what the model asks of a ticket that was read. -/
namespace Go.Proofs.YtdcpjicgehdmfaaGreatDoor
namespace Hn
open Go.ChangeShapes Go.WideShapes Go.ChangeAt Go.RowKit Go.Joins
open Pk (new_below join_below cell_at heap_new frozen_at lt_of kept heap_old Drawn info_of Room)
open Tk (Lg Legs tkV tkB)
set_option linter.unusedSimpArgs false
set_option linter.unusedVariables false

set_option maxHeartbeats 1000000 in
theorem ctlPred_val (p:Ct) (id tr dy:Int) (B0 B1 B2:Nat) (w:World) (h0:B0<w.heap.size) (h1:B1<w.heap.size) (h2:B2<w.heap.size) (c0:w.cell? ⟨B0,0,none⟩=some (.int .i64 id)) (c1:w.cell? ⟨B1,0,none⟩=some (.int .i64 tr)) (c2:w.cell? ⟨B2,0,none⟩=some (.int .i64 dy)):
 Calls Tryz.prog 123 #[lgV p,.pointer (some ⟨B0,0,none⟩),.pointer (some ⟨B1,0,none⟩),.pointer (some ⟨B2,0,none⟩)] w fun e w'=>e= .returned (.bool (tkP id tr dy p))∧Below w.heap.size w w':=by
 have N:=new_below w (.cells #[.int .i64 p.dv,.int .i64 p.no,.int .i64 p.tk,.int .i64 p.tr,.int .i64 p.dy,.int .i64 p.sa] 77)
 have c0n:=(N.cell (p:=⟨B0,0,none⟩) h0).trans c0
 have c1n:=(N.cell (p:=⟨B1,0,none⟩) h1).trans c1
 have c2n:=(N.cell (p:=⟨B2,0,none⟩) h2).trans c2
 by_cases e0:p.tk=id
 ·have b0:(p.tk==id)=true:=beq_iff_eq.2 e0
  by_cases e1:p.tr=tr
  ·have b1:(p.tr==tr)=true:=beq_iff_eq.2 e1
   by_cases e2:p.dy=dy
   ·have b2:(p.dy==dy)=true:=beq_iff_eq.2 e2
    by_cases e3:p.sa=0
    ·have b3:(p.sa==0)=true:=beq_iff_eq.2 e3
     have HV:Hid (tkP id tr dy p=true):=by show _=_;simp[tkP,e0,e1,e2,e3]
     clear e0 e1 e2 e3
     go_enter Tryz.func123,Tryz.ntmps123
     go_wp2
     go_ret
     exact⟨by rw[HV.out]<;>rfl,N⟩
    ·have b3:(p.sa==0)=false:=beq_eq_false_iff_ne.2 e3
     have HV:Hid (tkP id tr dy p=false):=by show _=_;simp[tkP,e3]
     clear e0 e1 e2 e3
     go_enter Tryz.func123,Tryz.ntmps123
     go_wp2
     go_ret
     exact⟨by rw[HV.out]<;>rfl,N⟩
   ·have b2:(p.dy==dy)=false:=beq_eq_false_iff_ne.2 e2
    have HV:Hid (tkP id tr dy p=false):=by show _=_;simp[tkP,e2]
    clear e0 e1 e2
    go_enter Tryz.func123,Tryz.ntmps123
    go_wp2
    go_ret
    exact⟨by rw[HV.out]<;>rfl,N⟩
  ·have b1:(p.tr==tr)=false:=beq_eq_false_iff_ne.2 e1
   have HV:Hid (tkP id tr dy p=false):=by show _=_;simp[tkP,e1]
   clear e0 e1
   go_enter Tryz.func123,Tryz.ntmps123
   go_wp2
   go_ret
   exact⟨by rw[HV.out]<;>rfl,N⟩
 ·have b0:(p.tk==id)=false:=beq_eq_false_iff_ne.2 e0
  have HV:Hid (tkP id tr dy p=false):=by show _=_;simp[tkP,e0]
  clear e0
  go_enter Tryz.func123,Tryz.ntmps123
  go_wp2
  go_ret
  exact⟨by rw[HV.out]<;>rfl,N⟩

set_option maxHeartbeats 2000000 in
theorem ctlIdx_val (B0 B1 B2:Nat) (id tr dy:Int) (a:Option Addr) (l:List Ct) (cap:Nat) (w:World) (hl:l.length≤1048576) (h0:B0<w.heap.size) (h1:B1<w.heap.size) (h2:B2<w.heap.size) (c0:w.cell? ⟨B0,0,none⟩=some (.int .i64 id)) (c1:w.cell? ⟨B1,0,none⟩=some (.int .i64 tr)) (c2:w.cell? ⟨B2,0,none⟩=some (.int .i64 dy)) (I:Controls w a l):
 Calls Tryz.prog 148 #[.slice a l.length cap,.func (.func 123) #[] #[.pointer (some ⟨B0,0,none⟩),.pointer (some ⟨B1,0,none⟩),.pointer (some ⟨B2,0,none⟩)]] w fun e w'=>∃z:Int,e= .returned (.int .i64 z)∧decide (0≤z)=l.any (tkP id tr dy)∧Below w.heap.size w w':=by
 go_enter Tryz.func148,Tryz.ntmps148
 go_wp2
 go_loopw [8] (fun i wr=>∃k:Nat,k≤l.length∧i= .int .i64 k∧Below w.heap.size w wr∧Hid (∀i (hi:i<l.length),i<k→tkP id tr dy l[i]=false)) (fun i _=>l.length-(intOf i).toNat)
 case atStart=>exact⟨0,by omega,rfl,Below.refl _ _,fun i _ h=>by omega⟩
 case round=>
  obtain⟨k,hk,rfl,L,H⟩:=hrel
  by_cases hkn:k<l.length
  ·obtain⟨b,o,rfl,hlt,q0,q1,q2,q3,q4,q5⟩:=(I.on L).at k hkn
   have hB0:B0<wr.heap.size:=Nat.lt_of_lt_of_le h0 L.size
   have hB1:B1<wr.heap.size:=Nat.lt_of_lt_of_le h1 L.size
   have hB2:B2<wr.heap.size:=Nat.lt_of_lt_of_le h2 L.size
   have k0:wr.cell? ⟨B0,0,none⟩=some (.int .i64 id):=(L.cell (p:=⟨B0,0,none⟩) h0).trans c0
   have k1:wr.cell? ⟨B1,0,none⟩=some (.int .i64 tr):=(L.cell (p:=⟨B1,0,none⟩) h1).trans c1
   have k2:wr.cell? ⟨B2,0,none⟩=some (.int .i64 dy):=(L.cell (p:=⟨B2,0,none⟩) h2).trans c2
   have HP:Hid (∀W:World,_):=fun W=>ctlPred_val l[k] id tr dy B0 B1 B2 W
   cases hv:tkP id tr dy l[k]
   ·rw[hv]at HP
    have HN:Hid (∀i (hi:i<l.length),i<k+1→tkP id tr dy l[i]=false):=none_next H.out hkn hv
    clear hv H
    generalize l[k]=p at*
    go_wp2_with fail
    refine(HP.out _ hB0 hB1 hB2 k0 k1 k2).mono ?_
    rintro e w1 ⟨rfl,L1⟩
    have L2:=join_below L L1
    go_wp2
    go_roundw
    case rel=>exact⟨k+1,by omega,by go_num,L2,HN⟩
    case measure=>simp[intOf];omega
   ·rw[hv]at HP
    have HN:Hid (l.any (tkP id tr dy)=true):=any_at _ l k hkn hv
    clear hv H
    generalize l[k]=p at*
    go_wp2_with fail
    refine(HP.out _ hB0 hB1 hB2 k0 k1 k2).mono ?_
    rintro e w1 ⟨rfl,L1⟩
    have L2:=join_below L L1
    go_wp2
    go_ret
    exact⟨_,rfl,by rw[HN.out];exact decide_eq_true (by omega),L2⟩
  ·have HN:Hid (l.any (tkP id tr dy)=false):=any_none _ l fun i hi=>H.out i hi (by omega)
   clear H
   go_wp2
   go_ret
   exact⟨_,rfl,by rw[HN.out];rfl,L⟩

theorem ctlCon_val (B0 B1 B2:Nat) (id tr dy:Int) (a:Option Addr) (l:List Ct) (cap:Nat) (w:World) (hl:l.length≤1048576) (h0:B0<w.heap.size) (h1:B1<w.heap.size) (h2:B2<w.heap.size) (c0:w.cell? ⟨B0,0,none⟩=some (.int .i64 id)) (c1:w.cell? ⟨B1,0,none⟩=some (.int .i64 tr)) (c2:w.cell? ⟨B2,0,none⟩=some (.int .i64 dy)) (I:Controls w a l):
 Calls Tryz.prog 122 #[.slice a l.length cap,.func (.func 123) #[] #[.pointer (some ⟨B0,0,none⟩),.pointer (some ⟨B1,0,none⟩),.pointer (some ⟨B2,0,none⟩)]] w fun e w'=>e= .returned (.bool (l.any (tkP id tr dy)))∧Below w.heap.size w w':=by
 have HC:=ctlIdx_val B0 B1 B2 id tr dy a l cap w hl h0 h1 h2 c0 c1 c2 I
 go_enter Tryz.func122,Tryz.ntmps122
 go_wp2_with fail
 refine HC.mono ?_
 rintro e w1 ⟨z,rfl,hz,L1⟩
 have HZ:Hid (decide (0≤z)=l.any (tkP id tr dy)):=hz
 clear hz
 go_wp2
 go_ret
 exact⟨by rw[←HZ.out]<;>rfl,L1⟩

theorem four_blocks (w:World) (a b c d:Obj):((((w.alloc a).alloc b).alloc c).alloc d).heap[w.heap.size]? =some a∧((((w.alloc a).alloc b).alloc c).alloc d).heap[w.heap.size+1]? =some b∧((((w.alloc a).alloc b).alloc c).alloc d).heap[w.heap.size+1+1]? =some c∧((((w.alloc a).alloc b).alloc c).alloc d).heap[w.heap.size+1+1+1]? =some d∧((((w.alloc a).alloc b).alloc c).alloc d).heap.size=w.heap.size+1+1+1+1:=by
 obtain⟨k0,k1,k2⟩:=three_blocks w a b c
 have e3:(((w.alloc a).alloc b).alloc c).heap.size=w.heap.size+1+1+1:=(Array.size_push ..).trans (congrArg (· +1) ((Array.size_push ..).trans (congrArg (· +1) (Array.size_push ..))))
 refine⟨heap_old k0 d,heap_old k1 d,heap_old k2 d,?_,?_⟩
 ·rw[←e3];exact heap_new _ d
 ·rw[←e3];exact Array.size_push ..

set_option maxHeartbeats 2000000 in
theorem hasTaken_val (x:Pl) (o:Hnd) (id tr dy:Int) (w:World) (hl:o.sl.length≤1048576) (I:In w x o):
 Calls Tryz.prog 87 #[hnV x o,.int .i64 id,.int .i64 tr,.int .i64 dy] w fun e w'=>e= .returned (.bool (o.sl.any (tkP id tr dy)))∧Below w.heap.size w w':=by
 obtain⟨k0,k1,k2,k3,-⟩:=four_blocks w (hnB x o 35) (.cells #[.int .i64 id] 3) (.cells #[.int .i64 tr] 3) (.cells #[.int .i64 dy] 3)
 have L:Below w.heap.size w ((((w.alloc (hnB x o 35)).alloc (.cells #[.int .i64 id] 3)).alloc (.cells #[.int .i64 tr] 3)).alloc (.cells #[.int .i64 dy] 3)):=join_below (join_below (join_below (new_below _ _) (new_below _ _)) (new_below _ _)) (new_below _ _)
 have HC:=ctlCon_val (w.heap.size+1) (w.heap.size+1+1) (w.heap.size+1+1+1) id tr dy x.b o.sl x.d _ hl (lt_of k1) (lt_of k2) (lt_of k3) (cell_at k1 0) (cell_at k2 0) (cell_at k3 0) (I.seen.on L)
 clear k0 k1 k2 k3
 go_enter Tryz.func87,Tryz.ntmps87
 go_wp2_with fail
 refine HC.mono ?_
 rintro e w1 ⟨rfl,L1⟩
 have K:=join_below L L1
 go_wp2
 go_ret
 exact⟨rfl,K⟩

def rideB (tr dy:Int):Bool:=inB tr 1 9999&&inB dy 0 99999

theorem specRide_val (tr dy:Int) (w:World):
 Calls Tryz.prog 38 #[.int .i64 tr,.int .i64 dy] w fun e w'=>e= .returned (.bool (rideB tr dy))∧w'=w:=by
 have H1:Hid (∀W:World,_):=fun W=>ins_val tr 1 9999 W
 have H2:Hid (∀W:World,_):=fun W=>ins_val dy 0 99999 W
 cases h:inB tr 1 9999
 ·have HV:Hid (rideB tr dy=false):=by show _=_;unfold rideB;rw[h];rfl
  rw[h]at H1
  clear h
  go_enter Tryz.func38,Tryz.ntmps38
  go_wp2_with fail
  refine(H1.out _).mono ?_
  rintro e w1 ⟨rfl,rfl⟩
  go_wp2
  go_ret
  exact⟨by rw[HV.out]<;>rfl,rfl⟩
 ·have HV:Hid (rideB tr dy=inB dy 0 99999):=by show _=_;unfold rideB;rw[h];rfl
  rw[h]at H1
  clear h
  go_enter Tryz.func38,Tryz.ntmps38
  go_wp2_with fail
  refine(H1.out _).mono ?_
  rintro e w1 ⟨rfl,rfl⟩
  go_wp2_with fail
  refine(H2.out _).mono ?_
  rintro e w1 ⟨rfl,rfl⟩
  go_wp2
  go_ret
  exact⟨by rw[HV.out]<;>rfl,rfl⟩

def canB (o:Hnd) (tr dy:Int):Bool:=handB o&&rideB tr dy

set_option maxHeartbeats 2000000 in
theorem can_val (x:Pl) (o:Hnd) (tr dy:Int) (w:World) (hz:o.ol.length≤1048576) (hz2:o.sl.length≤1048576) (I:In w x o):
 Calls Tryz.prog 50 #[hnV x o,.int .i64 tr,.int .i64 dy] w fun e w'=>e= .returned (.bool (canB o tr dy))∧Below w.heap.size w w':=by
 have N:=new_below w (hnB x o 35)
 have IN:=I.on N
 have HH:Hid (∀W:World,In W x o→_):=fun W h=>implHand_val x o W hz hz2 h
 have H1:Hid (∀W:World,_):=fun W=>btw_val tr 1 9999 W
 have H2:Hid (∀W:World,_):=fun W=>btw_val dy 0 99999 W
 clear hz hz2 I
 cases h:handB o
 ·have HV:Hid (canB o tr dy=false):=by show _=_;unfold canB;rw[h];rfl
  rw[h]at HH
  clear h
  go_enter Tryz.func50,Tryz.ntmps50
  go_wp2_with fail
  refine(HH.out _ IN).mono ?_
  rintro e w1 ⟨rfl,L1⟩
  have K:=join_below N L1
  go_wp2
  go_ret
  exact⟨by rw[HV.out]<;>rfl,K⟩
 ·rw[h]at HH
  cases h1:inB tr 1 9999
  ·have HV:Hid (canB o tr dy=false):=by show _=_;unfold canB rideB;rw[h1,Bool.false_and,Bool.and_false]
   rw[h1]at H1
   clear h h1
   go_enter Tryz.func50,Tryz.ntmps50
   go_wp2_with fail
   refine(HH.out _ IN).mono ?_
   rintro e w1 ⟨rfl,L1⟩
   have K:=join_below N L1
   go_wp2_with fail
   refine(H1.out _).mono ?_
   rintro e w2 ⟨rfl,rfl⟩
   go_wp2
   go_ret
   exact⟨by rw[HV.out]<;>rfl,K⟩
  ·have HV:Hid (canB o tr dy=inB dy 0 99999):=by show _=_;unfold canB rideB;rw[h,h1];rfl
   rw[h1]at H1
   clear h h1
   go_enter Tryz.func50,Tryz.ntmps50
   go_wp2_with fail
   refine(HH.out _ IN).mono ?_
   rintro e w1 ⟨rfl,L1⟩
   have K:=join_below N L1
   go_wp2_with fail
   refine(H1.out _).mono ?_
   rintro e w2 ⟨rfl,rfl⟩
   go_wp2_with fail
   refine(H2.out _).mono ?_
   rintro e w2 ⟨rfl,rfl⟩
   go_wp2
   go_ret
   exact⟨by rw[HV.out]<;>rfl,K⟩

end Hn
end Go.Proofs.YtdcpjicgehdmfaaGreatDoor

/- What the model says of a ticket that was read. -/
namespace Go.Proofs.YtdcpjicgehdmfaaGreatDoor
namespace Hn
open Go.ChangeShapes Go.WideShapes Go.ChangeAt Go.RowKit Go.Joins
open Pk (new_below join_below cell_at heap_new frozen_at lt_of kept heap_old Drawn info_of Room)
open Tk (Lg Legs tkV tkB)
set_option linter.unusedSimpArgs false
set_option linter.unusedVariables false

def chk (o:Hnd) (t:Tk.Hd) (ls:List Lg) (tr dy:Int):Nat:=if inB dy t.fi t.la=false then 2 else if ls.any (onP tr dy)=false then 3 else if o.ol.any (isP t.id)=true then 4 else if o.sl.any (tkP t.id tr dy)=true then 5 else 0

theorem chk_2 {o:Hnd} {t:Tk.Hd} {ls:List Lg} {tr dy:Int} (h:inB dy t.fi t.la=false):chk o t ls tr dy=2:=by unfold chk;rw[if_pos h]
theorem chk_3 {o:Hnd} {t:Tk.Hd} {ls:List Lg} {tr dy:Int} (h:inB dy t.fi t.la=true) (h2:ls.any (onP tr dy)=false):chk o t ls tr dy=3:=by unfold chk;rw[if_neg (by rw[h];simp),if_pos h2]
theorem chk_4 {o:Hnd} {t:Tk.Hd} {ls:List Lg} {tr dy:Int} (h:inB dy t.fi t.la=true) (h2:ls.any (onP tr dy)=true) (h3:o.ol.any (isP t.id)=true):chk o t ls tr dy=4:=by unfold chk;rw[if_neg (by rw[h];simp),if_neg (by rw[h2];simp),if_pos h3]
theorem chk_5 {o:Hnd} {t:Tk.Hd} {ls:List Lg} {tr dy:Int} (h:inB dy t.fi t.la=true) (h2:ls.any (onP tr dy)=true) (h3:o.ol.any (isP t.id)=false) (h4:o.sl.any (tkP t.id tr dy)=true):chk o t ls tr dy=5:=by unfold chk;rw[if_neg (by rw[h];simp),if_neg (by rw[h2];simp),if_neg (by rw[h3];simp),if_pos h4]
theorem chk_0 {o:Hnd} {t:Tk.Hd} {ls:List Lg} {tr dy:Int} (h:inB dy t.fi t.la=true) (h2:ls.any (onP tr dy)=true) (h3:o.ol.any (isP t.id)=false) (h4:o.sl.any (tkP t.id tr dy)=false):chk o t ls tr dy=0:=by unfold chk;rw[if_neg (by rw[h];simp),if_neg (by rw[h2];simp),if_neg (by rw[h3];simp),if_neg (by rw[h4];simp)]

theorem any_take {α:Type} (P:α→Bool) (l:List α) (k:Nat) (hk:k<l.length):(l.take (k+1)).any P=((l.take k).any P||P l[k]):=by
 rw[List.take_succ_eq_append_getElem hk,List.any_append]
 simp

set_option maxRecDepth 100000 in
set_option maxHeartbeats 4000000 in
theorem specChk_val (x:Pl) (o:Hnd) (t:Tk.Hd) (nm:ByteArray) (a:Option Addr) (ls:List Lg) (cap:Nat) (tr dy:Int) (w:World) (hz:o.ol.length≤1048576) (hz2:o.sl.length≤1048576) (hz3:ls.length≤1048576) (I:In w x o) (J:Legs w a ls):
 Calls Tryz.prog 63 #[hnV x o,tkV t nm a ls.length cap,.int .i64 tr,.int .i64 dy] w fun e w'=>e= .returned (.int .i64 (chk o t ls tr dy:Nat))∧Below w.heap.size w w':=by
 obtain⟨k0,k1,-⟩:=two_blocks w (hnB x o 35) (tkB t nm a ls.length cap 72)
 have L:Below w.heap.size w ((w.alloc (hnB x o 35)).alloc (tkB t nm a ls.length cap 72)):=join_below (new_below _ _) (new_below _ _)
 have HI:Hid (∀W:World,_):=fun W=>ins_val dy t.fi t.la W
 have HH:Hid (∀W:World,Ints W x.a o.ol→_):=fun W h=>specHas_val t.id x.a o.ol x.c W hz h
 cases h1:inB dy t.fi t.la
 ·have HV:Hid (chk o t ls tr dy=2):=chk_2 h1
  rw[h1]at HI
  clear h1 HH k0 k1
  go_enter Tryz.func63,Tryz.ntmps63
  go_wp2_with fail
  refine(HI.out _).mono ?_
  rintro e w1 ⟨rfl,rfl⟩
  go_wp2
  go_ret
  exact⟨by rw[HV.out]<;>rfl,L⟩
 ·rw[h1]at HI
  have H1:Hid (inB dy t.fi t.la=true):=h1
  clear h1
  go_enter Tryz.func63,Tryz.ntmps63
  go_wp2_with fail
  refine named fun V hV=> ?_
  rw[←hV]at k0 k1 L
  clear hV
  refine(HI.out _).mono ?_
  rintro e w1 ⟨rfl,rfl⟩
  have t0:w1.cell? ⟨w.heap.size+1,0,none⟩=some (.int .i64 t.id):=cell_at k1 0
  have t6:w1.cell? ⟨w.heap.size+1,6,none⟩=some (.slice a ls.length cap):=cell_at k1 6
  have a7:w1.cell? ⟨w.heap.size,7,none⟩=some (.slice x.a o.ol.length x.c):=cell_at k0 7
  have a8:w1.cell? ⟨w.heap.size,8,none⟩=some (.slice x.b o.sl.length x.d):=cell_at k0 8
  have JV:=J.on L
  have IV:=I.on L
  go_wp2
  go_loop [9,10] (fun v i=>∃k:Nat,k≤ls.length∧i= .int .i64 k∧v= .bool ((ls.take k).any (onP tr dy))) (fun _ i=>ls.length-(intOf i).toNat)
  case atStart=>exact⟨0,by omega,rfl,by simp⟩
  case round=>
   obtain⟨k,hk,rfl,rfl⟩:=hrel
   by_cases hkn:k<ls.length
   ·have HA:Hid ((ls.take (k+1)).any (onP tr dy)=((ls.take k).any (onP tr dy)||onP tr dy ls[k])):=any_take _ ls k hkn
    cases hb:(ls.take k).any (onP tr dy)
    ·have HB:Hid ((ls.take (k+1)).any (onP tr dy)=onP tr dy ls[k]):=by show _=_;rw[HA.out,hb,Bool.false_or]
     obtain⟨b,u,rfl,hlt,q0,q1,q2,q3,q4,q5⟩:=JV.at k hkn
     clear HA hb
     generalize ls[k]=p at*
     by_cases e1:p.tr=tr
     ·have b1:(p.tr==tr)=true:=beq_iff_eq.2 e1
      by_cases e2:p.dy=dy
      ·have b2:(p.dy==dy)=true:=beq_iff_eq.2 e2
       have HC:Hid ((ls.take (k+1)).any (onP tr dy)=true):=by show _=_;rw[HB.out];simp[onP,e1,e2]
       clear e1 e2 HB
       go_wp2
       go_round
       case rel=>exact⟨k+1,by omega,by go_num,by rw[HC.out]⟩
       case measure=>simp[intOf];omega
      ·have b2:(p.dy==dy)=false:=beq_eq_false_iff_ne.2 e2
       have HC:Hid ((ls.take (k+1)).any (onP tr dy)=false):=by show _=_;rw[HB.out];simp[onP,e2]
       clear e1 e2 HB
       go_wp2
       go_round
       case rel=>exact⟨k+1,by omega,by go_num,by rw[HC.out]⟩
       case measure=>simp[intOf];omega
     ·have b1:(p.tr==tr)=false:=beq_eq_false_iff_ne.2 e1
      have HC:Hid ((ls.take (k+1)).any (onP tr dy)=false):=by show _=_;rw[HB.out];simp[onP,e1]
      clear e1 HB
      go_wp2
      go_round
      case rel=>exact⟨k+1,by omega,by go_num,by rw[HC.out]⟩
      case measure=>simp[intOf];omega
    ·have HC:Hid ((ls.take (k+1)).any (onP tr dy)=true):=by show _=_;rw[HA.out,hb,Bool.true_or]
     clear HA hb
     go_wp2
     go_round
     case rel=>exact⟨k+1,by omega,by go_num,by rw[HC.out]⟩
     case measure=>simp[intOf];omega
   ·obtain rfl:k=ls.length:=by omega
    have HT:Hid (ls.take ls.length=ls):=List.take_length
    rw[HT.out]
    cases h2:ls.any (onP tr dy)
    ·have HV:Hid (chk o t ls tr dy=3):=chk_3 H1.out h2
     clear h2
     go_wp2
     go_ret
     exact⟨by rw[HV.out]<;>rfl,L⟩
    ·have H2:Hid (ls.any (onP tr dy)=true):=h2
     clear h2
     cases h3:o.ol.any (isP t.id)
     ·rw[h3]at HH
      have H3:Hid (o.ol.any (isP t.id)=false):=h3
      clear h3
      go_wp2_with fail
      refine(HH.out _ IV.off).mono ?_
      rintro e w2 ⟨rfl,rfl⟩
      go_wp2
      go_loopw [11] (fun i wr=>∃k:Nat,k≤o.sl.length∧i= .int .i64 k∧Below w2.heap.size w2 wr∧Hid (∀i (hi:i<o.sl.length),i<k→tkP t.id tr dy o.sl[i]=false)) (fun i _=>o.sl.length-(intOf i).toNat)
      case atStart=>exact⟨0,by omega,rfl,Below.refl _ _,fun i _ h=>by omega⟩
      case round=>
       obtain⟨k,hk,rfl,LR,H⟩:=hrel
       have m0:=kept LR (lt_of k0) k0
       have m1:=kept LR (lt_of k1) k1
       have r0:wr.cell? ⟨w.heap.size+1,0,none⟩=some (.int .i64 t.id):=cell_at m1 0
       have r8:wr.cell? ⟨w.heap.size,8,none⟩=some (.slice x.b o.sl.length x.d):=cell_at m0 8
       have KR:=join_below L LR
       by_cases hkn:k<o.sl.length
       ·obtain⟨b,u,eb,hlt,q0,q1,q2,q3,q4,q5⟩:=(IV.seen.on LR).at k hkn
        rw[eb]at r8
        have LN:=join_below LR (new_below wr (.cells #[.int .i64 o.sl[k].dv,.int .i64 o.sl[k].no,.int .i64 o.sl[k].tk,.int .i64 o.sl[k].tr,.int .i64 o.sl[k].dy,.int .i64 o.sl[k].sa] 77))
        have n0:(wr.alloc (.cells #[.int .i64 o.sl[k].dv,.int .i64 o.sl[k].no,.int .i64 o.sl[k].tk,.int .i64 o.sl[k].tr,.int .i64 o.sl[k].dy,.int .i64 o.sl[k].sa] 77)).cell? ⟨w.heap.size+1,0,none⟩=some (.int .i64 t.id):=cell_at (heap_old m1 _) 0
        have HY:Hid (tkP t.id tr dy o.sl[k]=true→chk o t ls tr dy=5):=fun h=>chk_5 H1.out H2.out H3.out (any_at _ o.sl k hkn h)
        have HN:Hid (tkP t.id tr dy o.sl[k]=false→∀i (hi:i<o.sl.length),i<k+1→tkP t.id tr dy o.sl[i]=false):=fun h=>none_next H.out hkn h
        clear H m0 m1 LR
        generalize o.sl[k]=p at*
        generalize t.id=id at*
        by_cases e0:p.tk=id
        ·have b0:(p.tk==id)=true:=beq_iff_eq.2 e0
         by_cases e1:p.tr=tr
         ·have b1:(p.tr==tr)=true:=beq_iff_eq.2 e1
          by_cases e2:p.dy=dy
          ·have b2:(p.dy==dy)=true:=beq_iff_eq.2 e2
           by_cases e3:p.sa=0
           ·have b3:(p.sa==0)=true:=beq_iff_eq.2 e3
            have HV:Hid (chk o t ls tr dy=5):=HY.out (by simp[tkP,e0,e1,e2,e3])
            clear e0 e1 e2 e3 HY HN
            go_wp2
            go_ret
            exact⟨by rw[HV.out]<;>rfl,join_below L LN⟩
           ·have b3:(p.sa==0)=false:=beq_eq_false_iff_ne.2 e3
            have HM:Hid (_):=HN.out (by simp[tkP,e3])
            clear e0 e1 e2 e3 HY HN
            go_wp2
            go_roundw
            case rel=>exact⟨k+1,by omega,by go_num,LN,HM⟩
            case measure=>simp[intOf];omega
          ·have b2:(p.dy==dy)=false:=beq_eq_false_iff_ne.2 e2
           have HM:Hid (_):=HN.out (by simp[tkP,e2])
           clear e0 e1 e2 HY HN
           go_wp2
           go_roundw
           case rel=>exact⟨k+1,by omega,by go_num,LN,HM⟩
           case measure=>simp[intOf];omega
         ·have b1:(p.tr==tr)=false:=beq_eq_false_iff_ne.2 e1
          have HM:Hid (_):=HN.out (by simp[tkP,e1])
          clear e0 e1 HY HN
          go_wp2
          go_roundw
          case rel=>exact⟨k+1,by omega,by go_num,LN,HM⟩
          case measure=>simp[intOf];omega
        ·have b0:(p.tk==id)=false:=beq_eq_false_iff_ne.2 e0
         have HM:Hid (_):=HN.out (by simp[tkP,e0])
         clear e0 HY HN
         go_wp2
         go_roundw
         case rel=>exact⟨k+1,by omega,by go_num,LN,HM⟩
         case measure=>simp[intOf];omega
       ·have HV:Hid (chk o t ls tr dy=0):=chk_0 H1.out H2.out H3.out (any_none _ o.sl fun i hi=>H.out i hi (by omega))
        clear H m0 m1
        go_wp2
        go_ret
        exact⟨by rw[HV.out]<;>rfl,KR⟩
     ·have HV:Hid (chk o t ls tr dy=4):=chk_4 H1.out H2.out h3
      rw[h3]at HH
      clear h3
      go_wp2_with fail
      refine(HH.out _ IV.off).mono ?_
      rintro e w2 ⟨rfl,rfl⟩
      go_wp2
      go_ret
      exact⟨by rw[HV.out]<;>rfl,L⟩

end Hn
end Go.Proofs.YtdcpjicgehdmfaaGreatDoor

/- The closures of the program's control. -/
namespace Go.Proofs.YtdcpjicgehdmfaaGreatDoor
namespace Hn
open Go.ChangeShapes Go.WideShapes Go.ChangeAt Go.RowKit Go.Joins
open Pk (new_below join_below cell_at heap_new frozen_at lt_of kept heap_old Drawn info_of Room)
open Tk (Lg Legs tkV tkB)
set_option linter.unusedSimpArgs false
set_option linter.unusedVariables false

def RdOk (RT:Tk.Hd) (RN:ByteArray) (RL:List Lg) (C:Nat) (base:Nat) (e:Ending) (w:World):Prop:=∃a cap,e= .returned (.tuple #[tkV RT RN a RL.length cap,.int .i64 (C:Nat)])∧Legs w a RL∧∀b o,a=some ⟨b,o,none⟩→RL≠ []→base≤b

abbrev put7 (w:World) (P:Nat) (v0 v1 v2 v3 v4 v5 v6:Value):World:=((((((w.setCell ⟨P,0,none⟩ v0).setCell ⟨P,1,none⟩ v1).setCell ⟨P,2,none⟩ v2).setCell ⟨P,3,none⟩ v3).setCell ⟨P,4,none⟩ v4).setCell ⟨P,5,none⟩ v5).setCell ⟨P,6,none⟩ v6

theorem put7_heap {w:World} {P:Nat} {a0 a1 a2 a3 a4 a5 a6:Value} {t:TypeId} (h:w.heap[P]? =some (.cells #[a0,a1,a2,a3,a4,a5,a6] t (0,0))) (v0 v1 v2 v3 v4 v5 v6:Value):(put7 w P v0 v1 v2 v3 v4 v5 v6).heap[P]? =some (.cells #[v0,v1,v2,v3,v4,v5,v6] t (0,0)):=by
 unfold put7 World.setCell
 simp[Array.getElem?_modify,h]

theorem put7_other {w:World} {P k:Nat} (hk:k≠P) (v0 v1 v2 v3 v4 v5 v6:Value):(put7 w P v0 v1 v2 v3 v4 v5 v6).heap[k]? =w.heap[k]? :=by
 unfold put7
 rw[Below.heap_setCell _ _ _ _ hk,Below.heap_setCell _ _ _ _ hk,Below.heap_setCell _ _ _ _ hk,Below.heap_setCell _ _ _ _ hk,Below.heap_setCell _ _ _ _ hk,Below.heap_setCell _ _ _ _ hk,Below.heap_setCell _ _ _ _ hk]

theorem put7_brd {w:World} {P:Nat} (v0 v1 v2 v3 v4 v5 v6:Value):Brd P (P+1) w (put7 w P v0 v1 v2 v3 v4 v5 v6):=by
 have B:∀(i:Nat) (u:Value) (W:World),Brd P (P+1) W (W.setCell ⟨P,i,none⟩ u):=fun i u W=>Brd.band ((Band.refl P (P+1) W).set (i:=i) (Nat.le_refl _) (by omega) u) (Nat.le_refl _) (Nat.le_refl _)
 exact((((((B _ _ _).trans (B _ _ _)).trans (B _ _ _)).trans (B _ _ _)).trans (B _ _ _)).trans (B _ _ _)).trans (B _ _ _)

theorem Legs_brd {lo hi:Nat} {w w1:World} {a:Option Addr} {ps:List Lg} (h:Legs w a ps) (L:Brd lo hi w w1) (ha:∀b o,a=some ⟨b,o,none⟩→ps≠ []→b<lo∨hi≤b):Legs w1 a ps:=by
 rcases h with h|⟨b,o,rfl,hlt,hc⟩
 ·exact Or.inl h
 ·by_cases hz:ps= []
  ·exact Or.inl hz
  ·have hb:=L.block b hlt (ha b o rfl hz)
   exact Or.inr ⟨b,o,rfl,Nat.lt_of_lt_of_le hlt L.size,fun i hi=>by rw[World.cell?_of_block (a:=⟨b,o+i*6,none⟩) hb,World.cell?_of_block (a:=⟨b,o+i*6+1,none⟩) hb,World.cell?_of_block (a:=⟨b,o+i*6+2,none⟩) hb,World.cell?_of_block (a:=⟨b,o+i*6+3,none⟩) hb,World.cell?_of_block (a:=⟨b,o+i*6+4,none⟩) hb,World.cell?_of_block (a:=⟨b,o+i*6+5,none⟩) hb];exact hc i hi⟩

set_option maxRecDepth 100000 in
set_option maxHeartbeats 4000000 in
theorem clo1_val (x:Pl) (o:Hnd) (s:ByteArray) {RT:Tk.Hd} {RN:ByteArray} {RL:List Lg} {C:Nat} {wb:World} (HR:∀W:World,Below wb.heap.size wb W→Calls Tryz.prog 80 #[.agg #[.int .i64 o.p,.int .i64 o.q,.int .i64 o.g],.int .i64 o.op,.int .i64 o.is,.string s] W fun e w'=>RdOk RT RN RL C W.heap.size e w'∧Below W.heap.size W w') (P Q D:Nat) (w:World) (KB:Below wb.heap.size wb w)
 (mP:w.heap[P]? =some (hnB x o 35)) (mQ:w.heap[Q]? =some (.cells #[.string s] 9)) (mD:w.heap[D]? =some (tkB ⟨0,0,0,0,0⟩ ⟨#[]⟩ none 0 0 72)):
 Calls Tryz.prog 79 #[.pointer (some ⟨P,0,none⟩),.pointer (some ⟨Q,0,none⟩),.pointer (some ⟨D,0,none⟩)] w fun e w'=>∃ra rc,e= .returned (.bool ((C:Int)==0))∧w'.heap[D]? =some (tkB RT RN ra RL.length rc 72)∧Legs w' ra RL∧Brd D (D+1) w w':=by
 have a1:w.cell? ⟨P,1,none⟩=some (.int .i64 o.p):=cell_at mP 1
 have a2:w.cell? ⟨P,2,none⟩=some (.int .i64 o.q):=cell_at mP 2
 have a3:w.cell? ⟨P,3,none⟩=some (.int .i64 o.g):=cell_at mP 3
 have a4:w.cell? ⟨P,4,none⟩=some (.int .i64 o.op):=cell_at mP 4
 have a5:w.cell? ⟨P,5,none⟩=some (.int .i64 o.is):=cell_at mP 5
 have c0:w.cell? ⟨Q,0,none⟩=some (.string s):=cell_at mQ 0
 go_enter Tryz.func79,Tryz.ntmps79
 go_wp2_with fail
 refine(HR _ KB).mono ?_
 rintro e w1 ⟨⟨ra,rc,rfl,J1,hnew⟩,L1⟩
 have m1:=kept L1 (lt_of mD) mD
 have N1:=new_below w1 (tkB RT RN ra RL.length rc 72)
 have m2:=heap_old m1 (tkB RT RN ra RL.length rc 72)
 have J2:=J1.on N1
 have B2:Brd D (D+1) w (w1.alloc (tkB RT RN ra RL.length rc 72)):=(Brd.of L1).trans (Brd.of N1)
 have HD:Hid (D<w.heap.size):=lt_of mD
 have HNW:Hid (∀b o,ra=some ⟨b,o,none⟩→RL≠ []→w.heap.size≤b):=hnew
 have b0:(w1.alloc (tkB RT RN ra RL.length rc 72)).cell? ⟨D,0,none⟩=some (.int .i64 0):=cell_at m2 0
 have b1:(w1.alloc (tkB RT RN ra RL.length rc 72)).cell? ⟨D,1,none⟩=some (.string ⟨#[]⟩):=cell_at m2 1
 have b2:(w1.alloc (tkB RT RN ra RL.length rc 72)).cell? ⟨D,2,none⟩=some (.int .i64 0):=cell_at m2 2
 have b3:(w1.alloc (tkB RT RN ra RL.length rc 72)).cell? ⟨D,3,none⟩=some (.int .i64 0):=cell_at m2 3
 have b4:(w1.alloc (tkB RT RN ra RL.length rc 72)).cell? ⟨D,4,none⟩=some (.int .i64 0):=cell_at m2 4
 have b5:(w1.alloc (tkB RT RN ra RL.length rc 72)).cell? ⟨D,5,none⟩=some (.int .i64 0):=cell_at m2 5
 have b6:(w1.alloc (tkB RT RN ra RL.length rc 72)).cell? ⟨D,6,none⟩=some (.slice none 0 0):=cell_at m2 6
 have f0:(w1.alloc (tkB RT RN ra RL.length rc 72)).frozen? ⟨D,0,none⟩=false:=frozen_at m2 0
 have f1:(w1.alloc (tkB RT RN ra RL.length rc 72)).frozen? ⟨D,1,none⟩=false:=frozen_at m2 1
 have f2:(w1.alloc (tkB RT RN ra RL.length rc 72)).frozen? ⟨D,2,none⟩=false:=frozen_at m2 2
 have f3:(w1.alloc (tkB RT RN ra RL.length rc 72)).frozen? ⟨D,3,none⟩=false:=frozen_at m2 3
 have f4:(w1.alloc (tkB RT RN ra RL.length rc 72)).frozen? ⟨D,4,none⟩=false:=frozen_at m2 4
 have f5:(w1.alloc (tkB RT RN ra RL.length rc 72)).frozen? ⟨D,5,none⟩=false:=frozen_at m2 5
 have f6:(w1.alloc (tkB RT RN ra RL.length rc 72)).frozen? ⟨D,6,none⟩=false:=frozen_at m2 6
 have HFIN:Hid (Brd D (D+1) w (put7 (w1.alloc (tkB RT RN ra RL.length rc 72)) D (.int .i64 RT.id) (.string RN) (.int .i64 RT.cl) (.int .i64 RT.pr) (.int .i64 RT.fi) (.int .i64 RT.la) (.slice ra RL.length rc))∧(put7 (w1.alloc (tkB RT RN ra RL.length rc 72)) D (.int .i64 RT.id) (.string RN) (.int .i64 RT.cl) (.int .i64 RT.pr) (.int .i64 RT.fi) (.int .i64 RT.la) (.slice ra RL.length rc)).heap[D]? =some (tkB RT RN ra RL.length rc 72)∧Legs (put7 (w1.alloc (tkB RT RN ra RL.length rc 72)) D (.int .i64 RT.id) (.string RN) (.int .i64 RT.cl) (.int .i64 RT.pr) (.int .i64 RT.fi) (.int .i64 RT.la) (.slice ra RL.length rc)) ra RL):=
  ⟨B2.trans (put7_brd ..),put7_heap m2 ..,Legs_brd J2 (put7_brd ..) fun b u e hne=>Or.inr (by have:=HNW.out b u e hne;have:=HD.out;omega)⟩
 clear m1 N1 m2 J1 J2 B2 L1 mP mQ mD hnew KB
 go_wp2
 go_ret
 exact⟨ra,rc,rfl,HFIN.out.2.1,HFIN.out.2.2,HFIN.out.1⟩

theorem clo2_val (RT:Tk.Hd) (RN:ByteArray) (ra:Option Addr) (rn rc:Nat) (dy:Int) (Q D:Nat) (w:World) (mQ:w.heap[Q]? =some (.cells #[.int .i64 dy] 3)) (mD:w.heap[D]? =some (tkB RT RN ra rn rc 72)):
 Calls Tryz.prog 81 #[.pointer (some ⟨Q,0,none⟩),.pointer (some ⟨D,0,none⟩)] w fun e w'=>e= .returned (.bool (inB dy RT.fi RT.la))∧w'=w:=by
 have c0:w.cell? ⟨Q,0,none⟩=some (.int .i64 dy):=cell_at mQ 0
 have d4:w.cell? ⟨D,4,none⟩=some (.int .i64 RT.fi):=cell_at mD 4
 have d5:w.cell? ⟨D,5,none⟩=some (.int .i64 RT.la):=cell_at mD 5
 go_enter Tryz.func81,Tryz.ntmps81
 go_wp2_with fail
 refine(btw_val dy RT.fi RT.la _).mono ?_
 rintro e w1 ⟨rfl,rfl⟩
 go_wp2
 go_ret
 exact⟨rfl,rfl⟩

set_option maxHeartbeats 1000000 in
theorem clo3_val (RT:Tk.Hd) (RN:ByteArray) (ra:Option Addr) (RL:List Lg) (rc:Nat) (tr dy:Int) (D Q R:Nat) (w:World) (hl:RL.length≤1048576) (mD:w.heap[D]? =some (tkB RT RN ra RL.length rc 72)) (mQ:w.heap[Q]? =some (.cells #[.int .i64 tr] 3)) (mR:w.heap[R]? =some (.cells #[.int .i64 dy] 3)) (J:Legs w ra RL):
 Calls Tryz.prog 82 #[.pointer (some ⟨D,0,none⟩),.pointer (some ⟨Q,0,none⟩),.pointer (some ⟨R,0,none⟩)] w fun e w'=>e= .returned (.bool (RL.any (onP tr dy)))∧Below w.heap.size w w':=by
 have c0:w.cell? ⟨Q,0,none⟩=some (.int .i64 tr):=cell_at mQ 0
 have c1:w.cell? ⟨R,0,none⟩=some (.int .i64 dy):=cell_at mR 0
 have d0:w.cell? ⟨D,0,none⟩=some (.int .i64 RT.id):=cell_at mD 0
 have d1:w.cell? ⟨D,1,none⟩=some (.string RN):=cell_at mD 1
 have d2:w.cell? ⟨D,2,none⟩=some (.int .i64 RT.cl):=cell_at mD 2
 have d3:w.cell? ⟨D,3,none⟩=some (.int .i64 RT.pr):=cell_at mD 3
 have d4:w.cell? ⟨D,4,none⟩=some (.int .i64 RT.fi):=cell_at mD 4
 have d5:w.cell? ⟨D,5,none⟩=some (.int .i64 RT.la):=cell_at mD 5
 have d6:w.cell? ⟨D,6,none⟩=some (.slice ra RL.length rc):=cell_at mD 6
 go_enter Tryz.func82,Tryz.ntmps82
 go_wp2_with fail
 refine(goesOn_val RT RN tr dy ra RL rc _ hl J).mono ?_
 rintro e w1 ⟨rfl,L1⟩
 go_wp2
 go_ret
 exact⟨rfl,L1⟩

set_option maxHeartbeats 1000000 in
theorem clo4_val (x:Pl) (o:Hnd) (RT:Tk.Hd) (RN:ByteArray) (ra:Option Addr) (rn rc:Nat) (P D:Nat) (w:World) (hl:o.ol.length≤1048576) (mP:w.heap[P]? =some (hnB x o 35)) (mD:w.heap[D]? =some (tkB RT RN ra rn rc 72)) (I:In w x o):
 Calls Tryz.prog 84 #[.pointer (some ⟨P,0,none⟩),.pointer (some ⟨D,0,none⟩)] w fun e w'=>e= .returned (.bool (!o.ol.any (isP RT.id)))∧w'=w:=by
 have c7:w.cell? ⟨P,7,none⟩=some (.slice x.a o.ol.length x.c):=cell_at mP 7
 have d0:w.cell? ⟨D,0,none⟩=some (.int .i64 RT.id):=cell_at mD 0
 have HC:=intCon_val RT.id x.a o.ol x.c w hl I.off
 generalize o.ol.any (isP RT.id)=B at*
 go_enter Tryz.func84,Tryz.ntmps84
 go_wp2_with fail
 refine HC.mono ?_
 rintro e w1 ⟨rfl,rfl⟩
 clear HC
 go_wp2
 go_ret
 exact⟨rfl,rfl⟩

set_option maxHeartbeats 1000000 in
theorem clo5_val (x:Pl) (o:Hnd) (RT:Tk.Hd) (RN:ByteArray) (ra:Option Addr) (rn rc:Nat) (tr dy:Int) (P D Q R:Nat) (w:World) (hl:o.sl.length≤1048576) (mP:w.heap[P]? =some (hnB x o 35)) (mD:w.heap[D]? =some (tkB RT RN ra rn rc 72)) (mQ:w.heap[Q]? =some (.cells #[.int .i64 tr] 3)) (mR:w.heap[R]? =some (.cells #[.int .i64 dy] 3)) (I:In w x o):
 Calls Tryz.prog 86 #[.pointer (some ⟨P,0,none⟩),.pointer (some ⟨D,0,none⟩),.pointer (some ⟨Q,0,none⟩),.pointer (some ⟨R,0,none⟩)] w fun e w'=>e= .returned (.bool (!o.sl.any (tkP RT.id tr dy)))∧Below w.heap.size w w':=by
 have c0:w.cell? ⟨P,0,none⟩=some (.int .i64 o.dv):=cell_at mP 0
 have c1:w.cell? ⟨P,1,none⟩=some (.int .i64 o.p):=cell_at mP 1
 have c2:w.cell? ⟨P,2,none⟩=some (.int .i64 o.q):=cell_at mP 2
 have c3:w.cell? ⟨P,3,none⟩=some (.int .i64 o.g):=cell_at mP 3
 have c4:w.cell? ⟨P,4,none⟩=some (.int .i64 o.op):=cell_at mP 4
 have c5:w.cell? ⟨P,5,none⟩=some (.int .i64 o.is):=cell_at mP 5
 have c6:w.cell? ⟨P,6,none⟩=some (.int .i64 o.ve):=cell_at mP 6
 have c7:w.cell? ⟨P,7,none⟩=some (.slice x.a o.ol.length x.c):=cell_at mP 7
 have c8:w.cell? ⟨P,8,none⟩=some (.slice x.b o.sl.length x.d):=cell_at mP 8
 have d0:w.cell? ⟨D,0,none⟩=some (.int .i64 RT.id):=cell_at mD 0
 have e0:w.cell? ⟨Q,0,none⟩=some (.int .i64 tr):=cell_at mQ 0
 have e1:w.cell? ⟨R,0,none⟩=some (.int .i64 dy):=cell_at mR 0
 have HC:=hasTaken_val x o RT.id tr dy w hl I
 generalize o.sl.any (tkP RT.id tr dy)=B at*
 go_enter Tryz.func86,Tryz.ntmps86
 go_wp2_with fail
 refine HC.mono ?_
 rintro e w1 ⟨rfl,L1⟩
 clear HC
 go_wp2
 go_ret
 exact⟨rfl,L1⟩

end Hn
end Go.Proofs.YtdcpjicgehdmfaaGreatDoor

/- Control of the program. -/
namespace Go.Proofs.YtdcpjicgehdmfaaGreatDoor
namespace Hn
open Go.ChangeShapes Go.WideShapes Go.ChangeAt Go.RowKit Go.Joins
open Pk (new_below join_below cell_at heap_new frozen_at lt_of kept heap_old Drawn info_of Room)
open Tk (Lg Legs tkV tkB)
set_option linter.unusedSimpArgs false
set_option linter.unusedVariables false

def saidC (o:Hnd) (C:Nat) (RT:Tk.Hd) (RL:List Lg) (tr dy:Int):Nat:=if C≠0 then 1 else chk o RT RL tr dy
def ctlO (o:Hnd) (C:Nat) (RT:Tk.Hd) (RL:List Lg) (tr dy:Int):Ct:=⟨o.dv,(o.sl.length:Int)+1,RT.id,tr,dy,(saidC o C RT RL tr dy:Nat)⟩

structure Cw (n:Nat) (x:Pl) (o:Hnd) (s:ByteArray) (tr dy:Int) (w wr:World):Prop where
 m0:wr.heap[n]? =some (hnB x o 35)
 m1:wr.heap[n+1]? =some (.cells #[.string s] 9)
 m2:wr.heap[n+1+1]? =some (.cells #[.int .i64 tr] 3)
 m3:wr.heap[n+1+1+1]? =some (.cells #[.int .i64 dy] 3)
 m4:wr.heap[n+1+1+1+1]? =some (.cells #[.int .i64 0,.int .i64 0,.int .i64 0,.int .i64 0,.int .i64 0,.int .i64 0] 77)
 mc:wr.heap[n+1+1+1+1+1+1]? =some (.cells #[.nilFunc,.func (.func 79) #[] #[.pointer (some ⟨n,0,none⟩),.pointer (some ⟨n+1,0,none⟩),.pointer (some ⟨n+1+1+1+1+1,0,none⟩)],.func (.func 81) #[] #[.pointer (some ⟨n+1+1+1,0,none⟩),.pointer (some ⟨n+1+1+1+1+1,0,none⟩)],.func (.func 82) #[] #[.pointer (some ⟨n+1+1+1+1+1,0,none⟩),.pointer (some ⟨n+1+1,0,none⟩),.pointer (some ⟨n+1+1+1,0,none⟩)],.func (.func 84) #[] #[.pointer (some ⟨n,0,none⟩),.pointer (some ⟨n+1+1+1+1+1,0,none⟩)],.func (.func 86) #[] #[.pointer (some ⟨n,0,none⟩),.pointer (some ⟨n+1+1+1+1+1,0,none⟩),.pointer (some ⟨n+1+1,0,none⟩),.pointer (some ⟨n+1+1+1,0,none⟩)]] 111)
 is:In wr x o
 bl:Below n w wr

theorem Cw.on {n:Nat} {x:Pl} {o:Hnd} {s:ByteArray} {tr dy:Int} {w wr w1:World} (h:Cw n x o s tr dy w wr) (L:Below wr.heap.size wr w1):Cw n x o s tr dy w w1:=
 ⟨kept L (lt_of h.m0) h.m0,kept L (lt_of h.m1) h.m1,kept L (lt_of h.m2) h.m2,kept L (lt_of h.m3) h.m3,kept L (lt_of h.m4) h.m4,kept L (lt_of h.mc) h.mc,h.is.on L,h.bl.trans (L.mono (Nat.le_of_lt (lt_of h.m0)))⟩

theorem Cw.brd {n:Nat} {x:Pl} {o:Hnd} {s:ByteArray} {tr dy:Int} {w wr w1:World} (h:Cw n x o s tr dy w wr) (F:Far (n+1+1+1+1+1) (n+1+1+1+1+1+1) x o) (B:Brd (n+1+1+1+1+1) (n+1+1+1+1+1+1) wr w1) (hn:n≤w.heap.size):Cw n x o s tr dy w w1:=
 ⟨(B.block _ (lt_of h.m0) (by omega)).trans h.m0,(B.block _ (lt_of h.m1) (by omega)).trans h.m1,(B.block _ (lt_of h.m2) (by omega)).trans h.m2,(B.block _ (lt_of h.m3) (by omega)).trans h.m3,(B.block _ (lt_of h.m4) (by omega)).trans h.m4,(B.block _ (lt_of h.mc) (by omega)).trans h.mc,h.is.brd B F,B.below h.bl (by omega) hn⟩

def Tf (D:Nat) (k:Nat) (RT:Tk.Hd) (RN:ByteArray) (RL:List Lg) (wr:World):Prop:=(k=1∧wr.heap[D]? =some (tkB ⟨0,0,0,0,0⟩ ⟨#[]⟩ none 0 0 72))∨(1<k∧∃ra rc,wr.heap[D]? =some (tkB RT RN ra RL.length rc 72)∧Legs wr ra RL)

def Cd (o:Hnd) (C:Nat) (RT:Tk.Hd) (RL:List Lg) (tr dy:Int) (k s:Nat):Prop:=
 (s=0∧(1<k→C=0)∧(2<k→inB dy RT.fi RT.la=true)∧(3<k→RL.any (onP tr dy)=true)∧(4<k→o.ol.any (isP RT.id)=false)∧(5<k→o.sl.any (tkP RT.id tr dy)=false))∨(s≠0∧1<k∧s=saidC o C RT RL tr dy)

theorem said_z {o:Hnd} {C:Nat} {RT:Tk.Hd} {RL:List Lg} {tr dy:Int} (h:C=0):saidC o C RT RL tr dy=chk o RT RL tr dy:=by unfold saidC;rw[if_neg (by simpa using h)]
theorem said_n {o:Hnd} {C:Nat} {RT:Tk.Hd} {RL:List Lg} {tr dy:Int} (h:C≠0):saidC o C RT RL tr dy=1:=by unfold saidC;rw[if_pos h]

set_option maxRecDepth 100000 in
set_option maxHeartbeats 8000000 in
theorem control_val (x:Pl) (o:Hnd) (s:ByteArray) {RT:Tk.Hd} {RN:ByteArray} {RL:List Lg} {C:Nat} {wb:World} (HR:∀W:World,Below wb.heap.size wb W→Calls Tryz.prog 80 #[.agg #[.int .i64 o.p,.int .i64 o.q,.int .i64 o.g],.int .i64 o.op,.int .i64 o.is,.string s] W fun e w'=>RdOk RT RN RL C W.heap.size e w'∧Below W.heap.size W w') (hC:C≠0→RT.id=0) (tr dy:Int) (w:World) (KB:Below wb.heap.size wb w) (hz:o.ol.length≤1048576) (hz2:o.sl.length≤1048576) (hz3:RL.length≤1048576) (I:In w x o):
 Calls Tryz.prog 51 #[hnV x o,.string s,.int .i64 tr,.int .i64 dy] w fun e w'=>e= .returned (lgV (ctlO o C RT RL tr dy))∧Below w.heap.size w w':=by
 have hs0:=fun W a m=>run_store Tryz.prog W a .nilFunc m rfl
 have hs1:=fun W a m=>run_store Tryz.prog W a (.func (.func 79) #[] #[.pointer (some ⟨w.heap.size,0,none⟩),.pointer (some ⟨w.heap.size+1,0,none⟩),.pointer (some ⟨w.heap.size+1+1+1+1+1,0,none⟩)]) m rfl
 have hs2:=fun W a m=>run_store Tryz.prog W a (.func (.func 81) #[] #[.pointer (some ⟨w.heap.size+1+1+1,0,none⟩),.pointer (some ⟨w.heap.size+1+1+1+1+1,0,none⟩)]) m rfl
 have hs3:=fun W a m=>run_store Tryz.prog W a (.func (.func 82) #[] #[.pointer (some ⟨w.heap.size+1+1+1+1+1,0,none⟩),.pointer (some ⟨w.heap.size+1+1,0,none⟩),.pointer (some ⟨w.heap.size+1+1+1,0,none⟩)]) m rfl
 have hs4:=fun W a m=>run_store Tryz.prog W a (.func (.func 84) #[] #[.pointer (some ⟨w.heap.size,0,none⟩),.pointer (some ⟨w.heap.size+1+1+1+1+1,0,none⟩)]) m rfl
 have hs5:=fun W a m=>run_store Tryz.prog W a (.func (.func 86) #[] #[.pointer (some ⟨w.heap.size,0,none⟩),.pointer (some ⟨w.heap.size+1+1+1+1+1,0,none⟩),.pointer (some ⟨w.heap.size+1+1,0,none⟩),.pointer (some ⟨w.heap.size+1+1+1,0,none⟩)]) m rfl
 have e1:(w.alloc (hnB x o 35)).heap.size=w.heap.size+1:=Array.size_push ..
 have e2:((w.alloc (hnB x o 35)).alloc (.cells #[.string s] 9)).heap.size=w.heap.size+1+1:=(Array.size_push ..).trans (congrArg (· +1) e1)
 have e3:(((w.alloc (hnB x o 35)).alloc (.cells #[.string s] 9)).alloc (.cells #[.int .i64 tr] 3)).heap.size=w.heap.size+1+1+1:=(Array.size_push ..).trans (congrArg (· +1) e2)
 have e4:((((w.alloc (hnB x o 35)).alloc (.cells #[.string s] 9)).alloc (.cells #[.int .i64 tr] 3)).alloc (.cells #[.int .i64 dy] 3)).heap.size=w.heap.size+1+1+1+1:=(Array.size_push ..).trans (congrArg (· +1) e3)
 have e5:(((((w.alloc (hnB x o 35)).alloc (.cells #[.string s] 9)).alloc (.cells #[.int .i64 tr] 3)).alloc (.cells #[.int .i64 dy] 3)).alloc (.cells #[.int .i64 0,.int .i64 0,.int .i64 0,.int .i64 0,.int .i64 0,.int .i64 0] 77)).heap.size=w.heap.size+1+1+1+1+1:=(Array.size_push ..).trans (congrArg (· +1) e4)
 have e6:((((((w.alloc (hnB x o 35)).alloc (.cells #[.string s] 9)).alloc (.cells #[.int .i64 tr] 3)).alloc (.cells #[.int .i64 dy] 3)).alloc (.cells #[.int .i64 0,.int .i64 0,.int .i64 0,.int .i64 0,.int .i64 0,.int .i64 0] 77)).alloc (tkB ⟨0,0,0,0,0⟩ ⟨#[]⟩ none 0 0 72)).heap.size=w.heap.size+1+1+1+1+1+1:=(Array.size_push ..).trans (congrArg (· +1) e5)
 have e7:(((((((w.alloc (hnB x o 35)).alloc (.cells #[.string s] 9)).alloc (.cells #[.int .i64 tr] 3)).alloc (.cells #[.int .i64 dy] 3)).alloc (.cells #[.int .i64 0,.int .i64 0,.int .i64 0,.int .i64 0,.int .i64 0,.int .i64 0] 77)).alloc (tkB ⟨0,0,0,0,0⟩ ⟨#[]⟩ none 0 0 72)).alloc (.cells #[.nilFunc,.func (.func 79) #[] #[.pointer (some ⟨w.heap.size,0,none⟩),.pointer (some ⟨w.heap.size+1,0,none⟩),.pointer (some ⟨w.heap.size+1+1+1+1+1,0,none⟩)],.func (.func 81) #[] #[.pointer (some ⟨w.heap.size+1+1+1,0,none⟩),.pointer (some ⟨w.heap.size+1+1+1+1+1,0,none⟩)],.func (.func 82) #[] #[.pointer (some ⟨w.heap.size+1+1+1+1+1,0,none⟩),.pointer (some ⟨w.heap.size+1+1,0,none⟩),.pointer (some ⟨w.heap.size+1+1+1,0,none⟩)],.func (.func 84) #[] #[.pointer (some ⟨w.heap.size,0,none⟩),.pointer (some ⟨w.heap.size+1+1+1+1+1,0,none⟩)],.func (.func 86) #[] #[.pointer (some ⟨w.heap.size,0,none⟩),.pointer (some ⟨w.heap.size+1+1+1+1+1,0,none⟩),.pointer (some ⟨w.heap.size+1+1,0,none⟩),.pointer (some ⟨w.heap.size+1+1+1,0,none⟩)]] 111)).heap.size=w.heap.size+1+1+1+1+1+1+1:=(Array.size_push ..).trans (congrArg (· +1) e6)
 have L:Below w.heap.size w (((((((w.alloc (hnB x o 35)).alloc (.cells #[.string s] 9)).alloc (.cells #[.int .i64 tr] 3)).alloc (.cells #[.int .i64 dy] 3)).alloc (.cells #[.int .i64 0,.int .i64 0,.int .i64 0,.int .i64 0,.int .i64 0,.int .i64 0] 77)).alloc (tkB ⟨0,0,0,0,0⟩ ⟨#[]⟩ none 0 0 72)).alloc (.cells #[.nilFunc,.func (.func 79) #[] #[.pointer (some ⟨w.heap.size,0,none⟩),.pointer (some ⟨w.heap.size+1,0,none⟩),.pointer (some ⟨w.heap.size+1+1+1+1+1,0,none⟩)],.func (.func 81) #[] #[.pointer (some ⟨w.heap.size+1+1+1,0,none⟩),.pointer (some ⟨w.heap.size+1+1+1+1+1,0,none⟩)],.func (.func 82) #[] #[.pointer (some ⟨w.heap.size+1+1+1+1+1,0,none⟩),.pointer (some ⟨w.heap.size+1+1,0,none⟩),.pointer (some ⟨w.heap.size+1+1+1,0,none⟩)],.func (.func 84) #[] #[.pointer (some ⟨w.heap.size,0,none⟩),.pointer (some ⟨w.heap.size+1+1+1+1+1,0,none⟩)],.func (.func 86) #[] #[.pointer (some ⟨w.heap.size,0,none⟩),.pointer (some ⟨w.heap.size+1+1+1+1+1,0,none⟩),.pointer (some ⟨w.heap.size+1+1,0,none⟩),.pointer (some ⟨w.heap.size+1+1+1,0,none⟩)]] 111)):=join_below (join_below (join_below (join_below (join_below (join_below (new_below _ _) (new_below _ _)) (new_below _ _)) (new_below _ _)) (new_below _ _)) (new_below _ _)) (new_below _ _)
 have FR:Far (w.heap.size+1+1+1+1+1) (w.heap.size+1+1+1+1+1+1) x o:=Far.of I (by omega)
 have q0:=(heap_old (heap_old (heap_old (heap_old (heap_old (heap_old (heap_new w (hnB x o 35)) (.cells #[.string s] 9)) (.cells #[.int .i64 tr] 3)) (.cells #[.int .i64 dy] 3)) (.cells #[.int .i64 0,.int .i64 0,.int .i64 0,.int .i64 0,.int .i64 0,.int .i64 0] 77)) (tkB ⟨0,0,0,0,0⟩ ⟨#[]⟩ none 0 0 72)) (.cells #[.nilFunc,.func (.func 79) #[] #[.pointer (some ⟨w.heap.size,0,none⟩),.pointer (some ⟨w.heap.size+1,0,none⟩),.pointer (some ⟨w.heap.size+1+1+1+1+1,0,none⟩)],.func (.func 81) #[] #[.pointer (some ⟨w.heap.size+1+1+1,0,none⟩),.pointer (some ⟨w.heap.size+1+1+1+1+1,0,none⟩)],.func (.func 82) #[] #[.pointer (some ⟨w.heap.size+1+1+1+1+1,0,none⟩),.pointer (some ⟨w.heap.size+1+1,0,none⟩),.pointer (some ⟨w.heap.size+1+1+1,0,none⟩)],.func (.func 84) #[] #[.pointer (some ⟨w.heap.size,0,none⟩),.pointer (some ⟨w.heap.size+1+1+1+1+1,0,none⟩)],.func (.func 86) #[] #[.pointer (some ⟨w.heap.size,0,none⟩),.pointer (some ⟨w.heap.size+1+1+1+1+1,0,none⟩),.pointer (some ⟨w.heap.size+1+1,0,none⟩),.pointer (some ⟨w.heap.size+1+1+1,0,none⟩)]] 111))
 have q1:=(heap_old (heap_old (heap_old (heap_old (heap_old (heap_new (w.alloc (hnB x o 35)) (.cells #[.string s] 9)) (.cells #[.int .i64 tr] 3)) (.cells #[.int .i64 dy] 3)) (.cells #[.int .i64 0,.int .i64 0,.int .i64 0,.int .i64 0,.int .i64 0,.int .i64 0] 77)) (tkB ⟨0,0,0,0,0⟩ ⟨#[]⟩ none 0 0 72)) (.cells #[.nilFunc,.func (.func 79) #[] #[.pointer (some ⟨w.heap.size,0,none⟩),.pointer (some ⟨w.heap.size+1,0,none⟩),.pointer (some ⟨w.heap.size+1+1+1+1+1,0,none⟩)],.func (.func 81) #[] #[.pointer (some ⟨w.heap.size+1+1+1,0,none⟩),.pointer (some ⟨w.heap.size+1+1+1+1+1,0,none⟩)],.func (.func 82) #[] #[.pointer (some ⟨w.heap.size+1+1+1+1+1,0,none⟩),.pointer (some ⟨w.heap.size+1+1,0,none⟩),.pointer (some ⟨w.heap.size+1+1+1,0,none⟩)],.func (.func 84) #[] #[.pointer (some ⟨w.heap.size,0,none⟩),.pointer (some ⟨w.heap.size+1+1+1+1+1,0,none⟩)],.func (.func 86) #[] #[.pointer (some ⟨w.heap.size,0,none⟩),.pointer (some ⟨w.heap.size+1+1+1+1+1,0,none⟩),.pointer (some ⟨w.heap.size+1+1,0,none⟩),.pointer (some ⟨w.heap.size+1+1+1,0,none⟩)]] 111))
 rw[e1]at q1
 have q2:=(heap_old (heap_old (heap_old (heap_old (heap_new ((w.alloc (hnB x o 35)).alloc (.cells #[.string s] 9)) (.cells #[.int .i64 tr] 3)) (.cells #[.int .i64 dy] 3)) (.cells #[.int .i64 0,.int .i64 0,.int .i64 0,.int .i64 0,.int .i64 0,.int .i64 0] 77)) (tkB ⟨0,0,0,0,0⟩ ⟨#[]⟩ none 0 0 72)) (.cells #[.nilFunc,.func (.func 79) #[] #[.pointer (some ⟨w.heap.size,0,none⟩),.pointer (some ⟨w.heap.size+1,0,none⟩),.pointer (some ⟨w.heap.size+1+1+1+1+1,0,none⟩)],.func (.func 81) #[] #[.pointer (some ⟨w.heap.size+1+1+1,0,none⟩),.pointer (some ⟨w.heap.size+1+1+1+1+1,0,none⟩)],.func (.func 82) #[] #[.pointer (some ⟨w.heap.size+1+1+1+1+1,0,none⟩),.pointer (some ⟨w.heap.size+1+1,0,none⟩),.pointer (some ⟨w.heap.size+1+1+1,0,none⟩)],.func (.func 84) #[] #[.pointer (some ⟨w.heap.size,0,none⟩),.pointer (some ⟨w.heap.size+1+1+1+1+1,0,none⟩)],.func (.func 86) #[] #[.pointer (some ⟨w.heap.size,0,none⟩),.pointer (some ⟨w.heap.size+1+1+1+1+1,0,none⟩),.pointer (some ⟨w.heap.size+1+1,0,none⟩),.pointer (some ⟨w.heap.size+1+1+1,0,none⟩)]] 111))
 rw[e2]at q2
 have q3:=(heap_old (heap_old (heap_old (heap_new (((w.alloc (hnB x o 35)).alloc (.cells #[.string s] 9)).alloc (.cells #[.int .i64 tr] 3)) (.cells #[.int .i64 dy] 3)) (.cells #[.int .i64 0,.int .i64 0,.int .i64 0,.int .i64 0,.int .i64 0,.int .i64 0] 77)) (tkB ⟨0,0,0,0,0⟩ ⟨#[]⟩ none 0 0 72)) (.cells #[.nilFunc,.func (.func 79) #[] #[.pointer (some ⟨w.heap.size,0,none⟩),.pointer (some ⟨w.heap.size+1,0,none⟩),.pointer (some ⟨w.heap.size+1+1+1+1+1,0,none⟩)],.func (.func 81) #[] #[.pointer (some ⟨w.heap.size+1+1+1,0,none⟩),.pointer (some ⟨w.heap.size+1+1+1+1+1,0,none⟩)],.func (.func 82) #[] #[.pointer (some ⟨w.heap.size+1+1+1+1+1,0,none⟩),.pointer (some ⟨w.heap.size+1+1,0,none⟩),.pointer (some ⟨w.heap.size+1+1+1,0,none⟩)],.func (.func 84) #[] #[.pointer (some ⟨w.heap.size,0,none⟩),.pointer (some ⟨w.heap.size+1+1+1+1+1,0,none⟩)],.func (.func 86) #[] #[.pointer (some ⟨w.heap.size,0,none⟩),.pointer (some ⟨w.heap.size+1+1+1+1+1,0,none⟩),.pointer (some ⟨w.heap.size+1+1,0,none⟩),.pointer (some ⟨w.heap.size+1+1+1,0,none⟩)]] 111))
 rw[e3]at q3
 have q4:=(heap_old (heap_old (heap_new ((((w.alloc (hnB x o 35)).alloc (.cells #[.string s] 9)).alloc (.cells #[.int .i64 tr] 3)).alloc (.cells #[.int .i64 dy] 3)) (.cells #[.int .i64 0,.int .i64 0,.int .i64 0,.int .i64 0,.int .i64 0,.int .i64 0] 77)) (tkB ⟨0,0,0,0,0⟩ ⟨#[]⟩ none 0 0 72)) (.cells #[.nilFunc,.func (.func 79) #[] #[.pointer (some ⟨w.heap.size,0,none⟩),.pointer (some ⟨w.heap.size+1,0,none⟩),.pointer (some ⟨w.heap.size+1+1+1+1+1,0,none⟩)],.func (.func 81) #[] #[.pointer (some ⟨w.heap.size+1+1+1,0,none⟩),.pointer (some ⟨w.heap.size+1+1+1+1+1,0,none⟩)],.func (.func 82) #[] #[.pointer (some ⟨w.heap.size+1+1+1+1+1,0,none⟩),.pointer (some ⟨w.heap.size+1+1,0,none⟩),.pointer (some ⟨w.heap.size+1+1+1,0,none⟩)],.func (.func 84) #[] #[.pointer (some ⟨w.heap.size,0,none⟩),.pointer (some ⟨w.heap.size+1+1+1+1+1,0,none⟩)],.func (.func 86) #[] #[.pointer (some ⟨w.heap.size,0,none⟩),.pointer (some ⟨w.heap.size+1+1+1+1+1,0,none⟩),.pointer (some ⟨w.heap.size+1+1,0,none⟩),.pointer (some ⟨w.heap.size+1+1+1,0,none⟩)]] 111))
 rw[e4]at q4
 have q5:=(heap_old (heap_new (((((w.alloc (hnB x o 35)).alloc (.cells #[.string s] 9)).alloc (.cells #[.int .i64 tr] 3)).alloc (.cells #[.int .i64 dy] 3)).alloc (.cells #[.int .i64 0,.int .i64 0,.int .i64 0,.int .i64 0,.int .i64 0,.int .i64 0] 77)) (tkB ⟨0,0,0,0,0⟩ ⟨#[]⟩ none 0 0 72)) (.cells #[.nilFunc,.func (.func 79) #[] #[.pointer (some ⟨w.heap.size,0,none⟩),.pointer (some ⟨w.heap.size+1,0,none⟩),.pointer (some ⟨w.heap.size+1+1+1+1+1,0,none⟩)],.func (.func 81) #[] #[.pointer (some ⟨w.heap.size+1+1+1,0,none⟩),.pointer (some ⟨w.heap.size+1+1+1+1+1,0,none⟩)],.func (.func 82) #[] #[.pointer (some ⟨w.heap.size+1+1+1+1+1,0,none⟩),.pointer (some ⟨w.heap.size+1+1,0,none⟩),.pointer (some ⟨w.heap.size+1+1+1,0,none⟩)],.func (.func 84) #[] #[.pointer (some ⟨w.heap.size,0,none⟩),.pointer (some ⟨w.heap.size+1+1+1+1+1,0,none⟩)],.func (.func 86) #[] #[.pointer (some ⟨w.heap.size,0,none⟩),.pointer (some ⟨w.heap.size+1+1+1+1+1,0,none⟩),.pointer (some ⟨w.heap.size+1+1,0,none⟩),.pointer (some ⟨w.heap.size+1+1+1,0,none⟩)]] 111))
 rw[e5]at q5
 have q6:=(heap_new ((((((w.alloc (hnB x o 35)).alloc (.cells #[.string s] 9)).alloc (.cells #[.int .i64 tr] 3)).alloc (.cells #[.int .i64 dy] 3)).alloc (.cells #[.int .i64 0,.int .i64 0,.int .i64 0,.int .i64 0,.int .i64 0,.int .i64 0] 77)).alloc (tkB ⟨0,0,0,0,0⟩ ⟨#[]⟩ none 0 0 72)) (.cells #[.nilFunc,.func (.func 79) #[] #[.pointer (some ⟨w.heap.size,0,none⟩),.pointer (some ⟨w.heap.size+1,0,none⟩),.pointer (some ⟨w.heap.size+1+1+1+1+1,0,none⟩)],.func (.func 81) #[] #[.pointer (some ⟨w.heap.size+1+1+1,0,none⟩),.pointer (some ⟨w.heap.size+1+1+1+1+1,0,none⟩)],.func (.func 82) #[] #[.pointer (some ⟨w.heap.size+1+1+1+1+1,0,none⟩),.pointer (some ⟨w.heap.size+1+1,0,none⟩),.pointer (some ⟨w.heap.size+1+1+1,0,none⟩)],.func (.func 84) #[] #[.pointer (some ⟨w.heap.size,0,none⟩),.pointer (some ⟨w.heap.size+1+1+1+1+1,0,none⟩)],.func (.func 86) #[] #[.pointer (some ⟨w.heap.size,0,none⟩),.pointer (some ⟨w.heap.size+1+1+1+1+1,0,none⟩),.pointer (some ⟨w.heap.size+1+1,0,none⟩),.pointer (some ⟨w.heap.size+1+1+1,0,none⟩)]] 111))
 rw[e6]at q6
 have CW0:Hid (Cw w.heap.size x o s tr dy w (((((((w.alloc (hnB x o 35)).alloc (.cells #[.string s] 9)).alloc (.cells #[.int .i64 tr] 3)).alloc (.cells #[.int .i64 dy] 3)).alloc (.cells #[.int .i64 0,.int .i64 0,.int .i64 0,.int .i64 0,.int .i64 0,.int .i64 0] 77)).alloc (tkB ⟨0,0,0,0,0⟩ ⟨#[]⟩ none 0 0 72)).alloc (.cells #[.nilFunc,.func (.func 79) #[] #[.pointer (some ⟨w.heap.size,0,none⟩),.pointer (some ⟨w.heap.size+1,0,none⟩),.pointer (some ⟨w.heap.size+1+1+1+1+1,0,none⟩)],.func (.func 81) #[] #[.pointer (some ⟨w.heap.size+1+1+1,0,none⟩),.pointer (some ⟨w.heap.size+1+1+1+1+1,0,none⟩)],.func (.func 82) #[] #[.pointer (some ⟨w.heap.size+1+1+1+1+1,0,none⟩),.pointer (some ⟨w.heap.size+1+1,0,none⟩),.pointer (some ⟨w.heap.size+1+1+1,0,none⟩)],.func (.func 84) #[] #[.pointer (some ⟨w.heap.size,0,none⟩),.pointer (some ⟨w.heap.size+1+1+1+1+1,0,none⟩)],.func (.func 86) #[] #[.pointer (some ⟨w.heap.size,0,none⟩),.pointer (some ⟨w.heap.size+1+1+1+1+1,0,none⟩),.pointer (some ⟨w.heap.size+1+1,0,none⟩),.pointer (some ⟨w.heap.size+1+1+1,0,none⟩)]] 111))):=⟨q0,q1,q2,q3,q4,q6,I.on L,L⟩
 have TF0:Hid (Tf (w.heap.size+1+1+1+1+1) 1 RT RN RL (((((((w.alloc (hnB x o 35)).alloc (.cells #[.string s] 9)).alloc (.cells #[.int .i64 tr] 3)).alloc (.cells #[.int .i64 dy] 3)).alloc (.cells #[.int .i64 0,.int .i64 0,.int .i64 0,.int .i64 0,.int .i64 0,.int .i64 0] 77)).alloc (tkB ⟨0,0,0,0,0⟩ ⟨#[]⟩ none 0 0 72)).alloc (.cells #[.nilFunc,.func (.func 79) #[] #[.pointer (some ⟨w.heap.size,0,none⟩),.pointer (some ⟨w.heap.size+1,0,none⟩),.pointer (some ⟨w.heap.size+1+1+1+1+1,0,none⟩)],.func (.func 81) #[] #[.pointer (some ⟨w.heap.size+1+1+1,0,none⟩),.pointer (some ⟨w.heap.size+1+1+1+1+1,0,none⟩)],.func (.func 82) #[] #[.pointer (some ⟨w.heap.size+1+1+1+1+1,0,none⟩),.pointer (some ⟨w.heap.size+1+1,0,none⟩),.pointer (some ⟨w.heap.size+1+1+1,0,none⟩)],.func (.func 84) #[] #[.pointer (some ⟨w.heap.size,0,none⟩),.pointer (some ⟨w.heap.size+1+1+1+1+1,0,none⟩)],.func (.func 86) #[] #[.pointer (some ⟨w.heap.size,0,none⟩),.pointer (some ⟨w.heap.size+1+1+1+1+1,0,none⟩),.pointer (some ⟨w.heap.size+1+1,0,none⟩),.pointer (some ⟨w.heap.size+1+1+1,0,none⟩)]] 111))):=Or.inl ⟨rfl,q5⟩
 have CD0:Hid (Cd o C RT RL tr dy 1 0):=Or.inl ⟨rfl,fun h=>by omega,fun h=>by omega,fun h=>by omega,fun h=>by omega,fun h=>by omega⟩
 clear q0 q1 q2 q3 q4 q5 q6 L e1 e2 e3 e4 e5 e6 e7
 go_enter Tryz.func51,Tryz.ntmps51
 go_wp2
 go_loopw [11,12] (fun sv i wr=>∃k t:Nat,1≤k∧k≤6∧i= .int .i64 k∧sv= .int .i64 t∧Hid (Cw w.heap.size x o s tr dy w wr)∧Hid (Tf (w.heap.size+1+1+1+1+1) k RT RN RL wr)∧Hid (Cd o C RT RL tr dy k t)) (fun _ i _=>6-(intOf i).toNat)
 case atStart=>exact⟨1,0,by omega,by omega,rfl,rfl,CW0,TF0,CD0⟩
 case round=>
  obtain⟨k,t,hk1,hk6,rfl,rfl,CW,TF,CD⟩:=hrel
  have HKB:Hid (Below wb.heap.size wb wr):=KB.trans (CW.out.bl.mono KB.size)
  by_cases h0:t=0∧k<6
  ·obtain⟨rfl,hk⟩:=h0
   have HC0:Hid ((1<k→C=0)∧(2<k→inB dy RT.fi RT.la=true)∧(3<k→RL.any (onP tr dy)=true)∧(4<k→o.ol.any (isP RT.id)=false)∧(5<k→o.sl.any (tkP RT.id tr dy)=false)):=by
    rcases CD.out with h|h
    ·exact h.2
    ·exact absurd rfl h.1
   clear CD
   have h5:k=1∨k=2∨k=3∨k=4∨k=5:=by omega
   rcases h5 with rfl|rfl|rfl|rfl|rfl
   ·have c1:wr.cell? ⟨w.heap.size+1+1+1+1+1+1,1,none⟩=some (.func (.func 79) #[] #[.pointer (some ⟨w.heap.size,0,none⟩),.pointer (some ⟨w.heap.size+1,0,none⟩),.pointer (some ⟨w.heap.size+1+1+1+1+1,0,none⟩)]):=cell_at CW.out.mc 1
    have mD:wr.heap[w.heap.size+1+1+1+1+1]? =some (tkB ⟨0,0,0,0,0⟩ ⟨#[]⟩ none 0 0 72):=by
     rcases TF.out with h|h
     ·exact h.2
     ·exact absurd h.1 (by omega)
    have HCL:Hid (∀_:Unit,_):=fun _=>clo1_val x o s HR (w.heap.size) (w.heap.size+1) (w.heap.size+1+1+1+1+1) wr HKB.out CW.out.m0 CW.out.m1 mD
    clear TF
    go_wp2_with fail
    refine(HCL.out ()).mono ?_
    rintro e w1 ⟨ra,rc,rfl,mE,J1,B1⟩
    have CW1:Hid (Cw w.heap.size x o s tr dy w w1):=CW.out.brd FR B1 (Nat.le_refl _)
    have TF1:Hid (Tf (w.heap.size+1+1+1+1+1) (1+1) RT RN RL w1):=Or.inr ⟨by omega,ra,rc,mE,J1⟩
    clear mE J1 B1 CW HCL c1 mD
    by_cases hy:C=0
    ·have b1:((C:Int)==0)=true:=by simpa using hy
     have CD1:Hid (Cd o C RT RL tr dy (1+1) 0):=Or.inl ⟨rfl,fun _=>hy,fun h=>by omega,fun h=>by omega,fun h=>by omega,fun h=>by omega⟩
     clear hy
     go_wp2
     go_roundw
     case rel=>exact⟨1+1,0,by omega,by omega,by go_num,rfl,CW1,TF1,CD1⟩
     case measure=>simp[intOf]
    ·have hn:C≠0:=hy
     have b1:((C:Int)==0)=false:=by simpa using hy
     have CD1:Hid (Cd o C RT RL tr dy (1+1) 1):=Or.inr ⟨by omega,by omega,(said_n hn).symm⟩
     clear hy hn
     go_wp2
     go_roundw
     case rel=>exact⟨1+1,1,by omega,by omega,by go_num,rfl,CW1,TF1,CD1⟩
     case measure=>simp[intOf]
   ·have c2:wr.cell? ⟨w.heap.size+1+1+1+1+1+1,2,none⟩=some (.func (.func 81) #[] #[.pointer (some ⟨w.heap.size+1+1+1,0,none⟩),.pointer (some ⟨w.heap.size+1+1+1+1+1,0,none⟩)]):=cell_at CW.out.mc 2
    obtain⟨ra,rc,mD,J0⟩:∃ra rc,wr.heap[w.heap.size+1+1+1+1+1]? =some (tkB RT RN ra RL.length rc 72)∧Legs wr ra RL:=by
     rcases TF.out with h|h
     ·exact absurd h.1 (by omega)
     ·exact h.2
    have HCL:Hid (∀_:Unit,_):=fun _=>clo2_val RT RN ra RL.length rc dy (w.heap.size+1+1+1) (w.heap.size+1+1+1+1+1) wr CW.out.m3 mD
    cases hv:inB dy RT.fi RT.la
    ·rw[hv]at HCL
     have CD1:Hid (Cd o C RT RL tr dy (2+1) 2):=Or.inr ⟨by omega,by omega,by rw[said_z (HC0.out.1 (by omega)),chk_2 hv]⟩
     clear hv
     go_wp2_with fail
     refine(HCL.out ()).mono ?_
     rintro e w1 ⟨rfl,rfl⟩
     have CW1:=CW
     have TF1:Hid (Tf (w.heap.size+1+1+1+1+1) (2+1) RT RN RL w1):=Or.inr ⟨by omega,ra,rc,mD,J0⟩
     clear mD J0 HCL TF HC0 c2
     go_wp2
     go_roundw
     case rel=>exact⟨2+1,2,by omega,by omega,by go_num,rfl,CW1,TF1,CD1⟩
     case measure=>simp[intOf]
    ·rw[hv]at HCL
     have CD1:Hid (Cd o C RT RL tr dy (2+1) 0):=Or.inl ⟨rfl,fun _=>HC0.out.1 (by omega),fun _=>hv,fun h=>by omega,fun h=>by omega,fun h=>by omega⟩
     clear hv
     go_wp2_with fail
     refine(HCL.out ()).mono ?_
     rintro e w1 ⟨rfl,rfl⟩
     have CW1:=CW
     have TF1:Hid (Tf (w.heap.size+1+1+1+1+1) (2+1) RT RN RL w1):=Or.inr ⟨by omega,ra,rc,mD,J0⟩
     clear mD J0 HCL TF HC0 c2
     go_wp2
     go_roundw
     case rel=>exact⟨2+1,0,by omega,by omega,by go_num,rfl,CW1,TF1,CD1⟩
     case measure=>simp[intOf]
   ·have c3:wr.cell? ⟨w.heap.size+1+1+1+1+1+1,3,none⟩=some (.func (.func 82) #[] #[.pointer (some ⟨w.heap.size+1+1+1+1+1,0,none⟩),.pointer (some ⟨w.heap.size+1+1,0,none⟩),.pointer (some ⟨w.heap.size+1+1+1,0,none⟩)]):=cell_at CW.out.mc 3
    obtain⟨ra,rc,mD,J0⟩:∃ra rc,wr.heap[w.heap.size+1+1+1+1+1]? =some (tkB RT RN ra RL.length rc 72)∧Legs wr ra RL:=by
     rcases TF.out with h|h
     ·exact absurd h.1 (by omega)
     ·exact h.2
    have HCL:Hid (∀_:Unit,_):=fun _=>clo3_val RT RN ra RL rc tr dy (w.heap.size+1+1+1+1+1) (w.heap.size+1+1) (w.heap.size+1+1+1) wr hz3 mD CW.out.m2 CW.out.m3 J0
    cases hv:RL.any (onP tr dy)
    ·rw[hv]at HCL
     have CD1:Hid (Cd o C RT RL tr dy (3+1) 3):=Or.inr ⟨by omega,by omega,by rw[said_z (HC0.out.1 (by omega)),chk_3 (HC0.out.2.1 (by omega)) hv]⟩
     clear hv
     go_wp2_with fail
     refine(HCL.out ()).mono ?_
     rintro e w1 ⟨rfl,L1⟩
     have CW1:Hid (Cw w.heap.size x o s tr dy w w1):=CW.out.on L1
     have TF1:Hid (Tf (w.heap.size+1+1+1+1+1) (3+1) RT RN RL w1):=Or.inr ⟨by omega,ra,rc,kept L1 (lt_of mD) mD,J0.on L1⟩
     clear mD J0 HCL TF HC0 c3
     go_wp2
     go_roundw
     case rel=>exact⟨3+1,3,by omega,by omega,by go_num,rfl,CW1,TF1,CD1⟩
     case measure=>simp[intOf]
    ·rw[hv]at HCL
     have CD1:Hid (Cd o C RT RL tr dy (3+1) 0):=Or.inl ⟨rfl,fun _=>HC0.out.1 (by omega),fun _=>HC0.out.2.1 (by omega),fun _=>hv,fun h=>by omega,fun h=>by omega⟩
     clear hv
     go_wp2_with fail
     refine(HCL.out ()).mono ?_
     rintro e w1 ⟨rfl,L1⟩
     have CW1:Hid (Cw w.heap.size x o s tr dy w w1):=CW.out.on L1
     have TF1:Hid (Tf (w.heap.size+1+1+1+1+1) (3+1) RT RN RL w1):=Or.inr ⟨by omega,ra,rc,kept L1 (lt_of mD) mD,J0.on L1⟩
     clear mD J0 HCL TF HC0 c3
     go_wp2
     go_roundw
     case rel=>exact⟨3+1,0,by omega,by omega,by go_num,rfl,CW1,TF1,CD1⟩
     case measure=>simp[intOf]
   ·have c4:wr.cell? ⟨w.heap.size+1+1+1+1+1+1,4,none⟩=some (.func (.func 84) #[] #[.pointer (some ⟨w.heap.size,0,none⟩),.pointer (some ⟨w.heap.size+1+1+1+1+1,0,none⟩)]):=cell_at CW.out.mc 4
    obtain⟨ra,rc,mD,J0⟩:∃ra rc,wr.heap[w.heap.size+1+1+1+1+1]? =some (tkB RT RN ra RL.length rc 72)∧Legs wr ra RL:=by
     rcases TF.out with h|h
     ·exact absurd h.1 (by omega)
     ·exact h.2
    have HCL:Hid (∀_:Unit,_):=fun _=>clo4_val x o RT RN ra RL.length rc (w.heap.size) (w.heap.size+1+1+1+1+1) wr hz CW.out.m0 mD CW.out.is
    cases hv:o.ol.any (isP RT.id)
    ·rw[hv]at HCL
     have CD1:Hid (Cd o C RT RL tr dy (4+1) 0):=Or.inl ⟨rfl,fun _=>HC0.out.1 (by omega),fun _=>HC0.out.2.1 (by omega),fun _=>HC0.out.2.2.1 (by omega),fun _=>hv,fun h=>by omega⟩
     clear hv
     go_wp2_with fail
     refine(HCL.out ()).mono ?_
     rintro e w1 ⟨rfl,rfl⟩
     have CW1:=CW
     have TF1:Hid (Tf (w.heap.size+1+1+1+1+1) (4+1) RT RN RL w1):=Or.inr ⟨by omega,ra,rc,mD,J0⟩
     clear mD J0 HCL TF HC0 c4
     go_wp2
     go_roundw
     case rel=>exact⟨4+1,0,by omega,by omega,by go_num,rfl,CW1,TF1,CD1⟩
     case measure=>simp[intOf]
    ·rw[hv]at HCL
     have CD1:Hid (Cd o C RT RL tr dy (4+1) 4):=Or.inr ⟨by omega,by omega,by rw[said_z (HC0.out.1 (by omega)),chk_4 (HC0.out.2.1 (by omega)) (HC0.out.2.2.1 (by omega)) hv]⟩
     clear hv
     go_wp2_with fail
     refine(HCL.out ()).mono ?_
     rintro e w1 ⟨rfl,rfl⟩
     have CW1:=CW
     have TF1:Hid (Tf (w.heap.size+1+1+1+1+1) (4+1) RT RN RL w1):=Or.inr ⟨by omega,ra,rc,mD,J0⟩
     clear mD J0 HCL TF HC0 c4
     go_wp2
     go_roundw
     case rel=>exact⟨4+1,4,by omega,by omega,by go_num,rfl,CW1,TF1,CD1⟩
     case measure=>simp[intOf]
   ·have c5:wr.cell? ⟨w.heap.size+1+1+1+1+1+1,5,none⟩=some (.func (.func 86) #[] #[.pointer (some ⟨w.heap.size,0,none⟩),.pointer (some ⟨w.heap.size+1+1+1+1+1,0,none⟩),.pointer (some ⟨w.heap.size+1+1,0,none⟩),.pointer (some ⟨w.heap.size+1+1+1,0,none⟩)]):=cell_at CW.out.mc 5
    obtain⟨ra,rc,mD,J0⟩:∃ra rc,wr.heap[w.heap.size+1+1+1+1+1]? =some (tkB RT RN ra RL.length rc 72)∧Legs wr ra RL:=by
     rcases TF.out with h|h
     ·exact absurd h.1 (by omega)
     ·exact h.2
    have HCL:Hid (∀_:Unit,_):=fun _=>clo5_val x o RT RN ra RL.length rc tr dy (w.heap.size) (w.heap.size+1+1+1+1+1) (w.heap.size+1+1) (w.heap.size+1+1+1) wr hz2 CW.out.m0 mD CW.out.m2 CW.out.m3 CW.out.is
    cases hv:o.sl.any (tkP RT.id tr dy)
    ·rw[hv]at HCL
     have CD1:Hid (Cd o C RT RL tr dy (5+1) 0):=Or.inl ⟨rfl,fun _=>HC0.out.1 (by omega),fun _=>HC0.out.2.1 (by omega),fun _=>HC0.out.2.2.1 (by omega),fun _=>HC0.out.2.2.2.1 (by omega),fun _=>hv⟩
     clear hv
     go_wp2_with fail
     refine(HCL.out ()).mono ?_
     rintro e w1 ⟨rfl,L1⟩
     have CW1:Hid (Cw w.heap.size x o s tr dy w w1):=CW.out.on L1
     have TF1:Hid (Tf (w.heap.size+1+1+1+1+1) (5+1) RT RN RL w1):=Or.inr ⟨by omega,ra,rc,kept L1 (lt_of mD) mD,J0.on L1⟩
     clear mD J0 HCL TF HC0 c5
     go_wp2
     go_roundw
     case rel=>exact⟨5+1,0,by omega,by omega,by go_num,rfl,CW1,TF1,CD1⟩
     case measure=>simp[intOf]
    ·rw[hv]at HCL
     have CD1:Hid (Cd o C RT RL tr dy (5+1) 5):=Or.inr ⟨by omega,by omega,by rw[said_z (HC0.out.1 (by omega)),chk_5 (HC0.out.2.1 (by omega)) (HC0.out.2.2.1 (by omega)) (HC0.out.2.2.2.1 (by omega)) hv]⟩
     clear hv
     go_wp2_with fail
     refine(HCL.out ()).mono ?_
     rintro e w1 ⟨rfl,L1⟩
     have CW1:Hid (Cw w.heap.size x o s tr dy w w1):=CW.out.on L1
     have TF1:Hid (Tf (w.heap.size+1+1+1+1+1) (5+1) RT RN RL w1):=Or.inr ⟨by omega,ra,rc,kept L1 (lt_of mD) mD,J0.on L1⟩
     clear mD J0 HCL TF HC0 c5
     go_wp2
     go_roundw
     case rel=>exact⟨5+1,5,by omega,by omega,by go_num,rfl,CW1,TF1,CD1⟩
     case measure=>simp[intOf]
  ·have HFS:Hid (t=saidC o C RT RL tr dy∧1<k):=by
    rcases CD.out with h|h
    ·have hk:k=6:=by omega
     obtain⟨e,h1,h2,h3,h4,h5⟩:=h
     refine⟨?_,by omega⟩
     rw[e,said_z (h1 (by omega)),chk_0 (h2 (by omega)) (h3 (by omega)) (h4 (by omega)) (h5 (by omega))]
    ·exact⟨h.2.2,h.2.1⟩
   obtain⟨ra,rc,mD,-⟩:∃ra rc,wr.heap[w.heap.size+1+1+1+1+1]? =some (tkB RT RN ra RL.length rc 72)∧Legs wr ra RL:=by
    rcases TF.out with h|h
    ·exact absurd HFS.out.2 (by omega)
    ·exact h.2
   have hcond:decide ((k:Int)<6)=false∨((t:Int)==0)=false:=by
    by_cases h6:k<6
    ·right
     have:t≠0:=fun e=>h0 ⟨e,h6⟩
     simpa using this
    ·left
     exact decide_eq_false (by omega)
   obtain⟨m0,m1,m2,m3,m4,mc,IS,BL⟩:=CW.out
   have a0:wr.cell? ⟨w.heap.size,0,none⟩=some (.int .i64 o.dv):=cell_at m0 0
   have a8:wr.cell? ⟨w.heap.size,8,none⟩=some (.slice x.b o.sl.length x.d):=cell_at m0 8
   have a2:wr.cell? ⟨w.heap.size+1+1,0,none⟩=some (.int .i64 tr):=cell_at m2 0
   have a3:wr.cell? ⟨w.heap.size+1+1+1,0,none⟩=some (.int .i64 dy):=cell_at m3 0
   have d0:wr.cell? ⟨w.heap.size+1+1+1+1+1,0,none⟩=some (.int .i64 RT.id):=cell_at mD 0
   have r0:wr.cell? ⟨w.heap.size+1+1+1+1,0,none⟩=some (.int .i64 0):=cell_at m4 0
   have r1:wr.cell? ⟨w.heap.size+1+1+1+1,1,none⟩=some (.int .i64 0):=cell_at m4 1
   have r2:wr.cell? ⟨w.heap.size+1+1+1+1,2,none⟩=some (.int .i64 0):=cell_at m4 2
   have r3:wr.cell? ⟨w.heap.size+1+1+1+1,3,none⟩=some (.int .i64 0):=cell_at m4 3
   have r4:wr.cell? ⟨w.heap.size+1+1+1+1,4,none⟩=some (.int .i64 0):=cell_at m4 4
   have r5:wr.cell? ⟨w.heap.size+1+1+1+1,5,none⟩=some (.int .i64 0):=cell_at m4 5
   have f0:wr.frozen? ⟨w.heap.size+1+1+1+1,0,none⟩=false:=frozen_at m4 0
   have f1:wr.frozen? ⟨w.heap.size+1+1+1+1,1,none⟩=false:=frozen_at m4 1
   have f2:wr.frozen? ⟨w.heap.size+1+1+1+1,2,none⟩=false:=frozen_at m4 2
   have f3:wr.frozen? ⟨w.heap.size+1+1+1+1,3,none⟩=false:=frozen_at m4 3
   have f4:wr.frozen? ⟨w.heap.size+1+1+1+1,4,none⟩=false:=frozen_at m4 4
   have f5:wr.frozen? ⟨w.heap.size+1+1+1+1,5,none⟩=false:=frozen_at m4 5
   have HB:Hid (∀W,Below w.heap.size wr W→Below w.heap.size w W):=fun W l=>BL.trans l
   have HV:Hid (lgV ⟨o.dv,(o.sl.length:Int)+1,RT.id,tr,dy,(t:Int)⟩=lgV (ctlO o C RT RL tr dy)):=by show _=_;unfold ctlO;rw[←HFS.out.1]
   clear m0 m1 m2 m3 m4 mc IS BL mD CW TF CD HKB KB HR HFS
   rcases hcond with hcond|hcond
   ·go_wp2
    refine bodyPost_ret (v:=lgV ⟨o.dv,(o.sl.length:Int)+1,RT.id,tr,dy,(t:Int)⟩) (by simp[results,Tryz.results51,go_sem,r0,r1,r2,r3,r4,r5]) rfl ?_
    refine⟨by rw[HV.out],HB.out _ ?_⟩
    (repeat' (first|apply Below.setCell|exact Below.refl _ _))<;>first|(simp;done)|(simp;omega)
   ·by_cases h6:(k:Int)<6
    ·have hd6:decide ((k:Int)<6)=true:=decide_eq_true h6
     clear h6
     go_wp2
     refine bodyPost_ret (v:=lgV ⟨o.dv,(o.sl.length:Int)+1,RT.id,tr,dy,(t:Int)⟩) (by simp[results,Tryz.results51,go_sem,r0,r1,r2,r3,r4,r5]) rfl ?_
     refine⟨by rw[HV.out],HB.out _ ?_⟩
     (repeat' (first|apply Below.setCell|exact Below.refl _ _))<;>first|(simp;done)|(simp;omega)
    ·have hd6:decide ((k:Int)<6)=false:=decide_eq_false h6
     clear h6
     go_wp2
     refine bodyPost_ret (v:=lgV ⟨o.dv,(o.sl.length:Int)+1,RT.id,tr,dy,(t:Int)⟩) (by simp[results,Tryz.results51,go_sem,r0,r1,r2,r3,r4,r5]) rfl ?_
     refine⟨by rw[HV.out],HB.out _ ?_⟩
     (repeat' (first|apply Below.setCell|exact Below.refl _ _))<;>first|(simp;done)|(simp;omega)

end Hn
end Go.Proofs.YtdcpjicgehdmfaaGreatDoor

/- Check of the model. -/
namespace Go.Proofs.YtdcpjicgehdmfaaGreatDoor
namespace Hn
open Go.ChangeShapes Go.WideShapes Go.ChangeAt Go.RowKit Go.Joins
open Pk (new_below join_below cell_at heap_new frozen_at lt_of kept heap_old Drawn info_of Room)
open Tk (Lg Legs tkV tkB)
set_option linter.unusedSimpArgs false
set_option linter.unusedVariables false

def ckC (o:Hnd) (C:Nat) (RT:Tk.Hd) (RL:List Lg) (tr dy:Int):Nat:=if canB o tr dy=false then 1 else saidC o C RT RL tr dy

theorem ck_no {o:Hnd} {C:Nat} {RT:Tk.Hd} {RL:List Lg} {tr dy:Int} (h:canB o tr dy=false):ckC o C RT RL tr dy=1:=by unfold ckC;rw[if_pos h]
theorem ck_yes {o:Hnd} {C:Nat} {RT:Tk.Hd} {RL:List Lg} {tr dy:Int} (h:canB o tr dy=true):ckC o C RT RL tr dy=saidC o C RT RL tr dy:=by unfold ckC;rw[if_neg (by rw[h];simp)]

set_option maxRecDepth 100000 in
set_option maxHeartbeats 4000000 in
theorem specCheck_val (x:Pl) (o:Hnd) (s:ByteArray) {RT:Tk.Hd} {RN:ByteArray} {RL:List Lg} {C:Nat} (HR:∀W:World,Calls Tryz.prog 39 #[.agg #[.int .i64 o.p,.int .i64 o.q,.int .i64 o.g],.int .i64 o.op,.int .i64 o.is,.string s] W fun e w'=>RdOk RT RN RL C W.heap.size e w'∧Below W.heap.size W w') (tr dy:Int) (w:World) (hz:o.ol.length≤1048576) (hz2:o.sl.length≤1048576) (hz3:RL.length≤1048576) (I:In w x o):
 Calls Tryz.prog 40 #[hnV x o,.string s,.int .i64 tr,.int .i64 dy] w fun e w'=>e= .returned (.int .i64 (ckC o C RT RL tr dy:Nat))∧Below w.heap.size w w':=by
 have N:=new_below w (hnB x o 35)
 have m:=heap_new w (hnB x o 35)
 have IN:=I.on N
 have HH:Hid (∀W:World,In W x o→_):=fun W h=>specHand_val x o W hz hz2 h
 have HQ:Hid (∀W:World,_):=fun W=>specRide_val tr dy W
 have HK:Hid (∀(a:Option Addr) (cap:Nat) (W:World),In W x o→Legs W a RL→_):=fun a cap W h k=>specChk_val x o RT RN a RL cap tr dy W hz hz2 hz3 h k
 have HRR:Hid (∀W:World,Calls Tryz.prog 39 #[.agg #[.int .i64 o.p,.int .i64 o.q,.int .i64 o.g],.int .i64 o.op,.int .i64 o.is,.string s] W fun e w'=>RdOk RT RN RL C W.heap.size e w'∧Below W.heap.size W w'):=HR
 clear hz hz2 hz3 HR
 cases h:handB o
 ·have HV:Hid (ckC o C RT RL tr dy=1):=ck_no (by unfold canB;rw[h];rfl)
  rw[h]at HH
  clear h m
  go_enter Tryz.func40,Tryz.ntmps40
  go_wp2_with fail
  refine(HH.out _ IN).mono ?_
  rintro e w1 ⟨rfl,L1⟩
  have K:=join_below N L1
  go_wp2
  go_ret
  exact⟨by rw[HV.out]<;>rfl,K⟩
 ·rw[h]at HH
  cases h1:rideB tr dy
  ·have HV:Hid (ckC o C RT RL tr dy=1):=ck_no (by unfold canB;rw[h1,Bool.and_false])
   rw[h1]at HQ
   clear h h1 m
   go_enter Tryz.func40,Tryz.ntmps40
   go_wp2_with fail
   refine(HH.out _ IN).mono ?_
   rintro e w1 ⟨rfl,L1⟩
   have K:=join_below N L1
   go_wp2_with fail
   refine(HQ.out _).mono ?_
   rintro e w2 ⟨rfl,rfl⟩
   go_wp2
   go_ret
   exact⟨by rw[HV.out]<;>rfl,K⟩
  ·have HV:Hid (ckC o C RT RL tr dy=saidC o C RT RL tr dy):=ck_yes (by unfold canB;rw[h,h1];rfl)
   rw[h1]at HQ
   clear h h1
   by_cases hc:C=0
   ·have b1:((C:Int) !=0)=false:=by simp[hc]
    have HW:Hid (ckC o C RT RL tr dy=chk o RT RL tr dy):=HV.out.trans (said_z hc)
    clear hc HV
    go_enter Tryz.func40,Tryz.ntmps40
    go_wp2_with fail
    refine(HH.out _ IN).mono ?_
    rintro e w1 ⟨rfl,L1⟩
    have K:=join_below N L1
    have m1:=kept L1 (lt_of m) m
    have I1:=IN.on L1
    clear N L1 m IN
    go_wp2_with fail
    refine(HQ.out _).mono ?_
    rintro e w2 ⟨rfl,rfl⟩
    have a1:w2.cell? ⟨w.heap.size,1,none⟩=some (.int .i64 o.p):=cell_at m1 1
    have a2:w2.cell? ⟨w.heap.size,2,none⟩=some (.int .i64 o.q):=cell_at m1 2
    have a3:w2.cell? ⟨w.heap.size,3,none⟩=some (.int .i64 o.g):=cell_at m1 3
    have a4:w2.cell? ⟨w.heap.size,4,none⟩=some (.int .i64 o.op):=cell_at m1 4
    have a5:w2.cell? ⟨w.heap.size,5,none⟩=some (.int .i64 o.is):=cell_at m1 5
    go_wp2_with fail
    refine(HRR.out _).mono ?_
    rintro e w3 ⟨⟨ra,rc,rfl,J3,-⟩,L3⟩
    have m3:=kept L3 (lt_of m1) m1
    have I3:=I1.on L3
    have K3:=join_below K L3
    have N3:=new_below w3 (tkB RT RN ra RL.length rc 72)
    have m4:=heap_old m3 (tkB RT RN ra RL.length rc 72)
    have I4:=I3.on N3
    have J4:=J3.on N3
    have K4:=join_below K3 N3
    clear a1 a2 a3 a4 a5
    have b0:(w3.alloc (tkB RT RN ra RL.length rc 72)).cell? ⟨w.heap.size,0,none⟩=some (.int .i64 o.dv):=cell_at m4 0
    have b1:(w3.alloc (tkB RT RN ra RL.length rc 72)).cell? ⟨w.heap.size,1,none⟩=some (.int .i64 o.p):=cell_at m4 1
    have b2:(w3.alloc (tkB RT RN ra RL.length rc 72)).cell? ⟨w.heap.size,2,none⟩=some (.int .i64 o.q):=cell_at m4 2
    have b3:(w3.alloc (tkB RT RN ra RL.length rc 72)).cell? ⟨w.heap.size,3,none⟩=some (.int .i64 o.g):=cell_at m4 3
    have b4:(w3.alloc (tkB RT RN ra RL.length rc 72)).cell? ⟨w.heap.size,4,none⟩=some (.int .i64 o.op):=cell_at m4 4
    have b5:(w3.alloc (tkB RT RN ra RL.length rc 72)).cell? ⟨w.heap.size,5,none⟩=some (.int .i64 o.is):=cell_at m4 5
    have b6:(w3.alloc (tkB RT RN ra RL.length rc 72)).cell? ⟨w.heap.size,6,none⟩=some (.int .i64 o.ve):=cell_at m4 6
    have b7:(w3.alloc (tkB RT RN ra RL.length rc 72)).cell? ⟨w.heap.size,7,none⟩=some (.slice x.a o.ol.length x.c):=cell_at m4 7
    have b8:(w3.alloc (tkB RT RN ra RL.length rc 72)).cell? ⟨w.heap.size,8,none⟩=some (.slice x.b o.sl.length x.d):=cell_at m4 8
    clear K K3 m1 m3 I1 I3 J3 L3 N3
    go_wp2_with fail
    refine(HK.out ra rc _ I4 J4).mono ?_
    rintro e w5 ⟨rfl,L5⟩
    have K5:=join_below K4 L5
    go_wp2
    go_ret
    exact⟨by rw[HW.out]<;>rfl,K5⟩
   ·have b1:((C:Int) !=0)=true:=by simpa using hc
    have HW:Hid (ckC o C RT RL tr dy=1):=HV.out.trans (said_n hc)
    clear hc HV
    go_enter Tryz.func40,Tryz.ntmps40
    go_wp2_with fail
    refine(HH.out _ IN).mono ?_
    rintro e w1 ⟨rfl,L1⟩
    have K:=join_below N L1
    have m1:=kept L1 (lt_of m) m
    clear N L1 m IN
    go_wp2_with fail
    refine(HQ.out _).mono ?_
    rintro e w2 ⟨rfl,rfl⟩
    have a1:w2.cell? ⟨w.heap.size,1,none⟩=some (.int .i64 o.p):=cell_at m1 1
    have a2:w2.cell? ⟨w.heap.size,2,none⟩=some (.int .i64 o.q):=cell_at m1 2
    have a3:w2.cell? ⟨w.heap.size,3,none⟩=some (.int .i64 o.g):=cell_at m1 3
    have a4:w2.cell? ⟨w.heap.size,4,none⟩=some (.int .i64 o.op):=cell_at m1 4
    have a5:w2.cell? ⟨w.heap.size,5,none⟩=some (.int .i64 o.is):=cell_at m1 5
    go_wp2_with fail
    refine(HRR.out _).mono ?_
    rintro e w3 ⟨⟨ra,rc,rfl,J3,-⟩,L3⟩
    have K3:=join_below K L3
    have K4:=join_below K3 (new_below w3 (tkB RT RN ra RL.length rc 72))
    clear K K3 m1 J3 L3 a1 a2 a3 a4 a5
    go_wp2
    go_ret
    exact⟨by rw[HW.out]<;>rfl,K4⟩

end Hn
end Go.Proofs.YtdcpjicgehdmfaaGreatDoor

/- slices.Clone over numbers and controls; copies of a device by the program and by the model. -/
namespace Go.Proofs.YtdcpjicgehdmfaaGreatDoor
namespace Hn
open Go.ChangeShapes Go.WideShapes Go.ChangeAt Go.RowKit Go.Joins
open Pk (new_below join_below cell_at heap_new frozen_at lt_of kept heap_old Drawn info_of Room own_form own_below)
set_option linter.unusedSimpArgs false
set_option linter.unusedVariables false

def cc1 (p:Ct):List Value:= [.int .i64 p.dv,.int .i64 p.no,.int .i64 p.tk,.int .i64 p.tr,.int .i64 p.dy,.int .i64 p.sa]
def ccells (l:List Ct):List Value:=l.flatMap cc1

theorem ccells_nil:ccells []= []:=rfl
theorem ccells_cons (p:Ct) (l:List Ct):ccells (p::l)=cc1 p++ccells l:=rfl
theorem ccells_append (l m:List Ct):ccells l++ccells m=ccells (l++m):=by simp[ccells]
theorem ccells_snoc (l:List Ct) (p:Ct):ccells l++cc1 p=ccells (l++ [p]):=by simp[ccells]
theorem ccells_length (l:List Ct):(ccells l).length=l.length*6:=by
 induction l with
 |nil=>rfl
 |cons p l ih=>rw[ccells_cons,List.length_append,ih,List.length_cons];simp[cc1];omega
theorem cc1_length (p:Ct):(cc1 p).length=6:=rfl
theorem ccells_one (l:List Ct):∀u∈ccells l,u.oneCell'=true:=by
 intro u hu
 unfold ccells at hu
 rw[List.mem_flatMap]at hu
 obtain⟨p,-,hu⟩:=hu
 simp only[cc1,List.mem_cons,List.not_mem_nil,or_false]at hu
 rcases hu with rfl|rfl|rfl|rfl|rfl|rfl<;>rfl

theorem ccells_get (l:List Ct) (k c:Nat) (hk:k<l.length) (hc:c<6):(ccells l)[k*6+c]? =(cc1 l[k])[c]? :=by
 induction l generalizing k with
 |nil=>simp at hk
 |cons p l ih=>
  rw[ccells_cons]
  cases k with
  |zero=>
   rw[List.getElem?_append_left (by rw[cc1_length];omega)]
   simp
  |succ k=>
   rw[List.getElem?_append_right (by rw[cc1_length];omega),cc1_length,show(k+1)*6+c-6=k*6+c by omega,ih k (by simpa using hk)]
   simp

theorem own_cell {w:World} {base e n:Nat} {v:Value} {xs:List Value} (h:w.ownsRow base e 6 v n xs) (hn:0<n):
 ∃g cap,v= .slice (some ⟨g,0,none⟩) n cap∧base≤g∧g<w.heap.size∧(∀i u,xs[i]? =some u→w.cell? ⟨g,i,none⟩=some u)∧∀i,w.frozen? ⟨g,i,none⟩=false:=by
 obtain⟨hl,h2⟩:=h
 rcases h2 with⟨hv,h0⟩|⟨g,cap,cur,hv,hg,hh,h1,h3,h4,h5⟩
 ·omega
 ·refine⟨g,cap,hv,hg,lt_of hh,fun i u hu=> ?_,fun i=>frozen_at hh i⟩
  rw[cell_at hh]
  have hx:=(List.getElem?_eq_some_iff.1 hu).1
  have h6:(cur.toList.take (n*6))[i]? =xs[i]? :=by rw[h5]
  rw[List.getElem?_take,if_pos (by omega),Array.getElem?_toList]at h6
  rw[h6]
  exact hu

theorem own_ctls {w:World} {base e:Nat} {v:Value} {l:List Ct} (h:w.ownsRow base e 6 v l.length (ccells l)):∃a cap,v= .slice a l.length cap∧Controls w a l:=by
 by_cases h0:l.length=0
 ·obtain⟨a,cap,hv,-⟩:=own_form h
  exact⟨a,cap,hv,Or.inl (List.eq_nil_of_length_eq_zero h0)⟩
 ·obtain⟨g,cap,hv,-,hg,hc,-⟩:=own_cell h (by omega)
  refine⟨_,cap,hv,Or.inr ⟨g,0,rfl,hg,fun i hi=> ?_⟩⟩
  rw[Nat.zero_add]
  exact⟨hc (i*6) _ ((ccells_get l i 0 hi (by omega)).trans rfl),hc (i*6+1) _ ((ccells_get l i 1 hi (by omega)).trans rfl),hc (i*6+2) _ ((ccells_get l i 2 hi (by omega)).trans rfl),hc (i*6+3) _ ((ccells_get l i 3 hi (by omega)).trans rfl),hc (i*6+4) _ ((ccells_get l i 4 hi (by omega)).trans rfl),hc (i*6+5) _ ((ccells_get l i 5 hi (by omega)).trans rfl)⟩

theorem own_room {w:World} {base e:Nat} {v:Value} {l:List Ct} (h:w.ownsRow base e 6 v l.length (ccells l)) (hn:0<l.length):∃g cap,v= .slice (some ⟨g,0,none⟩) l.length cap∧base≤g∧g<w.heap.size∧Room w g (l.length*6):=by
 obtain⟨g,cap,hv,hb,hg,hc,hf⟩:=own_cell h hn
 refine⟨g,cap,hv,hb,hg,fun j hj=>⟨?_,hf j⟩⟩
 have hx:j<(ccells l).length:=by rw[ccells_length];omega
 exact⟨_,hc j _ (List.getElem?_eq_getElem hx)⟩

def icells (l:List Int):List Value:=l.map fun z=> .int .i64 z

theorem icells_length (l:List Int):(icells l).length=l.length*1:=by simp[icells]
theorem icells_one (l:List Int):∀u∈icells l,u.oneCell'=true:=by
 intro u hu
 simp only[icells,List.mem_map]at hu
 obtain⟨z,-,rfl⟩:=hu
 rfl
theorem icells_at (l:List Int) (i:Nat) (h:i<l.length):(icells l)[i]? =some (.int .i64 l[i]):=by simp[icells,h]

theorem own_cell1 {w:World} {base e n:Nat} {v:Value} {xs:List Value} (h:w.ownsRow base e 1 v n xs) (hn:0<n):
 ∃g cap,v= .slice (some ⟨g,0,none⟩) n cap∧base≤g∧g<w.heap.size∧(∀i u,xs[i]? =some u→w.cell? ⟨g,i,none⟩=some u)∧∀i,w.frozen? ⟨g,i,none⟩=false:=by
 obtain⟨hl,h2⟩:=h
 rcases h2 with⟨hv,h0⟩|⟨g,cap,cur,hv,hg,hh,h1,h3,h4,h5⟩
 ·omega
 ·refine⟨g,cap,hv,hg,lt_of hh,fun i u hu=> ?_,fun i=>frozen_at hh i⟩
  rw[cell_at hh]
  have hx:=(List.getElem?_eq_some_iff.1 hu).1
  have h6:(cur.toList.take (n*1))[i]? =xs[i]? :=by rw[h5]
  rw[List.getElem?_take,if_pos (by omega),Array.getElem?_toList]at h6
  rw[h6]
  exact hu

theorem own_ints {w:World} {base e:Nat} {v:Value} {l:List Int} (h:w.ownsRow base e 1 v l.length (icells l)):∃a cap,v= .slice a l.length cap∧Ints w a l:=by
 by_cases h0:l.length=0
 ·obtain⟨a,cap,hv,-⟩:=own_form h
  exact⟨a,cap,hv,Or.inl (List.eq_nil_of_length_eq_zero h0)⟩
 ·obtain⟨g,cap,hv,hb,hg,hc,hf⟩:=own_cell1 h (by omega)
  refine⟨_,cap,hv,Or.inr ⟨g,0,rfl,hg,fun i hi=> ?_⟩⟩
  rw[Nat.zero_add]
  exact hc i _ (icells_at l i hi)

theorem own_iroom {w:World} {base e:Nat} {v:Value} {l:List Int} (h:w.ownsRow base e 1 v l.length (icells l)) (hn:0<l.length):∃g cap,v= .slice (some ⟨g,0,none⟩) l.length cap∧base≤g∧g<w.heap.size∧Room w g l.length:=by
 obtain⟨g,cap,hv,hb,hg,hc,hf⟩:=own_cell1 h hn
 exact⟨g,cap,hv,hb,hg,fun j hj=>⟨⟨_,hc j _ (icells_at l j hj)⟩,hf j⟩⟩

theorem ints_get {w:World} {b o:Nat} {l:List Int} (I:Ints w (some ⟨b,o,none⟩) l):∀j u,(icells l)[j]? =some u→w.cell? (Addr.add ⟨b,o,none⟩ j)=some u:=by
 intro j u hu
 have hj:j<l.length:=by
  have:=(List.getElem?_eq_some_iff.1 hu).1
  rw[icells_length]at this
  omega
 obtain⟨b',o',e,-,hc⟩:=I.at j hj
 simp only[Option.some.injEq,Addr.mk.injEq,and_true]at e
 obtain⟨rfl,rfl⟩:=e
 rw[icells_at l j hj]at hu
 rw[←hu,add_plain]
 exact hc

theorem ctls_get {w:World} {b o:Nat} {l:List Ct} (I:Controls w (some ⟨b,o,none⟩) l):∀j u,(ccells l)[j]? =some u→w.cell? (Addr.add ⟨b,o,none⟩ j)=some u:=by
 intro j u hu
 have hj:j<l.length*6:=by
  have:=(List.getElem?_eq_some_iff.1 hu).1
  rwa [ccells_length]at this
 have hk:j/6<l.length:=by omega
 have hc:j%6<6:=by omega
 have e:j/6*6+j%6=j:=by omega
 have h1:=ccells_get l (j/6) (j%6) hk hc
 rw[e,hu]at h1
 obtain⟨b',o',e',-,h⟩:=I.at (j/6) hk
 simp only[Option.some.injEq,Addr.mk.injEq,and_true]at e'
 obtain⟨rfl,rfl⟩:=e'
 rw[add_plain]
 obtain⟨c0,c1,c2,c3,c4,c5⟩:=h
 have h6:j%6=0∨j%6=1∨j%6=2∨j%6=3∨j%6=4∨j%6=5:=by omega
 rcases h6 with h|h|h|h|h|h<;>rw[h]at h1<;>simp[cc1]at h1<;>rw[h1]
 ·rw[show o+j=o+j/6*6 by omega];exact c0
 ·rw[show o+j=o+j/6*6+1 by omega];exact c1
 ·rw[show o+j=o+j/6*6+2 by omega];exact c2
 ·rw[show o+j=o+j/6*6+3 by omega];exact c3
 ·rw[show o+j=o+j/6*6+4 by omega];exact c4
 ·rw[show o+j=o+j/6*6+5 by omega];exact c5

theorem nil_row (w:World) (t size:Nat):(w.alloc (.cells #[] t)).ownsRow w.heap.size t size (.slice (some ⟨w.heap.size,0,none⟩) 0 0) 0 []:=
 ⟨by simp,Or.inr ⟨w.heap.size,0,#[],rfl,Nat.le_refl _,heap_new w _,by omega,by unfold maxLen;omega,by simp,by simp⟩⟩

set_option maxHeartbeats 1000000 in
theorem clone_ints (b o:Nat) (l:List Int) (cap:Nat) (w:World) (hn:l.length≤1048576) (I:Ints w (some ⟨b,o,none⟩) l):
 Calls Tryz.prog 75 #[.slice (some ⟨b,o,none⟩) l.length cap] w fun e w'=>∃v,e= .returned v∧w'.ownsRow w.heap.size 3 1 v l.length (icells l)∧Below w.heap.size w w':=by
 obtain⟨i0,hi,hz0,hz1,hz2⟩:=info_of intInfo
 have hnil:∀w:World,(binOp .eql 24 (.slice (some ⟨b,o,none⟩) l.length cap) (.slice none 0 0)).run Tryz.prog w= .ok (.bool false) w:=fun w=>Lib.run_eql_slice_nil w 24 3 _ _ _ _ _ Tryz.underlying24
 have O0:=nil_row w 3 1
 have N0:=new_below w (.cells #[] 3)
 have HG:Hid (_):=ints_get (I.on N0)
 go_enter Tryz.func75,Tryz.ntmps75
 go_wp2_with (at_builtin;refine wpList_append_own_at _ rfl _ _ 24 rfl w.heap.size 3 i0 (.int .i64 0) 1 8 Tryz.underlying24 hi hz0 hz1 hz2 rfl (by decide) _ _ _ rfl O0 ⟨b,o,none⟩ l.length cap (icells l) rfl ?c0 ?c1 ?c2 ?c3 ?c4 ?c5 ?_)
 case c0=>exact icells_length l
 case c1=>exact HG.out
 case c2=>exact icells_one l
 case c3=>unfold maxLen;omega
 case c4=>omega
 case c5=>exact N0.size
 intro v' w5 O5 G5 _ _
 have L5:Below w.heap.size w w5:=N0.grown G5 N0.size (fun j hj=>(O0.lt j hj).1)
 try rw[Nat.zero_add,List.nil_append]at O5
 obtain⟨va2,vc2,rfl,-⟩:=own_form O5
 have HO:Hid (w5.ownsRow w.heap.size 3 1 (.slice va2 l.length vc2) l.length (icells l)):=O5
 clear O0 O5 G5 N0 HG
 go_wp2
 go_ret
 exact⟨_,rfl,HO.out,L5⟩

set_option maxHeartbeats 1000000 in
theorem clone_ctls (b o:Nat) (l:List Ct) (cap:Nat) (w:World) (hn:l.length≤1048576) (I:Controls w (some ⟨b,o,none⟩) l):
 Calls Tryz.prog 76 #[.slice (some ⟨b,o,none⟩) l.length cap] w fun e w'=>∃v,e= .returned v∧w'.ownsRow w.heap.size 77 6 v l.length (ccells l)∧Below w.heap.size w w':=by
 obtain⟨i0,hi,hz0,hz1,hz2⟩:=info_of info_control
 have hnil:∀w:World,(binOp .eql 33 (.slice (some ⟨b,o,none⟩) l.length cap) (.slice none 0 0)).run Tryz.prog w= .ok (.bool false) w:=fun w=>Lib.run_eql_slice_nil w 33 77 _ _ _ _ _ Tryz.underlying33
 have O0:=nil_row w 77 6
 have N0:=new_below w (.cells #[] 77)
 have HG:Hid (_):=ctls_get (I.on N0)
 go_enter Tryz.func76,Tryz.ntmps76
 go_wp2_with (at_builtin;refine wpList_append_own_at _ rfl _ _ 33 rfl w.heap.size 77 i0 (lgV ⟨0,0,0,0,0,0⟩) 6 48 Tryz.underlying33 hi hz0 hz1 hz2 rfl (by decide) _ _ _ rfl O0 ⟨b,o,none⟩ l.length cap (ccells l) rfl ?c0 ?c1 ?c2 ?c3 ?c4 ?c5 ?_)
 case c0=>exact ccells_length l
 case c1=>exact HG.out
 case c2=>exact ccells_one l
 case c3=>unfold maxLen;omega
 case c4=>omega
 case c5=>exact N0.size
 intro v' w5 O5 G5 _ _
 have L5:Below w.heap.size w w5:=N0.grown G5 N0.size (fun j hj=>(O0.lt j hj).1)
 try rw[Nat.zero_add,List.nil_append]at O5
 obtain⟨va2,vc2,rfl,-⟩:=own_form O5
 have HO:Hid (w5.ownsRow w.heap.size 77 6 (.slice va2 l.length vc2) l.length (ccells l)):=O5
 clear O0 O5 G5 N0 HG
 go_wp2
 go_ret
 exact⟨_,rfl,HO.out,L5⟩

end Hn
end Go.Proofs.YtdcpjicgehdmfaaGreatDoor

/- A copy of a device. -/
namespace Go.Proofs.YtdcpjicgehdmfaaGreatDoor
namespace Hn
open Go.ChangeShapes Go.WideShapes Go.ChangeAt Go.RowKit Go.Joins
open Pk (new_below join_below cell_at heap_new frozen_at lt_of kept heap_old Drawn info_of Room)
set_option linter.unusedSimpArgs false
set_option linter.unusedVariables false

theorem ints_other {w:World} {g P i:Nat} {zs:List Int} {u:Value} (h:Ints w (some ⟨g,0,none⟩) zs) (hne:g≠P):Ints (w.setCell ⟨P,i,none⟩ u) (some ⟨g,0,none⟩) zs:=by
 rcases h with h|⟨b,o,e,hb,hc⟩
 ·exact Or.inl h
 ·simp only[Option.some.injEq,Addr.mk.injEq,and_true]at e
  obtain⟨rfl,rfl⟩:=e
  refine Or.inr ⟨g,0,rfl,by rw[World.size_setCell];exact hb,fun j hj=> ?_⟩
  rw[World.cell?_of_block (a:=⟨g,0+j,none⟩) (Below.heap_setCell _ _ _ _ hne)]
  exact hc j hj

structure Sw (P Q:Nat) (v w:World):Prop where
 size:w.heap.size=v.heap.size
 block:∀b,b≠P→b≠Q→w.heap[b]? =v.heap[b]?

theorem Sw.refl (P Q:Nat) (v:World):Sw P Q v v:=⟨rfl,fun _ _ _=>rfl⟩
theorem Sw.one {P Q i:Nat} {v w:World} (h:Sw P Q v w) (u:Value):Sw P Q v (w.setCell ⟨P,i,none⟩ u):=⟨by rw[World.size_setCell];exact h.size,fun b h1 h2=>by rw[Below.heap_setCell w ⟨P,i,none⟩ u b h1];exact h.block b h1 h2⟩
theorem Sw.two {P Q i:Nat} {v w:World} (h:Sw P Q v w) (u:Value):Sw P Q v (w.setCell ⟨Q,i,none⟩ u):=⟨by rw[World.size_setCell];exact h.size,fun b h1 h2=>by rw[Below.heap_setCell w ⟨Q,i,none⟩ u b h2];exact h.block b h1 h2⟩

theorem Sw.ints {P Q g:Nat} {v w:World} {zs:List Int} (s:Sw P Q v w) (h:Ints v (some ⟨g,0,none⟩) zs) (h1:g≠P) (h2:g≠Q):Ints w (some ⟨g,0,none⟩) zs:=by
 rcases h with h|⟨b,o,e,hb,hc⟩
 ·exact Or.inl h
 ·simp only[Option.some.injEq,Addr.mk.injEq,and_true]at e
  obtain⟨rfl,rfl⟩:=e
  refine Or.inr ⟨g,0,rfl,by rw[s.size];exact hb,fun j hj=> ?_⟩
  rw[World.cell?_of_block (a:=⟨g,0+j,none⟩) (s.block g h1 h2)]
  exact hc j hj

theorem Sw.ctls {P Q g:Nat} {v w:World} {zs:List Ct} (s:Sw P Q v w) (h:Controls v (some ⟨g,0,none⟩) zs) (h1:g≠P) (h2:g≠Q):Controls w (some ⟨g,0,none⟩) zs:=by
 rcases h with h|⟨b,o,e,hb,hc⟩
 ·exact Or.inl h
 ·simp only[Option.some.injEq,Addr.mk.injEq,and_true]at e
  obtain⟨rfl,rfl⟩:=e
  refine Or.inr ⟨g,0,rfl,by rw[s.size];exact hb,fun j hj=> ?_⟩
  rw[World.cell?_of_block (a:=⟨g,0+j*6,none⟩) (s.block g h1 h2),World.cell?_of_block (a:=⟨g,0+j*6+1,none⟩) (s.block g h1 h2),World.cell?_of_block (a:=⟨g,0+j*6+2,none⟩) (s.block g h1 h2),World.cell?_of_block (a:=⟨g,0+j*6+3,none⟩) (s.block g h1 h2),World.cell?_of_block (a:=⟨g,0+j*6+4,none⟩) (s.block g h1 h2),World.cell?_of_block (a:=⟨g,0+j*6+5,none⟩) (s.block g h1 h2)]
  exact hc j hj

theorem Sw.room {P Q g n:Nat} {v w:World} (s:Sw P Q v w) (h:Room v g n) (h1:g≠P) (h2:g≠Q):Room w g n:=by
 intro j hj
 rw[World.cell?_of_block (a:=⟨g,j,none⟩) (s.block g h1 h2),World.frozen?_of_block (a:=⟨g,j,none⟩) (s.block g h1 h2)]
 exact h j hj

set_option maxRecDepth 100000 in
set_option maxHeartbeats 8000000 in
theorem toHand_val (x:Pl) (o:Hnd) (w:World) (hz:o.ol.length≤1048576) (hz2:o.sl.length≤1048576) (I:In w x o):
 Calls Tryz.prog 7 #[hnV x o] w fun e w'=>∃y g1 g2,e= .returned (hnV y o)∧Below w.heap.size w w'∧In w' y o∧Mine w.heap.size w' y o g1 g2∧g1<w'.heap.size∧g2<w'.heap.size∧y.a=some ⟨g1,0,none⟩∧y.b=some ⟨g2,0,none⟩:=by
 have HZ:Hid (o.ol.length≤1048576∧o.sl.length≤1048576):=⟨hz,hz2⟩
 obtain⟨k0,k1,k2⟩:=three_blocks w (hnB x o 27) (.cells #[.int .i64 0,.int .i64 0,.int .i64 0,.int .i64 0,.int .i64 0,.int .i64 0,.int .i64 0,.slice none 0 0,.slice none 0 0] 35) (.cells #[.int .i64 o.dv,.int .i64 0,.int .i64 0,.int .i64 0,.int .i64 0,.int .i64 0,.int .i64 0,.slice none 0 0,.slice none 0 0] 35)
 have L:Below w.heap.size w (((w.alloc (hnB x o 27)).alloc (.cells #[.int .i64 0,.int .i64 0,.int .i64 0,.int .i64 0,.int .i64 0,.int .i64 0,.int .i64 0,.slice none 0 0,.slice none 0 0] 35)).alloc (.cells #[.int .i64 o.dv,.int .i64 0,.int .i64 0,.int .i64 0,.int .i64 0,.int .i64 0,.int .i64 0,.slice none 0 0,.slice none 0 0] 35)):=join_below (join_below (new_below _ _) (new_below _ _)) (new_below _ _)
 have hs:(((w.alloc (hnB x o 27)).alloc (.cells #[.int .i64 0,.int .i64 0,.int .i64 0,.int .i64 0,.int .i64 0,.int .i64 0,.int .i64 0,.slice none 0 0,.slice none 0 0] 35)).alloc (.cells #[.int .i64 o.dv,.int .i64 0,.int .i64 0,.int .i64 0,.int .i64 0,.int .i64 0,.int .i64 0,.slice none 0 0,.slice none 0 0] 35)).heap.size=w.heap.size+1+1+1:=(Array.size_push ..).trans (congrArg (· +1) ((Array.size_push ..).trans (congrArg (· +1) (Array.size_push ..))))
 clear hz hz2
 go_enter Tryz.func7,Tryz.ntmps7
 go_wp2_with fail
 refine named fun W0 hW=> ?_
 rw[←hW]at k0 k1 k2 L hs
 clear hW
 refine(toParams_val o.p o.q o.g W0).mono ?_
 rintro e v0 ⟨rfl,L0⟩
 have k0:=kept L0 (lt_of k0) k0
 have k1:=kept L0 (lt_of k1) k1
 have k2:=kept L0 (lt_of k2) k2
 have B0:=join_below L L0
 have hl:w.heap.size+1+1+1≤v0.heap.size:=by have:=L0.size;omega
 clear L0 L hs
 have k0n:((((((v0.setCell ⟨w.heap.size+1+1,1,none⟩ (.int .i64 o.p)).setCell ⟨w.heap.size+1+1,2,none⟩ (.int .i64 o.q)).setCell ⟨w.heap.size+1+1,3,none⟩ (.int .i64 o.g)).setCell ⟨w.heap.size+1+1,4,none⟩ (.int .i64 o.op)).setCell ⟨w.heap.size+1+1,5,none⟩ (.int .i64 o.is)).setCell ⟨w.heap.size+1+1,6,none⟩ (.int .i64 o.ve)).heap[w.heap.size]? =some (hnB x o 27):=(h_other (g:=w.heap.size+1+1) (i:=6) (h_other (g:=w.heap.size+1+1) (i:=5) (h_other (g:=w.heap.size+1+1) (i:=4) (h_other (g:=w.heap.size+1+1) (i:=3) (h_other (g:=w.heap.size+1+1) (i:=2) (h_other (g:=w.heap.size+1+1) (i:=1) k0 (by omega) (.int .i64 o.p)) (by omega) (.int .i64 o.q)) (by omega) (.int .i64 o.g)) (by omega) (.int .i64 o.op)) (by omega) (.int .i64 o.is)) (by omega) (.int .i64 o.ve))
 have k1n:((((((v0.setCell ⟨w.heap.size+1+1,1,none⟩ (.int .i64 o.p)).setCell ⟨w.heap.size+1+1,2,none⟩ (.int .i64 o.q)).setCell ⟨w.heap.size+1+1,3,none⟩ (.int .i64 o.g)).setCell ⟨w.heap.size+1+1,4,none⟩ (.int .i64 o.op)).setCell ⟨w.heap.size+1+1,5,none⟩ (.int .i64 o.is)).setCell ⟨w.heap.size+1+1,6,none⟩ (.int .i64 o.ve)).heap[w.heap.size+1]? =some (.cells #[.int .i64 0,.int .i64 0,.int .i64 0,.int .i64 0,.int .i64 0,.int .i64 0,.int .i64 0,.slice none 0 0,.slice none 0 0] 35):=(h_other (g:=w.heap.size+1+1) (i:=6) (h_other (g:=w.heap.size+1+1) (i:=5) (h_other (g:=w.heap.size+1+1) (i:=4) (h_other (g:=w.heap.size+1+1) (i:=3) (h_other (g:=w.heap.size+1+1) (i:=2) (h_other (g:=w.heap.size+1+1) (i:=1) k1 (by omega) (.int .i64 o.p)) (by omega) (.int .i64 o.q)) (by omega) (.int .i64 o.g)) (by omega) (.int .i64 o.op)) (by omega) (.int .i64 o.is)) (by omega) (.int .i64 o.ve))
 have k2n:((((((v0.setCell ⟨w.heap.size+1+1,1,none⟩ (.int .i64 o.p)).setCell ⟨w.heap.size+1+1,2,none⟩ (.int .i64 o.q)).setCell ⟨w.heap.size+1+1,3,none⟩ (.int .i64 o.g)).setCell ⟨w.heap.size+1+1,4,none⟩ (.int .i64 o.op)).setCell ⟨w.heap.size+1+1,5,none⟩ (.int .i64 o.is)).setCell ⟨w.heap.size+1+1,6,none⟩ (.int .i64 o.ve)).heap[w.heap.size+1+1]? =some (.cells #[.int .i64 o.dv,.int .i64 o.p,.int .i64 o.q,.int .i64 o.g,.int .i64 o.op,.int .i64 o.is,.int .i64 o.ve,.slice none 0 0,.slice none 0 0] 35):=(h_set (i:=6) (h_set (i:=5) (h_set (i:=4) (h_set (i:=3) (h_set (i:=2) (h_set (i:=1) k2 (.int .i64 o.p)) (.int .i64 o.q)) (.int .i64 o.g)) (.int .i64 o.op)) (.int .i64 o.is)) (.int .i64 o.ve))
 have Bn:Below w.heap.size w ((((((v0.setCell ⟨w.heap.size+1+1,1,none⟩ (.int .i64 o.p)).setCell ⟨w.heap.size+1+1,2,none⟩ (.int .i64 o.q)).setCell ⟨w.heap.size+1+1,3,none⟩ (.int .i64 o.g)).setCell ⟨w.heap.size+1+1,4,none⟩ (.int .i64 o.op)).setCell ⟨w.heap.size+1+1,5,none⟩ (.int .i64 o.is)).setCell ⟨w.heap.size+1+1,6,none⟩ (.int .i64 o.ve)):=by
  (repeat' (first|apply Below.setCell|exact B0))<;>first|(simp;done)|(simp;omega)
 have hn:w.heap.size+1+1+1≤((((((v0.setCell ⟨w.heap.size+1+1,1,none⟩ (.int .i64 o.p)).setCell ⟨w.heap.size+1+1,2,none⟩ (.int .i64 o.q)).setCell ⟨w.heap.size+1+1,3,none⟩ (.int .i64 o.g)).setCell ⟨w.heap.size+1+1,4,none⟩ (.int .i64 o.op)).setCell ⟨w.heap.size+1+1,5,none⟩ (.int .i64 o.is)).setCell ⟨w.heap.size+1+1,6,none⟩ (.int .i64 o.ve)).heap.size:=by
  rw[World.size_setCell,World.size_setCell,World.size_setCell,World.size_setCell,World.size_setCell,World.size_setCell]
  exact hl
 have a0:v0.cell? ⟨w.heap.size,0,none⟩=some (.int .i64 o.dv):=cell_at k0 0
 have a1:v0.cell? ⟨w.heap.size,1,none⟩=some (.int .i64 o.p):=cell_at k0 1
 have a2:v0.cell? ⟨w.heap.size,2,none⟩=some (.int .i64 o.q):=cell_at k0 2
 have a3:v0.cell? ⟨w.heap.size,3,none⟩=some (.int .i64 o.g):=cell_at k0 3
 have a4:v0.cell? ⟨w.heap.size,4,none⟩=some (.int .i64 o.op):=cell_at k0 4
 have a5:v0.cell? ⟨w.heap.size,5,none⟩=some (.int .i64 o.is):=cell_at k0 5
 have a6:v0.cell? ⟨w.heap.size,6,none⟩=some (.int .i64 o.ve):=cell_at k0 6
 have a7:v0.cell? ⟨w.heap.size,7,none⟩=some (.slice x.a o.ol.length x.c):=cell_at k0 7
 have a8:v0.cell? ⟨w.heap.size,8,none⟩=some (.slice x.b o.sl.length x.d):=cell_at k0 8
 have b0:v0.cell? ⟨w.heap.size+1+1,0,none⟩=some (.int .i64 o.dv):=cell_at k2 0
 have f0:v0.frozen? ⟨w.heap.size+1+1,0,none⟩=false:=frozen_at k2 0
 have b1:v0.cell? ⟨w.heap.size+1+1,1,none⟩=some (.int .i64 0):=cell_at k2 1
 have f1:v0.frozen? ⟨w.heap.size+1+1,1,none⟩=false:=frozen_at k2 1
 have b2:v0.cell? ⟨w.heap.size+1+1,2,none⟩=some (.int .i64 0):=cell_at k2 2
 have f2:v0.frozen? ⟨w.heap.size+1+1,2,none⟩=false:=frozen_at k2 2
 have b3:v0.cell? ⟨w.heap.size+1+1,3,none⟩=some (.int .i64 0):=cell_at k2 3
 have f3:v0.frozen? ⟨w.heap.size+1+1,3,none⟩=false:=frozen_at k2 3
 have b4:v0.cell? ⟨w.heap.size+1+1,4,none⟩=some (.int .i64 0):=cell_at k2 4
 have f4:v0.frozen? ⟨w.heap.size+1+1,4,none⟩=false:=frozen_at k2 4
 have b5:v0.cell? ⟨w.heap.size+1+1,5,none⟩=some (.int .i64 0):=cell_at k2 5
 have f5:v0.frozen? ⟨w.heap.size+1+1,5,none⟩=false:=frozen_at k2 5
 have b6:v0.cell? ⟨w.heap.size+1+1,6,none⟩=some (.int .i64 0):=cell_at k2 6
 have f6:v0.frozen? ⟨w.heap.size+1+1,6,none⟩=false:=frozen_at k2 6
 have b7:v0.cell? ⟨w.heap.size+1+1,7,none⟩=some (.slice none 0 0):=cell_at k2 7
 have f7:v0.frozen? ⟨w.heap.size+1+1,7,none⟩=false:=frozen_at k2 7
 have b8:v0.cell? ⟨w.heap.size+1+1,8,none⟩=some (.slice none 0 0):=cell_at k2 8
 have f8:v0.frozen? ⟨w.heap.size+1+1,8,none⟩=false:=frozen_at k2 8
 clear k0 k1 k2 hl
 go_wp2_with fail
 refine named fun W1 hW=> ?_
 rw[←hW]at k0n k1n k2n Bn hn
 clear hW a0 b0 f0 a1 b1 f1 a2 b2 f2 a3 b3 f3 a4 b4 f4 a5 b5 f5 a6 b6 f6 a7 b7 f7 a8 b8 f8
 refine(toIntS_val x.a o.ol x.c W1 HZ.out.1 (I.off.on Bn)).mono ?_
 rintro e v1 ⟨rfl,L1,M1,hl1,R1⟩
 have k0:=kept L1 (lt_of k0n) k0n
 have k1:=kept L1 (lt_of k1n) k1n
 have k2:=kept L1 (lt_of k2n) k2n
 have B1:=join_below Bn L1
 have hg1:w.heap.size+1+1+1≤W1.heap.size:=hn
 generalize W1.heap.size=g1 at*
 clear L1 k0n k1n k2n Bn hn B0
 have k0n:(v1.setCell ⟨w.heap.size+1+1,7,none⟩ (.slice (some ⟨g1,0,none⟩) o.ol.length o.ol.length)).heap[w.heap.size]? =some (hnB x o 27):=h_other (g:=w.heap.size+1+1) (i:=7) k0 (by omega) _
 have k1n:(v1.setCell ⟨w.heap.size+1+1,7,none⟩ (.slice (some ⟨g1,0,none⟩) o.ol.length o.ol.length)).heap[w.heap.size+1]? =some (.cells #[.int .i64 0,.int .i64 0,.int .i64 0,.int .i64 0,.int .i64 0,.int .i64 0,.int .i64 0,.slice none 0 0,.slice none 0 0] 35):=h_other (g:=w.heap.size+1+1) (i:=7) k1 (by omega) _
 have k2n:(v1.setCell ⟨w.heap.size+1+1,7,none⟩ (.slice (some ⟨g1,0,none⟩) o.ol.length o.ol.length)).heap[w.heap.size+1+1]? =some (.cells #[.int .i64 o.dv,.int .i64 o.p,.int .i64 o.q,.int .i64 o.g,.int .i64 o.op,.int .i64 o.is,.int .i64 o.ve,.slice (some ⟨g1,0,none⟩) o.ol.length o.ol.length,.slice none 0 0] 35):=h_set (i:=7) k2 _
 have Bn:Below w.heap.size w (v1.setCell ⟨w.heap.size+1+1,7,none⟩ (.slice (some ⟨g1,0,none⟩) o.ol.length o.ol.length)):=B1.setCell (show w.heap.size≤w.heap.size+1+1 by omega) _
 have M1n:Ints (v1.setCell ⟨w.heap.size+1+1,7,none⟩ (.slice (some ⟨g1,0,none⟩) o.ol.length o.ol.length)) (some ⟨g1,0,none⟩) o.ol:=ints_other M1 (by omega)
 have R1n:Room (v1.setCell ⟨w.heap.size+1+1,7,none⟩ (.slice (some ⟨g1,0,none⟩) o.ol.length o.ol.length)) g1 o.ol.length:=R1.set _ _ _
 have hn:g1<(v1.setCell ⟨w.heap.size+1+1,7,none⟩ (.slice (some ⟨g1,0,none⟩) o.ol.length o.ol.length)).heap.size:=by rw[World.size_setCell];exact hl1
 have a8:v1.cell? ⟨w.heap.size,8,none⟩=some (.slice x.b o.sl.length x.d):=cell_at k0 8
 have b7:v1.cell? ⟨w.heap.size+1+1,7,none⟩=some (.slice none 0 0):=cell_at k2 7
 have f7:v1.frozen? ⟨w.heap.size+1+1,7,none⟩=false:=frozen_at k2 7
 clear k0 k1 k2 M1 R1 hl1
 go_wp2_with fail
 refine named fun W2 hW=> ?_
 rw[←hW]at k0n k1n k2n Bn hn M1n R1n
 clear hW a8 b7 f7
 refine(toControlS_val x.b o.sl x.d W2 HZ.out.2 (I.seen.on Bn)).mono ?_
 rintro e v2 ⟨rfl,L2,M2,hl2,R2⟩
 have k1:=kept L2 (lt_of k1n) k1n
 have k2:=kept L2 (lt_of k2n) k2n
 have B2:=join_below Bn L2
 have M1:=M1n.on L2
 have R1:=R1n.on L2 hn
 have hg12:g1<W2.heap.size:=hn
 generalize W2.heap.size=g2 at*
 clear L2 k0n k1n k2n Bn hn B1 M1n R1n
 have b0:v2.cell? ⟨w.heap.size+1+1,0,none⟩=some (.int .i64 o.dv):=cell_at k2 0
 have c0:v2.cell? ⟨w.heap.size+1,0,none⟩=some (.int .i64 0):=cell_at k1 0
 have e0:v2.frozen? ⟨w.heap.size+1,0,none⟩=false:=frozen_at k1 0
 have b1:v2.cell? ⟨w.heap.size+1+1,1,none⟩=some (.int .i64 o.p):=cell_at k2 1
 have c1:v2.cell? ⟨w.heap.size+1,1,none⟩=some (.int .i64 0):=cell_at k1 1
 have e1:v2.frozen? ⟨w.heap.size+1,1,none⟩=false:=frozen_at k1 1
 have b2:v2.cell? ⟨w.heap.size+1+1,2,none⟩=some (.int .i64 o.q):=cell_at k2 2
 have c2:v2.cell? ⟨w.heap.size+1,2,none⟩=some (.int .i64 0):=cell_at k1 2
 have e2:v2.frozen? ⟨w.heap.size+1,2,none⟩=false:=frozen_at k1 2
 have b3:v2.cell? ⟨w.heap.size+1+1,3,none⟩=some (.int .i64 o.g):=cell_at k2 3
 have c3:v2.cell? ⟨w.heap.size+1,3,none⟩=some (.int .i64 0):=cell_at k1 3
 have e3:v2.frozen? ⟨w.heap.size+1,3,none⟩=false:=frozen_at k1 3
 have b4:v2.cell? ⟨w.heap.size+1+1,4,none⟩=some (.int .i64 o.op):=cell_at k2 4
 have c4:v2.cell? ⟨w.heap.size+1,4,none⟩=some (.int .i64 0):=cell_at k1 4
 have e4:v2.frozen? ⟨w.heap.size+1,4,none⟩=false:=frozen_at k1 4
 have b5:v2.cell? ⟨w.heap.size+1+1,5,none⟩=some (.int .i64 o.is):=cell_at k2 5
 have c5:v2.cell? ⟨w.heap.size+1,5,none⟩=some (.int .i64 0):=cell_at k1 5
 have e5:v2.frozen? ⟨w.heap.size+1,5,none⟩=false:=frozen_at k1 5
 have b6:v2.cell? ⟨w.heap.size+1+1,6,none⟩=some (.int .i64 o.ve):=cell_at k2 6
 have c6:v2.cell? ⟨w.heap.size+1,6,none⟩=some (.int .i64 0):=cell_at k1 6
 have e6:v2.frozen? ⟨w.heap.size+1,6,none⟩=false:=frozen_at k1 6
 have b7:v2.cell? ⟨w.heap.size+1+1,7,none⟩=some (.slice (some ⟨g1,0,none⟩) o.ol.length o.ol.length):=cell_at k2 7
 have c7:v2.cell? ⟨w.heap.size+1,7,none⟩=some (.slice none 0 0):=cell_at k1 7
 have e7:v2.frozen? ⟨w.heap.size+1,7,none⟩=false:=frozen_at k1 7
 have b8:v2.cell? ⟨w.heap.size+1+1,8,none⟩=some (.slice none 0 0):=cell_at k2 8
 have c8:v2.cell? ⟨w.heap.size+1,8,none⟩=some (.slice none 0 0):=cell_at k1 8
 have e8:v2.frozen? ⟨w.heap.size+1,8,none⟩=false:=frozen_at k1 8
 have f8:v2.frozen? ⟨w.heap.size+1+1,8,none⟩=false:=frozen_at k2 8
 have HFIN:Hid (∀W,Sw (w.heap.size+1+1) (w.heap.size+1) v2 W→In W ⟨some ⟨g1,0,none⟩,o.ol.length,some ⟨g2,0,none⟩,o.sl.length⟩ o∧Mine w.heap.size W ⟨some ⟨g1,0,none⟩,o.ol.length,some ⟨g2,0,none⟩,o.sl.length⟩ o g1 g2∧g1<W.heap.size∧g2<W.heap.size∧True∧True):=by
  intro W s
  have q1:g1<W.heap.size:=by rw[s.size];omega
  have q2:g2<W.heap.size:=by rw[s.size];omega
  exact⟨⟨s.ints M1 (by omega) (by omega),s.ctls M2 (by omega) (by omega)⟩,⟨by omega,by omega,by omega,Or.inr ⟨rfl,q1,s.room R1 (by omega) (by omega)⟩,Or.inr ⟨rfl,q2,s.room R2 (by omega) (by omega)⟩⟩,q1,q2,trivial,trivial⟩
 have HB2:Hid (∀W,Below w.heap.size v2 W→Below w.heap.size w W):=fun W l=>B2.trans l
 clear k1 k2 M1 M2 R1 R2 hl2 B2 I
 go_wp2
 refine bodyPost_ret (v:=hnV ⟨some ⟨g1,0,none⟩,o.ol.length,some ⟨g2,0,none⟩,o.sl.length⟩ o) (by simp[results,Tryz.results7,go_sem,c0,c1,c2,c3,c4,c5,c6,c7,c8]) rfl ?_
 refine⟨_,g1,g2,rfl,HB2.out _ ?_,(fun h=>⟨h.1,h.2.1,h.2.2.1,h.2.2.2.1,rfl,rfl⟩) (HFIN.out _ ?_)⟩
 ·(repeat' (first|apply Below.setCell|exact Below.refl _ _))<;>first|(simp;done)|(simp;omega)
 ·(repeat' (first|with_reducible exact Sw.refl _ _ _|with_reducible apply Sw.one|with_reducible apply Sw.two))

end Hn
end Go.Proofs.YtdcpjicgehdmfaaGreatDoor

/- Copies of a device by the program and by the model. -/
namespace Go.Proofs.YtdcpjicgehdmfaaGreatDoor
namespace Hn
open Go.ChangeShapes Go.WideShapes Go.ChangeAt Go.RowKit Go.Joins
open Pk (new_below join_below cell_at heap_new frozen_at lt_of kept heap_old Drawn info_of Room own_form own_below)
set_option linter.unusedSimpArgs false
set_option linter.unusedVariables false

structure Copied (lo:Nat) (w:World) (y:Pl) (o:Hnd):Prop where
 off:w.ownsRow lo 3 1 (.slice y.a o.ol.length y.c) o.ol.length (icells o.ol)
 seen:w.ownsRow lo 77 6 (.slice y.b o.sl.length y.d) o.sl.length (ccells o.sl)

def Flat (x:Pl):Prop:=(∃b o,x.a=some ⟨b,o,none⟩)∧∃b o,x.b=some ⟨b,o,none⟩

theorem Copied.on {lo:Nat} {w w1:World} {y:Pl} {o:Hnd} (h:Copied lo w y o) (L:Below w.heap.size w w1):Copied lo w1 y o:=⟨own_below h.off L (Nat.le_refl _),own_below h.seen L (Nat.le_refl _)⟩

theorem Copied.in {lo:Nat} {w:World} {y:Pl} {o:Hnd} (h:Copied lo w y o):In w y o:=by
 obtain⟨a,c,e,I⟩:=own_ints h.off
 obtain⟨b,d,e',J⟩:=own_ctls h.seen
 simp only[Value.slice.injEq,true_and]at e e'
 obtain⟨e1,-⟩:=e
 obtain⟨e2,-⟩:=e'
 exact⟨by rw[e1];exact I,by rw[e2];exact J⟩

theorem own_apart {w:World} {lo lo':Nat} {u v:Value} {n m s t:Nat} {xs ys:List Value} {g h:Nat} {c d:Nat} (O1:w.ownsRow lo 3 s u n xs) (O2:w.ownsRow lo' 77 t v m ys) (hu:u= .slice (some ⟨g,0,none⟩) n c) (hv:v= .slice (some ⟨h,0,none⟩) m d):g≠h:=by
 rintro rfl
 obtain⟨-,h1⟩:=O1
 obtain⟨-,h2⟩:=O2
 rcases h1 with⟨h1,-⟩|⟨g1,c1,cur1,e1,-,b1,-⟩
 ·rw[hu]at h1;cases h1
 rcases h2 with⟨h2,-⟩|⟨g2,c2,cur2,e2,-,b2,-⟩
 ·rw[hv]at h2;cases h2
 rw[hu]at e1
 rw[hv]at e2
 simp only[Value.slice.injEq,Option.some.injEq,Addr.mk.injEq]at e1 e2
 obtain⟨⟨rfl,-⟩,-⟩:=e1
 obtain⟨⟨rfl,-⟩,-⟩:=e2
 rw[b1]at b2
 simp only[Option.some.injEq,Obj.cells.injEq]at b2
 exact absurd b2.2.1 (by decide)

theorem Copied.mine {lo:Nat} {w:World} {y:Pl} {o:Hnd} (h:Copied lo w y o):∃g1 g2,Mine lo w y o g1 g2:=by
 rcases Nat.eq_zero_or_pos o.ol.length with h1|h1
 ·rcases Nat.eq_zero_or_pos o.sl.length with h2|h2
  ·exact⟨lo,lo+1,by omega,by omega,by omega,Or.inl h1,Or.inl h2⟩
  ·obtain⟨g,cap,hv,hb,hg,hr⟩:=own_room h.seen h2
   simp only[Value.slice.injEq,true_and]at hv
   exact⟨g+1,g,by omega,by omega,by omega,Or.inl h1,Or.inr ⟨hv.1,hg,hr⟩⟩
 ·obtain⟨g,cap,hv,hb,hg,hr⟩:=own_iroom h.off h1
  rcases Nat.eq_zero_or_pos o.sl.length with h2|h2
  ·simp only[Value.slice.injEq,true_and]at hv
   exact⟨g,g+1,by omega,by omega,by omega,Or.inr ⟨hv.1,hg,hr⟩,Or.inl h2⟩
  ·obtain⟨g',cap',hv',hb',hg',hr'⟩:=own_room h.seen h2
   have hne:=own_apart h.off h.seen hv hv'
   simp only[Value.slice.injEq,true_and]at hv hv'
   exact⟨g,g',hne,hb,hb',Or.inr ⟨hv.1,hg,hr⟩,Or.inr ⟨hv'.1,hg',hr'⟩⟩

theorem own_free {w:World} {lo e size n:Nat} {v:Value} {xs:List Value} (h:w.ownsRow lo e size v n xs) {P i:Nat} {u:Value} (hP:P<lo):(w.setCell ⟨P,i,none⟩ u).ownsRow lo e size v n xs:=by
 obtain⟨h1,h2⟩:=h
 refine⟨h1,?_⟩
 rcases h2 with h2|⟨g,cap,cur,hv,hg,hh,hr⟩
 ·exact Or.inl h2
 ·refine Or.inr ⟨g,cap,cur,hv,hg,?_,hr⟩
  rw[Below.heap_setCell w ⟨P,i,none⟩ u g (by show g≠P;omega)]
  exact hh

theorem own_lower {w:World} {lo lo' e size n:Nat} {v:Value} {xs:List Value} (h:w.ownsRow lo e size v n xs) (hl:lo'≤lo):w.ownsRow lo' e size v n xs:=by
 obtain⟨h1,h2⟩:=h
 refine⟨h1,?_⟩
 rcases h2 with h2|⟨g,cap,cur,hv,hg,hh,hr⟩
 ·exact Or.inl h2
 ·exact Or.inr ⟨g,cap,cur,hv,Nat.le_trans hl hg,hh,hr⟩

theorem Sw.own {P Q lo e size n:Nat} {v w:World} {u:Value} {xs:List Value} (s:Sw P Q v w) (h:v.ownsRow lo e size u n xs) (h1:P<lo) (h2:Q<lo):w.ownsRow lo e size u n xs:=by
 obtain⟨k1,k2⟩:=h
 refine⟨k1,?_⟩
 rcases k2 with k2|⟨g,cap,cur,hv,hg,hh,hr⟩
 ·exact Or.inl k2
 ·refine Or.inr ⟨g,cap,cur,hv,hg,?_,hr⟩
  rw[s.block g (by omega) (by omega)]
  exact hh

set_option maxRecDepth 100000 in
set_option maxHeartbeats 4000000 in
theorem implCopy_val (x:Pl) (o:Hnd) (w:World) (hz:o.ol.length≤1048576) (hz2:o.sl.length≤1048576) (I:In w x o) (fl:Flat x):
 Calls Tryz.prog 49 #[hnV x o] w fun e w'=>∃y,e= .returned (hnV y o)∧Copied w.heap.size w' y o∧Below w.heap.size w w':=by
 have HZ:Hid (o.ol.length≤1048576∧o.sl.length≤1048576):=⟨hz,hz2⟩
 obtain⟨⟨b1,o1,ea⟩,⟨b2,o2,eb⟩⟩:=fl
 have I1:Ints w (some ⟨b1,o1,none⟩) o.ol:=by rw[←ea];exact I.off
 have I2:Controls w (some ⟨b2,o2,none⟩) o.sl:=by rw[←eb];exact I.seen
 obtain⟨xa,xc,xb,xd⟩:=x
 simp only at ea eb
 subst ea eb
 obtain⟨k0,k1,hs⟩:=two_blocks w (hnB ⟨some ⟨b1,o1,none⟩,xc,some ⟨b2,o2,none⟩,xd⟩ o 35) (.cells #[.int .i64 0,.int .i64 0,.int .i64 0,.int .i64 0,.int .i64 0,.int .i64 0,.int .i64 0,.slice none 0 0,.slice none 0 0] 35)
 have L:Below w.heap.size w ((w.alloc (hnB ⟨some ⟨b1,o1,none⟩,xc,some ⟨b2,o2,none⟩,xd⟩ o 35)).alloc (.cells #[.int .i64 0,.int .i64 0,.int .i64 0,.int .i64 0,.int .i64 0,.int .i64 0,.int .i64 0,.slice none 0 0,.slice none 0 0] 35)):=join_below (new_below _ _) (new_below _ _)
 clear hz hz2 I
 go_enter Tryz.func49,Tryz.ntmps49
 go_wp2_with fail
 refine named fun W0 hW=> ?_
 rw[←hW]at k0 k1 L hs
 clear hW
 refine(clone_ints b1 o1 o.ol xc W0 HZ.out.1 (I1.on L)).mono ?_
 rintro e v1 ⟨v,rfl,O1,L1⟩
 obtain⟨va,vc,rfl,-⟩:=own_form O1
 have m0:=kept L1 (lt_of k0) k0
 have m1:=kept L1 (lt_of k1) k1
 have B1:=join_below L L1
 have hg1:w.heap.size+1+1≤W0.heap.size:=Nat.le_of_eq hs.symm
 have hl1:W0.heap.size≤v1.heap.size:=L1.size
 clear k0 k1 L L1 hs
 have n0:(v1.setCell ⟨w.heap.size,7,none⟩ (.slice va o.ol.length vc)).heap[w.heap.size]? =some (.cells #[.int .i64 o.dv,.int .i64 o.p,.int .i64 o.q,.int .i64 o.g,.int .i64 o.op,.int .i64 o.is,.int .i64 o.ve,.slice va o.ol.length vc,.slice (some ⟨b2,o2,none⟩) o.sl.length xd] 35):=h_set (i:=7) m0 _
 have n1:(v1.setCell ⟨w.heap.size,7,none⟩ (.slice va o.ol.length vc)).heap[w.heap.size+1]? =some (.cells #[.int .i64 0,.int .i64 0,.int .i64 0,.int .i64 0,.int .i64 0,.int .i64 0,.int .i64 0,.slice none 0 0,.slice none 0 0] 35):=h_other (i:=7) m1 (by omega) _
 have Bn:Below w.heap.size w (v1.setCell ⟨w.heap.size,7,none⟩ (.slice va o.ol.length vc)):=B1.setCell (Nat.le_refl _) _
 have O1n:(v1.setCell ⟨w.heap.size,7,none⟩ (.slice va o.ol.length vc)).ownsRow W0.heap.size 3 1 (.slice va o.ol.length vc) o.ol.length (icells o.ol):=own_free O1 (by omega)
 have J2:Controls (v1.setCell ⟨w.heap.size,7,none⟩ (.slice va o.ol.length vc)) (some ⟨b2,o2,none⟩) o.sl:=I2.on Bn
 have hn:W0.heap.size≤(v1.setCell ⟨w.heap.size,7,none⟩ (.slice va o.ol.length vc)).heap.size:=by rw[World.size_setCell];exact hl1
 have a7:v1.cell? ⟨w.heap.size,7,none⟩=some (.slice (some ⟨b1,o1,none⟩) o.ol.length xc):=cell_at m0 7
 have a8:v1.cell? ⟨w.heap.size,8,none⟩=some (.slice (some ⟨b2,o2,none⟩) o.sl.length xd):=cell_at m0 8
 have f7:v1.frozen? ⟨w.heap.size,7,none⟩=false:=frozen_at m0 7
 clear m0 m1 O1 B1 hl1
 go_wp2_with fail
 refine named fun W1 hW=> ?_
 rw[←hW]at n0 n1 Bn O1n J2 hn
 clear hW a7 a8 f7
 refine(clone_ctls b2 o2 o.sl xd W1 HZ.out.2 J2).mono ?_
 rintro e v2 ⟨v,rfl,O2,L2⟩
 obtain⟨sa,sc,rfl,-⟩:=own_form O2
 have m0:=kept L2 (lt_of n0) n0
 have m1:=kept L2 (lt_of n1) n1
 have B2:=join_below Bn L2
 have O1:=own_below O1n L2 (Nat.le_refl _)
 have hlo:w.heap.size+1+1≤W1.heap.size:=Nat.le_trans hg1 hn
 have d0:v2.cell? ⟨w.heap.size,0,none⟩=some (.int .i64 o.dv):=cell_at m0 0
 have d1:v2.cell? ⟨w.heap.size,1,none⟩=some (.int .i64 o.p):=cell_at m0 1
 have d2:v2.cell? ⟨w.heap.size,2,none⟩=some (.int .i64 o.q):=cell_at m0 2
 have d3:v2.cell? ⟨w.heap.size,3,none⟩=some (.int .i64 o.g):=cell_at m0 3
 have d4:v2.cell? ⟨w.heap.size,4,none⟩=some (.int .i64 o.op):=cell_at m0 4
 have d5:v2.cell? ⟨w.heap.size,5,none⟩=some (.int .i64 o.is):=cell_at m0 5
 have d6:v2.cell? ⟨w.heap.size,6,none⟩=some (.int .i64 o.ve):=cell_at m0 6
 have d7:v2.cell? ⟨w.heap.size,7,none⟩=some (.slice va o.ol.length vc):=cell_at m0 7
 have d8:v2.cell? ⟨w.heap.size,8,none⟩=some (.slice (some ⟨b2,o2,none⟩) o.sl.length xd):=cell_at m0 8
 have e0:v2.cell? ⟨w.heap.size+1,0,none⟩=some (.int .i64 0):=cell_at m1 0
 have e1:v2.cell? ⟨w.heap.size+1,1,none⟩=some (.int .i64 0):=cell_at m1 1
 have e2:v2.cell? ⟨w.heap.size+1,2,none⟩=some (.int .i64 0):=cell_at m1 2
 have e3:v2.cell? ⟨w.heap.size+1,3,none⟩=some (.int .i64 0):=cell_at m1 3
 have e4:v2.cell? ⟨w.heap.size+1,4,none⟩=some (.int .i64 0):=cell_at m1 4
 have e5:v2.cell? ⟨w.heap.size+1,5,none⟩=some (.int .i64 0):=cell_at m1 5
 have e6:v2.cell? ⟨w.heap.size+1,6,none⟩=some (.int .i64 0):=cell_at m1 6
 have e7:v2.cell? ⟨w.heap.size+1,7,none⟩=some (.slice none 0 0):=cell_at m1 7
 have e8:v2.cell? ⟨w.heap.size+1,8,none⟩=some (.slice none 0 0):=cell_at m1 8
 have g8:v2.frozen? ⟨w.heap.size,8,none⟩=false:=frozen_at m0 8
 have f0:v2.frozen? ⟨w.heap.size+1,0,none⟩=false:=frozen_at m1 0
 have f1:v2.frozen? ⟨w.heap.size+1,1,none⟩=false:=frozen_at m1 1
 have f2:v2.frozen? ⟨w.heap.size+1,2,none⟩=false:=frozen_at m1 2
 have f3:v2.frozen? ⟨w.heap.size+1,3,none⟩=false:=frozen_at m1 3
 have f4:v2.frozen? ⟨w.heap.size+1,4,none⟩=false:=frozen_at m1 4
 have f5:v2.frozen? ⟨w.heap.size+1,5,none⟩=false:=frozen_at m1 5
 have f6:v2.frozen? ⟨w.heap.size+1,6,none⟩=false:=frozen_at m1 6
 have f7:v2.frozen? ⟨w.heap.size+1,7,none⟩=false:=frozen_at m1 7
 have f8:v2.frozen? ⟨w.heap.size+1,8,none⟩=false:=frozen_at m1 8
 have HFIN:Hid (∀W,Sw (w.heap.size) (w.heap.size+1) v2 W→Copied w.heap.size W ⟨va,vc,sa,sc⟩ o):=fun W s=>⟨own_lower (s.own O1 (by omega) (by omega)) (by omega),own_lower (s.own O2 (by omega) (by omega)) (by omega)⟩
 have HB2:Hid (∀W,Below w.heap.size v2 W→Below w.heap.size w W):=fun W l=>B2.trans l
 clear m0 m1 O1 O2 B2 n0 n1 L2 Bn O1n J2 hn hg1 hlo I1 I2
 go_wp2
 refine bodyPost_ret (v:=hnV ⟨va,vc,sa,sc⟩ o) (by simp[results,Tryz.results49,go_sem,e0,e1,e2,e3,e4,e5,e6,e7,e8]) rfl ?_
 refine⟨_,rfl,HFIN.out _ ?_,HB2.out _ ?_⟩
 ·(repeat' (first|with_reducible exact Sw.refl _ _ _|with_reducible apply Sw.one|with_reducible apply Sw.two))
 ·(repeat' (first|apply Below.setCell|exact Below.refl _ _))<;>first|(simp;done)|(simp;omega)

set_option maxRecDepth 100000 in
set_option maxHeartbeats 4000000 in
theorem specCopy_val (x:Pl) (o:Hnd) (w:World) (hz:o.ol.length≤1048576) (hz2:o.sl.length≤1048576) (I:In w x o) (fl:Flat x):
 Calls Tryz.prog 36 #[hnV x o] w fun e w'=>∃y,e= .returned (hnV y o)∧Copied w.heap.size w' y o∧Below w.heap.size w w':=by
 have HZ:Hid (o.ol.length≤1048576∧o.sl.length≤1048576):=⟨hz,hz2⟩
 obtain⟨⟨b1,o1,ea⟩,⟨b2,o2,eb⟩⟩:=fl
 have I1:Ints w (some ⟨b1,o1,none⟩) o.ol:=by rw[←ea];exact I.off
 have I2:Controls w (some ⟨b2,o2,none⟩) o.sl:=by rw[←eb];exact I.seen
 obtain⟨xa,xc,xb,xd⟩:=x
 simp only at ea eb
 subst ea eb
 obtain⟨k0,k1,hs⟩:=two_blocks w (hnB ⟨some ⟨b1,o1,none⟩,xc,some ⟨b2,o2,none⟩,xd⟩ o 35) (.cells #[.int .i64 0,.int .i64 0,.int .i64 0,.int .i64 0,.int .i64 0,.int .i64 0,.int .i64 0,.slice none 0 0,.slice none 0 0] 35)
 have L:Below w.heap.size w ((w.alloc (hnB ⟨some ⟨b1,o1,none⟩,xc,some ⟨b2,o2,none⟩,xd⟩ o 35)).alloc (.cells #[.int .i64 0,.int .i64 0,.int .i64 0,.int .i64 0,.int .i64 0,.int .i64 0,.int .i64 0,.slice none 0 0,.slice none 0 0] 35)):=join_below (new_below _ _) (new_below _ _)
 clear hz hz2 I
 go_enter Tryz.func36,Tryz.ntmps36
 obtain⟨i0,hi,hz0,hz1,hz2⟩:=info_of intInfo
 have ON:=nil_row ((w.alloc (hnB ⟨some ⟨b1,o1,none⟩,xc,some ⟨b2,o2,none⟩,xd⟩ o 35)).alloc (.cells #[.int .i64 0,.int .i64 0,.int .i64 0,.int .i64 0,.int .i64 0,.int .i64 0,.int .i64 0,.slice none 0 0,.slice none 0 0] 35)) 3 1
 have NN:=new_below ((w.alloc (hnB ⟨some ⟨b1,o1,none⟩,xc,some ⟨b2,o2,none⟩,xd⟩ o 35)).alloc (.cells #[.int .i64 0,.int .i64 0,.int .i64 0,.int .i64 0,.int .i64 0,.int .i64 0,.int .i64 0,.slice none 0 0,.slice none 0 0] 35)) (.cells #[] 3)
 rw[hs]at ON
 have HG:Hid (_):=ints_get ((I1.on L).on NN)
 have HC5:Hid (w.heap.size+1+1≤(((w.alloc (hnB ⟨some ⟨b1,o1,none⟩,xc,some ⟨b2,o2,none⟩,xd⟩ o 35)).alloc (.cells #[.int .i64 0,.int .i64 0,.int .i64 0,.int .i64 0,.int .i64 0,.int .i64 0,.int .i64 0,.slice none 0 0,.slice none 0 0] 35)).alloc (.cells #[] 3)).heap.size):=by show _≤_;rw[←hs];exact NN.size
 go_wp2_with (at_builtin;refine wpList_append_own_at _ rfl _ _ 24 rfl (w.heap.size+1+1) 3 i0 (.int .i64 0) 1 8 Tryz.underlying24 hi hz0 hz1 hz2 rfl (by decide) _ _ _ rfl ON ⟨b1,o1,none⟩ o.ol.length xc (icells o.ol) rfl ?c0 ?c1 ?c2 ?c3 ?c4 ?c5 ?_)
 case c0=>exact icells_length o.ol
 case c1=>exact HG.out
 case c2=>exact icells_one o.ol
 case c3=>have:=HZ.out.1;unfold maxLen;omega
 case c4=>have:=HZ.out.1;omega
 case c5=>exact HC5.out
 intro v' v1 O1 G1 _ _
 have L1:Below ((w.alloc (hnB ⟨some ⟨b1,o1,none⟩,xc,some ⟨b2,o2,none⟩,xd⟩ o 35)).alloc (.cells #[.int .i64 0,.int .i64 0,.int .i64 0,.int .i64 0,.int .i64 0,.int .i64 0,.int .i64 0,.slice none 0 0,.slice none 0 0] 35)).heap.size ((w.alloc (hnB ⟨some ⟨b1,o1,none⟩,xc,some ⟨b2,o2,none⟩,xd⟩ o 35)).alloc (.cells #[.int .i64 0,.int .i64 0,.int .i64 0,.int .i64 0,.int .i64 0,.int .i64 0,.int .i64 0,.slice none 0 0,.slice none 0 0] 35)) v1:=NN.grown G1 NN.size (fun j hj=>by rw[hs];exact(ON.lt j hj).1)
 try rw[Nat.zero_add,List.nil_append]at O1
 obtain⟨va,vc,rfl,-⟩:=own_form O1
 clear ON NN HG HC5 G1 hi hz0 hz1 hz2
 obtain⟨W0,hW⟩:∃W,W=((w.alloc (hnB ⟨some ⟨b1,o1,none⟩,xc,some ⟨b2,o2,none⟩,xd⟩ o 35)).alloc (.cells #[.int .i64 0,.int .i64 0,.int .i64 0,.int .i64 0,.int .i64 0,.int .i64 0,.int .i64 0,.slice none 0 0,.slice none 0 0] 35)):=⟨_,rfl⟩
 rw[←hW]at k0 k1 L hs L1
 rw[←hs]at O1
 clear hW
 have m0:=kept L1 (lt_of k0) k0
 have m1:=kept L1 (lt_of k1) k1
 have B1:=join_below L L1
 have hg1:w.heap.size+1+1≤W0.heap.size:=Nat.le_of_eq hs.symm
 have hl1:W0.heap.size≤v1.heap.size:=L1.size
 clear k0 k1 L L1 hs
 have n0:(v1.setCell ⟨w.heap.size,7,none⟩ (.slice va o.ol.length vc)).heap[w.heap.size]? =some (.cells #[.int .i64 o.dv,.int .i64 o.p,.int .i64 o.q,.int .i64 o.g,.int .i64 o.op,.int .i64 o.is,.int .i64 o.ve,.slice va o.ol.length vc,.slice (some ⟨b2,o2,none⟩) o.sl.length xd] 35):=h_set (i:=7) m0 _
 have n1:(v1.setCell ⟨w.heap.size,7,none⟩ (.slice va o.ol.length vc)).heap[w.heap.size+1]? =some (.cells #[.int .i64 0,.int .i64 0,.int .i64 0,.int .i64 0,.int .i64 0,.int .i64 0,.int .i64 0,.slice none 0 0,.slice none 0 0] 35):=h_other (i:=7) m1 (by omega) _
 have Bn:Below w.heap.size w (v1.setCell ⟨w.heap.size,7,none⟩ (.slice va o.ol.length vc)):=B1.setCell (Nat.le_refl _) _
 have O1n:(v1.setCell ⟨w.heap.size,7,none⟩ (.slice va o.ol.length vc)).ownsRow W0.heap.size 3 1 (.slice va o.ol.length vc) o.ol.length (icells o.ol):=own_free O1 (by omega)
 have J2:Controls (v1.setCell ⟨w.heap.size,7,none⟩ (.slice va o.ol.length vc)) (some ⟨b2,o2,none⟩) o.sl:=I2.on Bn
 have hn:W0.heap.size≤(v1.setCell ⟨w.heap.size,7,none⟩ (.slice va o.ol.length vc)).heap.size:=by rw[World.size_setCell];exact hl1
 have a7:v1.cell? ⟨w.heap.size,7,none⟩=some (.slice (some ⟨b1,o1,none⟩) o.ol.length xc):=cell_at m0 7
 have a8:v1.cell? ⟨w.heap.size,8,none⟩=some (.slice (some ⟨b2,o2,none⟩) o.sl.length xd):=cell_at m0 8
 have f7:v1.frozen? ⟨w.heap.size,7,none⟩=false:=frozen_at m0 7
 clear m0 m1 O1 B1 hl1
 obtain⟨j0,hj,hy0,hy1,hy2⟩:=info_of info_control
 have ON:=nil_row (v1.setCell ⟨w.heap.size,7,none⟩ (.slice va o.ol.length vc)) 77 6
 have NN:=new_below (v1.setCell ⟨w.heap.size,7,none⟩ (.slice va o.ol.length vc)) (.cells #[] 77)
 have e9:(v1.setCell ⟨w.heap.size,7,none⟩ (.slice va o.ol.length vc)).heap.size=v1.heap.size:=World.size_setCell ..
 rw[e9]at ON
 have HG:Hid (_):=ctls_get (J2.on NN)
 have HC5:Hid (v1.heap.size≤((v1.setCell ⟨w.heap.size,7,none⟩ (.slice va o.ol.length vc)).alloc (.cells #[] 77)).heap.size):=by show _≤_;rw[←e9];exact NN.size
 clear e9
 have a8s:((v1.setCell ⟨w.heap.size,7,none⟩ (.slice va o.ol.length vc)).alloc (.cells #[] 77)).cell? ⟨w.heap.size,8,none⟩=some (.slice (some ⟨b2,o2,none⟩) o.sl.length xd):=cell_at (heap_old n0 _) 8
 go_wp2_with (at_builtin;refine wpList_append_own_at _ rfl _ _ 33 rfl v1.heap.size 77 j0 (lgV ⟨0,0,0,0,0,0⟩) 6 48 Tryz.underlying33 hj hy0 hy1 hy2 rfl (by decide) _ _ _ rfl ON ⟨b2,o2,none⟩ o.sl.length xd (ccells o.sl) rfl ?d0 ?d1 ?d2 ?d3 ?d4 ?d5 ?_)
 case d0=>exact ccells_length o.sl
 case d1=>exact HG.out
 case d2=>exact ccells_one o.sl
 case d3=>have:=HZ.out.2;unfold maxLen;omega
 case d4=>have:=HZ.out.2;omega
 case d5=>exact HC5.out
 intro v' v2 O2 G2 _ _
 have L2:Below (v1.setCell ⟨w.heap.size,7,none⟩ (.slice va o.ol.length vc)).heap.size (v1.setCell ⟨w.heap.size,7,none⟩ (.slice va o.ol.length vc)) v2:=NN.grown G2 NN.size (fun j hj=>by rw[World.size_setCell];exact(ON.lt j hj).1)
 try rw[Nat.zero_add,List.nil_append]at O2
 obtain⟨sa,sc,rfl,-⟩:=own_form O2
 clear ON NN HG HC5 G2 hj hy0 hy1 hy2 a7 a8 f7 a8s
 have e9:(v1.setCell ⟨w.heap.size,7,none⟩ (.slice va o.ol.length vc)).heap.size=v1.heap.size:=World.size_setCell ..
 rw[←e9]at O2
 obtain⟨W1,hW⟩:∃W,W=(v1.setCell ⟨w.heap.size,7,none⟩ (.slice va o.ol.length vc)):=⟨_,rfl⟩
 rw[←hW]at n0 n1 Bn O1n J2 hn L2 O2
 clear hW e9
 have m0:=kept L2 (lt_of n0) n0
 have m1:=kept L2 (lt_of n1) n1
 have B2:=join_below Bn L2
 have O1:=own_below O1n L2 (Nat.le_refl _)
 have hlo:w.heap.size+1+1≤W1.heap.size:=Nat.le_trans hg1 hn
 have d0:v2.cell? ⟨w.heap.size,0,none⟩=some (.int .i64 o.dv):=cell_at m0 0
 have d1:v2.cell? ⟨w.heap.size,1,none⟩=some (.int .i64 o.p):=cell_at m0 1
 have d2:v2.cell? ⟨w.heap.size,2,none⟩=some (.int .i64 o.q):=cell_at m0 2
 have d3:v2.cell? ⟨w.heap.size,3,none⟩=some (.int .i64 o.g):=cell_at m0 3
 have d4:v2.cell? ⟨w.heap.size,4,none⟩=some (.int .i64 o.op):=cell_at m0 4
 have d5:v2.cell? ⟨w.heap.size,5,none⟩=some (.int .i64 o.is):=cell_at m0 5
 have d6:v2.cell? ⟨w.heap.size,6,none⟩=some (.int .i64 o.ve):=cell_at m0 6
 have d7:v2.cell? ⟨w.heap.size,7,none⟩=some (.slice va o.ol.length vc):=cell_at m0 7
 have d8:v2.cell? ⟨w.heap.size,8,none⟩=some (.slice (some ⟨b2,o2,none⟩) o.sl.length xd):=cell_at m0 8
 have e0:v2.cell? ⟨w.heap.size+1,0,none⟩=some (.int .i64 0):=cell_at m1 0
 have e1:v2.cell? ⟨w.heap.size+1,1,none⟩=some (.int .i64 0):=cell_at m1 1
 have e2:v2.cell? ⟨w.heap.size+1,2,none⟩=some (.int .i64 0):=cell_at m1 2
 have e3:v2.cell? ⟨w.heap.size+1,3,none⟩=some (.int .i64 0):=cell_at m1 3
 have e4:v2.cell? ⟨w.heap.size+1,4,none⟩=some (.int .i64 0):=cell_at m1 4
 have e5:v2.cell? ⟨w.heap.size+1,5,none⟩=some (.int .i64 0):=cell_at m1 5
 have e6:v2.cell? ⟨w.heap.size+1,6,none⟩=some (.int .i64 0):=cell_at m1 6
 have e7:v2.cell? ⟨w.heap.size+1,7,none⟩=some (.slice none 0 0):=cell_at m1 7
 have e8:v2.cell? ⟨w.heap.size+1,8,none⟩=some (.slice none 0 0):=cell_at m1 8
 have g8:v2.frozen? ⟨w.heap.size,8,none⟩=false:=frozen_at m0 8
 have f0:v2.frozen? ⟨w.heap.size+1,0,none⟩=false:=frozen_at m1 0
 have f1:v2.frozen? ⟨w.heap.size+1,1,none⟩=false:=frozen_at m1 1
 have f2:v2.frozen? ⟨w.heap.size+1,2,none⟩=false:=frozen_at m1 2
 have f3:v2.frozen? ⟨w.heap.size+1,3,none⟩=false:=frozen_at m1 3
 have f4:v2.frozen? ⟨w.heap.size+1,4,none⟩=false:=frozen_at m1 4
 have f5:v2.frozen? ⟨w.heap.size+1,5,none⟩=false:=frozen_at m1 5
 have f6:v2.frozen? ⟨w.heap.size+1,6,none⟩=false:=frozen_at m1 6
 have f7:v2.frozen? ⟨w.heap.size+1,7,none⟩=false:=frozen_at m1 7
 have f8:v2.frozen? ⟨w.heap.size+1,8,none⟩=false:=frozen_at m1 8
 have HFIN:Hid (∀W,Sw (w.heap.size) (w.heap.size+1) v2 W→Copied w.heap.size W ⟨va,vc,sa,sc⟩ o):=fun W s=>⟨own_lower (s.own O1 (by omega) (by omega)) (by omega),own_lower (s.own O2 (by omega) (by omega)) (by omega)⟩
 have HB2:Hid (∀W,Below w.heap.size v2 W→Below w.heap.size w W):=fun W l=>B2.trans l
 clear m0 m1 O1 O2 B2 n0 n1 L2 Bn O1n J2 hn hg1 hlo I1 I2
 go_wp2
 refine bodyPost_ret (v:=hnV ⟨va,vc,sa,sc⟩ o) (by simp[results,Tryz.results36,go_sem,e0,e1,e2,e3,e4,e5,e6,e7,e8]) rfl ?_
 refine⟨_,rfl,HFIN.out _ ?_,HB2.out _ ?_⟩
 ·(repeat' (first|with_reducible exact Sw.refl _ _ _|with_reducible apply Sw.one|with_reducible apply Sw.two))
 ·(repeat' (first|apply Below.setCell|exact Below.refl _ _))<;>first|(simp;done)|(simp;omega)

end Hn
end Go.Proofs.YtdcpjicgehdmfaaGreatDoor

/- HandUpdate of program and model. -/
namespace Go.Proofs.YtdcpjicgehdmfaaGreatDoor
namespace Hn
open Go.ChangeShapes Go.WideShapes Go.ChangeAt Go.RowKit Go.Joins
open Pk (new_below join_below cell_at heap_new frozen_at lt_of kept heap_old Drawn info_of Room own_form own_below)
set_option linter.unusedSimpArgs false
set_option linter.unusedVariables false

def updB (o:Hnd) (ver:Int) (l:List Int):Bool:=handB o&&(decide (o.ve<ver)&&offB l)
def updO (b:Bool) (o:Hnd) (ver:Int) (l:List Int):Hnd:=if b=true then { o with ve:=ver,ol:=l } else o

theorem upd_no (o:Hnd) (ver:Int) (l:List Int):updO false o ver l=o:=rfl
theorem upd_yes (o:Hnd) (ver:Int) (l:List Int):updO true o ver l= { o with ve:=ver,ol:=l }:=rfl

theorem own_keep {lo e size n P:Nat} {v w:World} {u:Value} {xs:List Value} (h:v.ownsRow lo e size u n xs) (hP:P<lo) (hk:∀b,b<v.heap.size→b≠P→w.heap[b]? =v.heap[b]?):w.ownsRow lo e size u n xs:=by
 obtain⟨k1,k2⟩:=h
 refine⟨k1,?_⟩
 rcases k2 with k2|⟨g,cap,cur,hv,hg,hh,hr⟩
 ·exact Or.inl k2
 ·refine Or.inr ⟨g,cap,cur,hv,hg,?_,hr⟩
  rw[hk g (lt_of hh) (by omega)]
  exact hh

theorem Copied.lower {lo lo':Nat} {w:World} {y:Pl} {o:Hnd} (h:Copied lo w y o) (hl:lo'≤lo):Copied lo' w y o:=⟨own_lower h.off hl,own_lower h.seen hl⟩

theorem Copied.keep {lo P:Nat} {v w:World} {y:Pl} {o:Hnd} (h:Copied lo v y o) (hP:P<lo) (hk:∀b,b<v.heap.size→b≠P→w.heap[b]? =v.heap[b]?):Copied lo w y o:=⟨own_keep h.off hP hk,own_keep h.seen hP hk⟩

theorem Sw.keep {P Q B:Nat} {v u w:World} (s:Sw P Q u w) (L:Below B v u) (hB:v.heap.size≤B) (hQ:v.heap.size≤Q):∀b,b<v.heap.size→b≠P→w.heap[b]? =v.heap[b]? :=fun b h1 h2=>(s.block b h2 (by omega)).trans (L.block b (by omega))

end Hn
end Go.Proofs.YtdcpjicgehdmfaaGreatDoor

/- Inspect of the program. -/
namespace Go.Proofs.YtdcpjicgehdmfaaGreatDoor
namespace Hn
open Go.ChangeShapes Go.WideShapes Go.ChangeAt Go.RowKit Go.Joins
open Pk (new_below join_below cell_at heap_new frozen_at lt_of kept heap_old Drawn info_of Room own_form own_below)
open Tk (Lg Legs tkV tkB)
set_option linter.unusedSimpArgs false
set_option linter.unusedVariables false

def insB (o:Hnd) (tr dy:Int):Bool:=canB o tr dy&&decide (o.sl.length<300)
def insO (b:Bool) (o:Hnd) (c:Ct):Hnd:=if b=true then { o with sl:=o.sl++ [c] } else o
def insC (b:Bool) (k:Nat):Nat:=if b=true then k else 1

theorem ins_no1 {o:Hnd} {tr dy:Int} (h:canB o tr dy=false):insB o tr dy=false:=by unfold insB;rw[h];rfl
theorem ins_no2 {o:Hnd} {tr dy:Int} (h:¬o.sl.length<300):insB o tr dy=false:=by unfold insB;rw[decide_eq_false h,Bool.and_false]
theorem ins_ok {o:Hnd} {tr dy:Int} (h:canB o tr dy=true) (h2:o.sl.length<300):insB o tr dy=true:=by unfold insB;rw[h,decide_eq_true h2];rfl

theorem off_grown {w w5:World} {lo lo' n m:Nat} {u v:Value} {xs ys:List Value} (O1:w.ownsRow lo 3 1 u n xs) (O2:w.ownsRow lo' 77 6 v m ys) (G:w.grownBy w5 v.ownBlock):w5.ownsRow lo 3 1 u n xs:=by
 obtain⟨h1,h2⟩:=O1
 refine⟨h1,?_⟩
 rcases h2 with h2|⟨g,cap,cur,hv,hg,hh,hr⟩
 ·exact Or.inl h2
 ·refine Or.inr ⟨g,cap,cur,hv,hg,?_,hr⟩
  rw[G.block g (lt_of hh) (Pk.own_ne O2 hh (by decide))]
  exact hh

theorem grown_at {w w5:World} {v:Value} {k:Nat} {x:Obj} (G:w.grownBy w5 v.ownBlock) (h:w.heap[k]? =some x) (hk:some k≠v.ownBlock):w5.heap[k]? =some x:=(G.block k (lt_of h) hk).trans h

theorem grown_size {w w5:World} {r:Option Nat} (G:w.grownBy w5 r):w.heap.size≤w5.heap.size:=G.size

theorem Sw.drew {P Q:Nat} {v w:World} (s:Sw P Q v w):Sw P Q v w.drew:=⟨s.size,s.block⟩

theorem Sw.trans {P Q:Nat} {u v w:World} (s:Sw P Q u v) (t:Sw P Q v w):Sw P Q u w:=⟨t.size.trans s.size,fun b h1 h2=>(t.block b h1 h2).trans (s.block b h1 h2)⟩

theorem own_sw {P Q lo e size n:Nat} {v w:World} {u:Value} {xs:List Value} (h:v.ownsRow lo e size u n xs) (s:Sw P Q v w) (hk:∀k,u.ownBlock=some k→k≠Q∧P+1≤k):w.ownsRow lo e size u n xs:=by
 obtain⟨k1,k2⟩:=h
 refine⟨k1,?_⟩
 rcases k2 with k2|⟨g,cap,cur,hv,hg,hh,hr⟩
 ·exact Or.inl k2
 ·refine Or.inr ⟨g,cap,cur,hv,hg,?_,hr⟩
  have:=hk g (by rw[hv];rfl)
  rw[s.block g (by omega) this.1]
  exact hh

set_option maxRecDepth 100000 in
set_option maxHeartbeats 8000000 in
theorem implIns_val (x:Pl) (o:Hnd) (s:ByteArray) {RT:Tk.Hd} {RN:ByteArray} {RL:List Lg} {C:Nat} {wb:World} (HR:∀W:World,Below wb.heap.size wb W→Calls Tryz.prog 80 #[.agg #[.int .i64 o.p,.int .i64 o.q,.int .i64 o.g],.int .i64 o.op,.int .i64 o.is,.string s] W fun e w'=>RdOk RT RN RL C W.heap.size e w'∧Below W.heap.size W w') (hC:C≠0→RT.id=0) (tr dy:Int) (w:World) (KB:Below wb.heap.size wb w) (hz:o.ol.length≤1048576) (hz2:o.sl.length≤1048576) (hz3:RL.length≤1048576) (I:In w x o) (fl:Flat x):
 Calls Tryz.prog 21 #[hnV x o,.string s,.int .i64 tr,.int .i64 dy] w fun e w'=>∃y,e= .returned (.tuple #[hnV y (insO (insB o tr dy) o (ctlO o C RT RL tr dy)),.int .i64 (insC (insB o tr dy) (saidC o C RT RL tr dy):Nat)])∧Copied w.heap.size w' y (insO (insB o tr dy) o (ctlO o C RT RL tr dy))∧Below w.heap.size w w':=by
 obtain⟨k0,k1,hs⟩:=two_blocks w (hnB x o 35) (.cells #[.int .i64 0,.int .i64 0,.int .i64 0,.int .i64 0,.int .i64 0,.int .i64 0,.int .i64 0,.slice none 0 0,.slice none 0 0] 35)
 have L:Below w.heap.size w ((w.alloc (hnB x o 35)).alloc (.cells #[.int .i64 0,.int .i64 0,.int .i64 0,.int .i64 0,.int .i64 0,.int .i64 0,.int .i64 0,.slice none 0 0,.slice none 0 0] 35)):=join_below (new_below _ _) (new_below _ _)
 have HC:Hid (∀W:World,In W x o→_):=fun W h=>implCopy_val x o W hz hz2 h fl
 have HH:Hid (∀W:World,In W x o→_):=fun W h=>can_val x o tr dy W hz hz2 h
 have HK:Hid (∀W:World,Below wb.heap.size wb W→In W x o→_):=fun W k h=>control_val x o s HR hC tr dy W k hz hz2 hz3 h
 have HS:Hid (((ctlO o C RT RL tr dy).sa:Int)=(saidC o C RT RL tr dy:Nat)):=rfl
 clear hz hz2 hz3 HR hC fl
 cases h:canB o tr dy
 ·have HV:Hid (insB o tr dy=false):=ins_no1 h
  rw[h]at HH
  clear h HS KB
  go_enter Tryz.func21,Tryz.ntmps21
  go_wp2_with fail
  refine named fun V0 hV=> ?_
  rw[←hV]at k0 k1 L hs
  clear hV
  refine(HC.out _ (I.on L)).mono ?_
  rintro e v1 ⟨y,rfl,C1,L1⟩
  have n0:=kept L1 (lt_of k0) k0
  have n1:=kept L1 (lt_of k1) k1
  have B1:=join_below L L1
  have hg:w.heap.size+1+1≤V0.heap.size:=Nat.le_of_eq hs.symm
  have hl1:V0.heap.size≤v1.heap.size:=L1.size
  have NQ:=new_below v1 (hnB y o 35)
  have q2:=heap_new v1 (hnB y o 35)
  have q0:=heap_old n0 (hnB y o 35)
  have q1:=heap_old n1 (hnB y o 35)
  have B2:=join_below B1 NQ
  have IV:=I.on B2
  clear k0 k1 L L1 hs n0 n1
  have a0:(v1.alloc (hnB y o 35)).cell? ⟨w.heap.size,0,none⟩=some (.int .i64 o.dv):=cell_at q0 0
  have a1:(v1.alloc (hnB y o 35)).cell? ⟨w.heap.size,1,none⟩=some (.int .i64 o.p):=cell_at q0 1
  have a2:(v1.alloc (hnB y o 35)).cell? ⟨w.heap.size,2,none⟩=some (.int .i64 o.q):=cell_at q0 2
  have a3:(v1.alloc (hnB y o 35)).cell? ⟨w.heap.size,3,none⟩=some (.int .i64 o.g):=cell_at q0 3
  have a4:(v1.alloc (hnB y o 35)).cell? ⟨w.heap.size,4,none⟩=some (.int .i64 o.op):=cell_at q0 4
  have a5:(v1.alloc (hnB y o 35)).cell? ⟨w.heap.size,5,none⟩=some (.int .i64 o.is):=cell_at q0 5
  have a6:(v1.alloc (hnB y o 35)).cell? ⟨w.heap.size,6,none⟩=some (.int .i64 o.ve):=cell_at q0 6
  have a7:(v1.alloc (hnB y o 35)).cell? ⟨w.heap.size,7,none⟩=some (.slice x.a o.ol.length x.c):=cell_at q0 7
  have a8:(v1.alloc (hnB y o 35)).cell? ⟨w.heap.size,8,none⟩=some (.slice x.b o.sl.length x.d):=cell_at q0 8
  go_wp2_with fail
  refine named fun V1 hV=> ?_
  rw[←hV]at q0 q1 q2 B2 NQ IV
  clear hV a0 a1 a2 a3 a4 a5 a6 a7 a8
  refine(HH.out _ IV).mono ?_
  rintro e v2 ⟨rfl,L2⟩
  have m0:=kept L2 (lt_of q0) q0
  have m1:=kept L2 (lt_of q1) q1
  have m2:=kept L2 (lt_of q2) q2
  have B3:=join_below B2 L2
  have N2:Below v1.heap.size v1 v2:=join_below NQ L2
  have hlt:=lt_of m2
  have I2:=IV.on L2
  have HL:Hid (w.heap.size+1+1≤v1.heap.size):=by show _≤_;omega
  clear q0 q1 q2 B1 B2 NQ IV L2
  have e0:v2.cell? ⟨w.heap.size+1,0,none⟩=some (.int .i64 0):=cell_at m1 0
  have e1:v2.cell? ⟨w.heap.size+1,1,none⟩=some (.int .i64 0):=cell_at m1 1
  have e2:v2.cell? ⟨w.heap.size+1,2,none⟩=some (.int .i64 0):=cell_at m1 2
  have e3:v2.cell? ⟨w.heap.size+1,3,none⟩=some (.int .i64 0):=cell_at m1 3
  have e4:v2.cell? ⟨w.heap.size+1,4,none⟩=some (.int .i64 0):=cell_at m1 4
  have e5:v2.cell? ⟨w.heap.size+1,5,none⟩=some (.int .i64 0):=cell_at m1 5
  have e6:v2.cell? ⟨w.heap.size+1,6,none⟩=some (.int .i64 0):=cell_at m1 6
  have e7:v2.cell? ⟨w.heap.size+1,7,none⟩=some (.slice none 0 0):=cell_at m1 7
  have e8:v2.cell? ⟨w.heap.size+1,8,none⟩=some (.slice none 0 0):=cell_at m1 8
  have f0:v2.frozen? ⟨w.heap.size+1,0,none⟩=false:=frozen_at m1 0
  have f1:v2.frozen? ⟨w.heap.size+1,1,none⟩=false:=frozen_at m1 1
  have f2:v2.frozen? ⟨w.heap.size+1,2,none⟩=false:=frozen_at m1 2
  have f3:v2.frozen? ⟨w.heap.size+1,3,none⟩=false:=frozen_at m1 3
  have f4:v2.frozen? ⟨w.heap.size+1,4,none⟩=false:=frozen_at m1 4
  have f5:v2.frozen? ⟨w.heap.size+1,5,none⟩=false:=frozen_at m1 5
  have f6:v2.frozen? ⟨w.heap.size+1,6,none⟩=false:=frozen_at m1 6
  have f7:v2.frozen? ⟨w.heap.size+1,7,none⟩=false:=frozen_at m1 7
  have f8:v2.frozen? ⟨w.heap.size+1,8,none⟩=false:=frozen_at m1 8
  have g0:v2.cell? ⟨v1.heap.size,0,none⟩=some (.int .i64 o.dv):=cell_at m2 0
  have g1:v2.cell? ⟨v1.heap.size,1,none⟩=some (.int .i64 o.p):=cell_at m2 1
  have g2:v2.cell? ⟨v1.heap.size,2,none⟩=some (.int .i64 o.q):=cell_at m2 2
  have g3:v2.cell? ⟨v1.heap.size,3,none⟩=some (.int .i64 o.g):=cell_at m2 3
  have g4:v2.cell? ⟨v1.heap.size,4,none⟩=some (.int .i64 o.op):=cell_at m2 4
  have g5:v2.cell? ⟨v1.heap.size,5,none⟩=some (.int .i64 o.is):=cell_at m2 5
  have g6:v2.cell? ⟨v1.heap.size,6,none⟩=some (.int .i64 o.ve):=cell_at m2 6
  have g7:v2.cell? ⟨v1.heap.size,7,none⟩=some (.slice y.a o.ol.length y.c):=cell_at m2 7
  have g8:v2.cell? ⟨v1.heap.size,8,none⟩=some (.slice y.b o.sl.length y.d):=cell_at m2 8
  have HFIN:Hid (∀W,Sw (w.heap.size+1) v1.heap.size v2 W→Copied w.heap.size W y (insO false o (ctlO o C RT RL tr dy))):=fun W s=>(C1.keep (P:=w.heap.size+1) (by omega) (s.keep N2 (Nat.le_refl _) (Nat.le_refl _))).lower (by omega)
  have HB:Hid (∀W,Below w.heap.size v2 W→Below w.heap.size w W):=fun W l=>B3.trans l
  clear C1 m0 m1 m2 B3 N2 I2 hg hl1 hlt I HC HH HK
  go_wp2
  refine bodyPost_ret (v:= .tuple #[hnV y (o),.int .i64 (1)]) (by simp[results,Tryz.results21,go_sem,e0,e1,e2,e3,e4,e5,e6,e7,e8]) rfl ?_
  refine⟨y,by rw[HV.out]<;>rfl,?_,HB.out _ ?_⟩
  ·rw[HV.out]
   refine HFIN.out _ ?_
   (repeat' (first|with_reducible exact Sw.refl _ _ _|with_reducible apply Sw.one|with_reducible apply Sw.two))
  ·(repeat' (first|apply Below.setCell|exact Below.refl _ _))<;>first|(simp;done)|(have:=HL.out;simp;omega)
 ·rw[h]at HH
  by_cases h2:o.sl.length<300
  ·have HV:Hid (insB o tr dy=true):=ins_ok h h2
   have d2:decide ((300:Int)≤(o.sl.length:Int))=false:=decide_eq_false (by omega)
   clear h
   go_enter Tryz.func21,Tryz.ntmps21
   go_wp2_with fail
   refine named fun V0 hV=> ?_
   rw[←hV]at k0 k1 L hs
   clear hV
   refine(HC.out _ (I.on L)).mono ?_
   rintro e v1 ⟨y,rfl,C1,L1⟩
   have n0:=kept L1 (lt_of k0) k0
   have n1:=kept L1 (lt_of k1) k1
   have B1:=join_below L L1
   have hg:w.heap.size+1+1≤V0.heap.size:=Nat.le_of_eq hs.symm
   have hl1:V0.heap.size≤v1.heap.size:=L1.size
   have NQ:=new_below v1 (hnB y o 35)
   have q2:=heap_new v1 (hnB y o 35)
   have q0:=heap_old n0 (hnB y o 35)
   have q1:=heap_old n1 (hnB y o 35)
   have B2:=join_below B1 NQ
   have IV:=I.on B2
   clear k0 k1 L L1 hs n0 n1
   have a0:(v1.alloc (hnB y o 35)).cell? ⟨w.heap.size,0,none⟩=some (.int .i64 o.dv):=cell_at q0 0
   have a1:(v1.alloc (hnB y o 35)).cell? ⟨w.heap.size,1,none⟩=some (.int .i64 o.p):=cell_at q0 1
   have a2:(v1.alloc (hnB y o 35)).cell? ⟨w.heap.size,2,none⟩=some (.int .i64 o.q):=cell_at q0 2
   have a3:(v1.alloc (hnB y o 35)).cell? ⟨w.heap.size,3,none⟩=some (.int .i64 o.g):=cell_at q0 3
   have a4:(v1.alloc (hnB y o 35)).cell? ⟨w.heap.size,4,none⟩=some (.int .i64 o.op):=cell_at q0 4
   have a5:(v1.alloc (hnB y o 35)).cell? ⟨w.heap.size,5,none⟩=some (.int .i64 o.is):=cell_at q0 5
   have a6:(v1.alloc (hnB y o 35)).cell? ⟨w.heap.size,6,none⟩=some (.int .i64 o.ve):=cell_at q0 6
   have a7:(v1.alloc (hnB y o 35)).cell? ⟨w.heap.size,7,none⟩=some (.slice x.a o.ol.length x.c):=cell_at q0 7
   have a8:(v1.alloc (hnB y o 35)).cell? ⟨w.heap.size,8,none⟩=some (.slice x.b o.sl.length x.d):=cell_at q0 8
   go_wp2_with fail
   refine named fun V1 hV=> ?_
   rw[←hV]at q0 q1 q2 B2 NQ IV
   clear hV a0 a1 a2 a3 a4 a5 a6 a7 a8
   refine(HH.out _ IV).mono ?_
   rintro e v2 ⟨rfl,L2⟩
   have m0:=kept L2 (lt_of q0) q0
   have m1:=kept L2 (lt_of q1) q1
   have m2:=kept L2 (lt_of q2) q2
   have B3:=join_below B2 L2
   have N2:Below v1.heap.size v1 v2:=join_below NQ L2
   have hlt:=lt_of m2
   have I2:=IV.on L2
   have HL:Hid (w.heap.size+1+1≤v1.heap.size):=by show _≤_;omega
   clear q0 q1 q2 B1 B2 NQ IV L2
   have a0:v2.cell? ⟨w.heap.size,0,none⟩=some (.int .i64 o.dv):=cell_at m0 0
   have a1:v2.cell? ⟨w.heap.size,1,none⟩=some (.int .i64 o.p):=cell_at m0 1
   have a2:v2.cell? ⟨w.heap.size,2,none⟩=some (.int .i64 o.q):=cell_at m0 2
   have a3:v2.cell? ⟨w.heap.size,3,none⟩=some (.int .i64 o.g):=cell_at m0 3
   have a4:v2.cell? ⟨w.heap.size,4,none⟩=some (.int .i64 o.op):=cell_at m0 4
   have a5:v2.cell? ⟨w.heap.size,5,none⟩=some (.int .i64 o.is):=cell_at m0 5
   have a6:v2.cell? ⟨w.heap.size,6,none⟩=some (.int .i64 o.ve):=cell_at m0 6
   have a7:v2.cell? ⟨w.heap.size,7,none⟩=some (.slice x.a o.ol.length x.c):=cell_at m0 7
   have a8:v2.cell? ⟨w.heap.size,8,none⟩=some (.slice x.b o.sl.length x.d):=cell_at m0 8
   go_wp2_with fail
   refine(HK.out _ (KB.trans (B3.mono KB.size)) I2).mono ?_
   rintro e v3 ⟨rfl,L3⟩
   have p1:=kept L3 (lt_of m1) m1
   have p2:=kept L3 (lt_of m2) m2
   have B4:=join_below B3 L3
   have N3:Below v1.heap.size v1 v3:=join_below N2 L3
   have hlt3:v1.heap.size<v3.heap.size:=lt_of p2
   clear a0 a1 a2 a3 a4 a5 a6 a7 a8 m0 m1 m2 B3 N2 I2 L3 hlt I HC HH HK KB
   generalize hc:ctlO o C RT RL tr dy=c at*
   have HCE:Hid (ctlO o C RT RL tr dy=c):=hc
   clear hc
   have NC:=new_below v3 (.cells #[.int .i64 c.dv,.int .i64 c.no,.int .i64 c.tk,.int .i64 c.tr,.int .i64 c.dy,.int .i64 c.sa] 77)
   have ND:=new_below (v3.alloc (.cells #[.int .i64 c.dv,.int .i64 c.no,.int .i64 c.tk,.int .i64 c.tr,.int .i64 c.dy,.int .i64 c.sa] 77)) (.cells #[.int .i64 c.dv,.int .i64 c.no,.int .i64 c.tk,.int .i64 c.tr,.int .i64 c.dy,.int .i64 c.sa] 77)
   have eC:(v3.alloc (.cells #[.int .i64 c.dv,.int .i64 c.no,.int .i64 c.tk,.int .i64 c.tr,.int .i64 c.dy,.int .i64 c.sa] 77)).heap.size=v3.heap.size+1:=Array.size_push ..
   have eD:((v3.alloc (.cells #[.int .i64 c.dv,.int .i64 c.no,.int .i64 c.tk,.int .i64 c.tr,.int .i64 c.dy,.int .i64 c.sa] 77)).alloc (.cells #[.int .i64 c.dv,.int .i64 c.no,.int .i64 c.tk,.int .i64 c.tr,.int .i64 c.dy,.int .i64 c.sa] 77)).heap.size=v3.heap.size+1+1:=(Array.size_push ..).trans (congrArg (· +1) eC)
   have ND3:Below v3.heap.size v3 ((v3.alloc (.cells #[.int .i64 c.dv,.int .i64 c.no,.int .i64 c.tk,.int .i64 c.tr,.int .i64 c.dy,.int .i64 c.sa] 77)).alloc (.cells #[.int .i64 c.dv,.int .i64 c.no,.int .i64 c.tk,.int .i64 c.tr,.int .i64 c.dy,.int .i64 c.sa] 77)):=join_below NC ND
   have s1:=kept ND3 (lt_of p1) p1
   have s2:=kept ND3 (lt_of p2) p2
   have sC:=heap_old (heap_new v3 (.cells #[.int .i64 c.dv,.int .i64 c.no,.int .i64 c.tk,.int .i64 c.tr,.int .i64 c.dy,.int .i64 c.sa] 77)) (.cells #[.int .i64 c.dv,.int .i64 c.no,.int .i64 c.tk,.int .i64 c.tr,.int .i64 c.dy,.int .i64 c.sa] 77)
   have sD:=heap_new (v3.alloc (.cells #[.int .i64 c.dv,.int .i64 c.no,.int .i64 c.tk,.int .i64 c.tr,.int .i64 c.dy,.int .i64 c.sa] 77)) (.cells #[.int .i64 c.dv,.int .i64 c.no,.int .i64 c.tk,.int .i64 c.tr,.int .i64 c.dy,.int .i64 c.sa] 77)
   rw[eC]at sD
   have OS:=own_below (own_below C1.seen N3 (Nat.le_refl _)) ND3 (Nat.le_refl _)
   have OO:=own_below (own_below C1.off N3 (Nat.le_refl _)) ND3 (Nat.le_refl _)
   have HOL:Hid (∀k,(Value.slice y.b o.sl.length y.d).ownBlock=some k→V0.heap.size≤k∧k<v1.heap.size):=fun k h=>C1.seen.lt k h
   have B5:Below w.heap.size w ((v3.alloc (.cells #[.int .i64 c.dv,.int .i64 c.no,.int .i64 c.tk,.int .i64 c.tr,.int .i64 c.dy,.int .i64 c.sa] 77)).alloc (.cells #[.int .i64 c.dv,.int .i64 c.no,.int .i64 c.tk,.int .i64 c.tr,.int .i64 c.dy,.int .i64 c.sa] 77)):=join_below B4 ND3
   have hC5:V0.heap.size≤((v3.alloc (.cells #[.int .i64 c.dv,.int .i64 c.no,.int .i64 c.tk,.int .i64 c.tr,.int .i64 c.dy,.int .i64 c.sa] 77)).alloc (.cells #[.int .i64 c.dv,.int .i64 c.no,.int .i64 c.tk,.int .i64 c.tr,.int .i64 c.dy,.int .i64 c.sa] 77)).heap.size:=by rw[eD];omega
   have HG:Hid (∀j u,(cc1 c)[j]? =some u→((v3.alloc (.cells #[.int .i64 c.dv,.int .i64 c.no,.int .i64 c.tk,.int .i64 c.tr,.int .i64 c.dy,.int .i64 c.sa] 77)).alloc (.cells #[.int .i64 c.dv,.int .i64 c.no,.int .i64 c.tk,.int .i64 c.tr,.int .i64 c.dy,.int .i64 c.sa] 77)).cell? (Addr.add ⟨v3.heap.size+1,0,none⟩ j)=some u):=by
    intro j u hu
    rw[add_plain,Nat.zero_add,cell_at sD j,←hu]
    simp[cc1]
   have HZ:Hid (o.sl.length<300):=h2
   obtain⟨i0,hi,hy0,hy1,hy2⟩:=info_of info_control
   have x8:v3.cell? ⟨v1.heap.size,8,none⟩=some (.slice y.b o.sl.length y.d):=cell_at p2 8
   have y8:(v3.alloc (.cells #[.int .i64 c.dv,.int .i64 c.no,.int .i64 c.tk,.int .i64 c.tr,.int .i64 c.dy,.int .i64 c.sa] 77)).cell? ⟨v1.heap.size,8,none⟩=some (.slice y.b o.sl.length y.d):=cell_at (heap_old p2 (.cells #[.int .i64 c.dv,.int .i64 c.no,.int .i64 c.tk,.int .i64 c.tr,.int .i64 c.dy,.int .i64 c.sa] 77)) 8
   go_wp2_with (at_builtin;refine wpList_append_own_at _ rfl _ _ 33 rfl V0.heap.size 77 i0 (lgV ⟨0,0,0,0,0,0⟩) 6 48 Tryz.underlying33 hi hy0 hy1 hy2 rfl (by decide) _ _ _ rfl OS ⟨v3.heap.size+1,0,none⟩ 1 1 (cc1 c) rfl ?d0 ?d1 ?d2 ?d3 ?d4 ?d5 ?_)
   case d0=>rfl
   case d1=>exact HG.out
   case d2=>intro u hu;simp only[cc1,List.mem_cons,List.not_mem_nil,or_false]at hu;rcases hu with rfl|rfl|rfl|rfl|rfl|rfl<;>rfl
   case d3=>have:=HZ.out;unfold maxLen;omega
   case d4=>have:=HZ.out;omega
   case d5=>exact hC5
   intro v' w5 O5 G5 _ _
   rw[ccells_snoc]at O5
   obtain⟨sa,sc,rfl,-⟩:=own_form O5
   have O6:w5.ownsRow V0.heap.size 77 6 (.slice sa (o.sl++ [c]).length sc) (o.sl++ [c]).length (ccells (o.sl++ [c])):=by rw[show(o.sl++ [c]).length=o.sl.length+1 by simp];exact O5
   have OF:=off_grown OO OS G5
   have hsz:=grown_size G5
   have r1:=grown_at G5 s1 (fun e=>by have:=(HOL.out _ e.symm).1;omega)
   have r2:=grown_at G5 s2 (fun e=>by have:=(HOL.out _ e.symm).2;omega)
   have rC:=grown_at G5 sC (fun e=>by have:=(HOL.out _ e.symm).2;omega)
   have B6:Below w.heap.size w w5:=B5.grown G5 B5.size (fun k h=>by have:=(HOL.out k h).1;omega)
   clear G5 OS OO HG hi hy0 hy1 hy2 NC ND ND3 s1 s2 sC sD B5 hC5 B4 p1 p2 x8 y8
   have u1:(w5.setCell ⟨v1.heap.size,8,none⟩ (.slice sa (o.sl.length+1) sc)).heap[w.heap.size+1]? =some (.cells #[.int .i64 0,.int .i64 0,.int .i64 0,.int .i64 0,.int .i64 0,.int .i64 0,.int .i64 0,.slice none 0 0,.slice none 0 0] 35):=h_other (i:=8) r1 (by omega) _
   have u2:(w5.setCell ⟨v1.heap.size,8,none⟩ (.slice sa (o.sl.length+1) sc)).heap[v1.heap.size]? =some (.cells #[.int .i64 o.dv,.int .i64 o.p,.int .i64 o.q,.int .i64 o.g,.int .i64 o.op,.int .i64 o.is,.int .i64 o.ve,.slice y.a o.ol.length y.c,.slice sa (o.sl.length+1) sc] 35):=h_set (i:=8) r2 _
   have uC:(w5.setCell ⟨v1.heap.size,8,none⟩ (.slice sa (o.sl.length+1) sc)).heap[v3.heap.size]? =some (.cells #[.int .i64 c.dv,.int .i64 c.no,.int .i64 c.tk,.int .i64 c.tr,.int .i64 c.dy,.int .i64 c.sa] 77):=h_other (i:=8) rC (by omega) _
   have SW8:Sw (w.heap.size+1) v1.heap.size w5 (w5.setCell ⟨v1.heap.size,8,none⟩ (.slice sa (o.sl.length+1) sc)):=(Sw.refl _ _ _).two _
   have B8:Below w.heap.size w (w5.setCell ⟨v1.heap.size,8,none⟩ (.slice sa (o.sl.length+1) sc)):=B6.setCell (show w.heap.size≤v1.heap.size by omega) _
   have x8:w5.cell? ⟨v1.heap.size,8,none⟩=some (.slice y.b o.sl.length y.d):=cell_at r2 8
   have z8:w5.frozen? ⟨v1.heap.size,8,none⟩=false:=frozen_at r2 8
   have HNE:Hid (∀k,(Value.slice sa (o.sl++ [c]).length sc).ownBlock=some k→k≠v1.heap.size∧w.heap.size+1+1≤k):=fun k h=>⟨fun e=>by rw[e]at h;exact Pk.own_ne' O6 r2 (by decide) h,by have:=(O6.lt k h).1;omega⟩
   have HNO:Hid (∀k,(Value.slice y.a o.ol.length y.c).ownBlock=some k→k≠v1.heap.size∧w.heap.size+1+1≤k):=fun k h=>⟨fun e=>by rw[e]at h;exact Pk.own_ne' OF r2 (by decide) h,by have:=(OF.lt k h).1;omega⟩
   have HN3:Hid (v3.heap.size≠w.heap.size+1∧v1.heap.size≠w.heap.size+1):=⟨by omega,by omega⟩
   clear r1 r2 rC
   go_wp2
   generalize hW8:(w5.setCell ⟨v1.heap.size,8,none⟩ (.slice sa (o.sl.length+1) sc))=W8 at*
   have e0:W8.cell? ⟨w.heap.size+1,0,none⟩=some (.int .i64 0):=cell_at u1 0
   have e1:W8.cell? ⟨w.heap.size+1,1,none⟩=some (.int .i64 0):=cell_at u1 1
   have e2:W8.cell? ⟨w.heap.size+1,2,none⟩=some (.int .i64 0):=cell_at u1 2
   have e3:W8.cell? ⟨w.heap.size+1,3,none⟩=some (.int .i64 0):=cell_at u1 3
   have e4:W8.cell? ⟨w.heap.size+1,4,none⟩=some (.int .i64 0):=cell_at u1 4
   have e5:W8.cell? ⟨w.heap.size+1,5,none⟩=some (.int .i64 0):=cell_at u1 5
   have e6:W8.cell? ⟨w.heap.size+1,6,none⟩=some (.int .i64 0):=cell_at u1 6
   have e7:W8.cell? ⟨w.heap.size+1,7,none⟩=some (.slice none 0 0):=cell_at u1 7
   have e8:W8.cell? ⟨w.heap.size+1,8,none⟩=some (.slice none 0 0):=cell_at u1 8
   have f0:W8.frozen? ⟨w.heap.size+1,0,none⟩=false:=frozen_at u1 0
   have f1:W8.frozen? ⟨w.heap.size+1,1,none⟩=false:=frozen_at u1 1
   have f2:W8.frozen? ⟨w.heap.size+1,2,none⟩=false:=frozen_at u1 2
   have f3:W8.frozen? ⟨w.heap.size+1,3,none⟩=false:=frozen_at u1 3
   have f4:W8.frozen? ⟨w.heap.size+1,4,none⟩=false:=frozen_at u1 4
   have f5:W8.frozen? ⟨w.heap.size+1,5,none⟩=false:=frozen_at u1 5
   have f6:W8.frozen? ⟨w.heap.size+1,6,none⟩=false:=frozen_at u1 6
   have f7:W8.frozen? ⟨w.heap.size+1,7,none⟩=false:=frozen_at u1 7
   have f8:W8.frozen? ⟨w.heap.size+1,8,none⟩=false:=frozen_at u1 8
   have g0:W8.cell? ⟨v1.heap.size,0,none⟩=some (.int .i64 o.dv):=cell_at u2 0
   have g1:W8.cell? ⟨v1.heap.size,1,none⟩=some (.int .i64 o.p):=cell_at u2 1
   have g2:W8.cell? ⟨v1.heap.size,2,none⟩=some (.int .i64 o.q):=cell_at u2 2
   have g3:W8.cell? ⟨v1.heap.size,3,none⟩=some (.int .i64 o.g):=cell_at u2 3
   have g4:W8.cell? ⟨v1.heap.size,4,none⟩=some (.int .i64 o.op):=cell_at u2 4
   have g5:W8.cell? ⟨v1.heap.size,5,none⟩=some (.int .i64 o.is):=cell_at u2 5
   have g6:W8.cell? ⟨v1.heap.size,6,none⟩=some (.int .i64 o.ve):=cell_at u2 6
   have g7:W8.cell? ⟨v1.heap.size,7,none⟩=some (.slice y.a o.ol.length y.c):=cell_at u2 7
   have g8:W8.cell? ⟨v1.heap.size,8,none⟩=some (.slice sa (o.sl.length+1) sc):=cell_at u2 8
   have j5:W8.cell? ⟨v3.heap.size,5,none⟩=some (.int .i64 c.sa):=cell_at uC 5
   have HFIN:Hid (∀W,Sw (w.heap.size+1) v1.heap.size W8 W→Copied w.heap.size W ⟨y.a,y.c,sa,sc⟩ (insO true o c)):=fun W s=>⟨own_lower (own_sw OF (SW8.trans s) HNO.out) (by omega),own_lower (own_sw O6 (SW8.trans s) HNE.out) (by omega)⟩
   have HB:Hid (∀W,Below w.heap.size W8 W→Below w.heap.size w W):=fun W l=>B8.trans l
   clear u1 u2 uC SW8 B8 B6 O5 O6 OF HNE HNO C1 N3 hlt3 hl1 hg hsz hW8 x8 z8 HOL HZ eC eD h2
   have hne3:v3.heap.size≠w.heap.size+1:=HN3.out.1
   have hne1:v1.heap.size≠w.heap.size+1:=HN3.out.2
   go_region
   all_goals
    go_wp2
    refine bodyPost_ret (v:= .tuple #[hnV ⟨y.a,y.c,sa,sc⟩ { o with sl:=o.sl++ [c] },.int .i64 c.sa]) (by simp[results,Tryz.results21,go_sem,e0,e1,e2,e3,e4,e5,e6,e7,e8]) rfl ?_
    refine⟨⟨y.a,y.c,sa,sc⟩,by rw[HV.out,HCE.out,HS.out]<;>rfl,?_,HB.out _ ?_⟩
    ·rw[HV.out,HCE.out]
     refine HFIN.out _ ?_
     (repeat' (first|with_reducible exact Sw.refl _ _ _|with_reducible apply Sw.one|with_reducible apply Sw.drew|with_reducible apply Sw.two))
    ·(repeat' (first|with_reducible exact Below.refl _ _|with_reducible apply Below.drew|with_reducible apply Below.setCell))<;>first|(simp;done)|(have:=HL.out;simp;omega)
  ·have HV:Hid (insB o tr dy=false):=ins_no2 h2
   have d2:decide ((300:Int)≤(o.sl.length:Int))=true:=decide_eq_true (by omega)
   clear h h2 HS KB
   go_enter Tryz.func21,Tryz.ntmps21
   go_wp2_with fail
   refine named fun V0 hV=> ?_
   rw[←hV]at k0 k1 L hs
   clear hV
   refine(HC.out _ (I.on L)).mono ?_
   rintro e v1 ⟨y,rfl,C1,L1⟩
   have n0:=kept L1 (lt_of k0) k0
   have n1:=kept L1 (lt_of k1) k1
   have B1:=join_below L L1
   have hg:w.heap.size+1+1≤V0.heap.size:=Nat.le_of_eq hs.symm
   have hl1:V0.heap.size≤v1.heap.size:=L1.size
   have NQ:=new_below v1 (hnB y o 35)
   have q2:=heap_new v1 (hnB y o 35)
   have q0:=heap_old n0 (hnB y o 35)
   have q1:=heap_old n1 (hnB y o 35)
   have B2:=join_below B1 NQ
   have IV:=I.on B2
   clear k0 k1 L L1 hs n0 n1
   have a0:(v1.alloc (hnB y o 35)).cell? ⟨w.heap.size,0,none⟩=some (.int .i64 o.dv):=cell_at q0 0
   have a1:(v1.alloc (hnB y o 35)).cell? ⟨w.heap.size,1,none⟩=some (.int .i64 o.p):=cell_at q0 1
   have a2:(v1.alloc (hnB y o 35)).cell? ⟨w.heap.size,2,none⟩=some (.int .i64 o.q):=cell_at q0 2
   have a3:(v1.alloc (hnB y o 35)).cell? ⟨w.heap.size,3,none⟩=some (.int .i64 o.g):=cell_at q0 3
   have a4:(v1.alloc (hnB y o 35)).cell? ⟨w.heap.size,4,none⟩=some (.int .i64 o.op):=cell_at q0 4
   have a5:(v1.alloc (hnB y o 35)).cell? ⟨w.heap.size,5,none⟩=some (.int .i64 o.is):=cell_at q0 5
   have a6:(v1.alloc (hnB y o 35)).cell? ⟨w.heap.size,6,none⟩=some (.int .i64 o.ve):=cell_at q0 6
   have a7:(v1.alloc (hnB y o 35)).cell? ⟨w.heap.size,7,none⟩=some (.slice x.a o.ol.length x.c):=cell_at q0 7
   have a8:(v1.alloc (hnB y o 35)).cell? ⟨w.heap.size,8,none⟩=some (.slice x.b o.sl.length x.d):=cell_at q0 8
   go_wp2_with fail
   refine named fun V1 hV=> ?_
   rw[←hV]at q0 q1 q2 B2 NQ IV
   clear hV a0 a1 a2 a3 a4 a5 a6 a7 a8
   refine(HH.out _ IV).mono ?_
   rintro e v2 ⟨rfl,L2⟩
   have m0:=kept L2 (lt_of q0) q0
   have m1:=kept L2 (lt_of q1) q1
   have m2:=kept L2 (lt_of q2) q2
   have B3:=join_below B2 L2
   have N2:Below v1.heap.size v1 v2:=join_below NQ L2
   have hlt:=lt_of m2
   have I2:=IV.on L2
   have HL:Hid (w.heap.size+1+1≤v1.heap.size):=by show _≤_;omega
   clear q0 q1 q2 B1 B2 NQ IV L2
   have a8:v2.cell? ⟨w.heap.size,8,none⟩=some (.slice x.b o.sl.length x.d):=cell_at m0 8
   have e0:v2.cell? ⟨w.heap.size+1,0,none⟩=some (.int .i64 0):=cell_at m1 0
   have e1:v2.cell? ⟨w.heap.size+1,1,none⟩=some (.int .i64 0):=cell_at m1 1
   have e2:v2.cell? ⟨w.heap.size+1,2,none⟩=some (.int .i64 0):=cell_at m1 2
   have e3:v2.cell? ⟨w.heap.size+1,3,none⟩=some (.int .i64 0):=cell_at m1 3
   have e4:v2.cell? ⟨w.heap.size+1,4,none⟩=some (.int .i64 0):=cell_at m1 4
   have e5:v2.cell? ⟨w.heap.size+1,5,none⟩=some (.int .i64 0):=cell_at m1 5
   have e6:v2.cell? ⟨w.heap.size+1,6,none⟩=some (.int .i64 0):=cell_at m1 6
   have e7:v2.cell? ⟨w.heap.size+1,7,none⟩=some (.slice none 0 0):=cell_at m1 7
   have e8:v2.cell? ⟨w.heap.size+1,8,none⟩=some (.slice none 0 0):=cell_at m1 8
   have f0:v2.frozen? ⟨w.heap.size+1,0,none⟩=false:=frozen_at m1 0
   have f1:v2.frozen? ⟨w.heap.size+1,1,none⟩=false:=frozen_at m1 1
   have f2:v2.frozen? ⟨w.heap.size+1,2,none⟩=false:=frozen_at m1 2
   have f3:v2.frozen? ⟨w.heap.size+1,3,none⟩=false:=frozen_at m1 3
   have f4:v2.frozen? ⟨w.heap.size+1,4,none⟩=false:=frozen_at m1 4
   have f5:v2.frozen? ⟨w.heap.size+1,5,none⟩=false:=frozen_at m1 5
   have f6:v2.frozen? ⟨w.heap.size+1,6,none⟩=false:=frozen_at m1 6
   have f7:v2.frozen? ⟨w.heap.size+1,7,none⟩=false:=frozen_at m1 7
   have f8:v2.frozen? ⟨w.heap.size+1,8,none⟩=false:=frozen_at m1 8
   have g0:v2.cell? ⟨v1.heap.size,0,none⟩=some (.int .i64 o.dv):=cell_at m2 0
   have g1:v2.cell? ⟨v1.heap.size,1,none⟩=some (.int .i64 o.p):=cell_at m2 1
   have g2:v2.cell? ⟨v1.heap.size,2,none⟩=some (.int .i64 o.q):=cell_at m2 2
   have g3:v2.cell? ⟨v1.heap.size,3,none⟩=some (.int .i64 o.g):=cell_at m2 3
   have g4:v2.cell? ⟨v1.heap.size,4,none⟩=some (.int .i64 o.op):=cell_at m2 4
   have g5:v2.cell? ⟨v1.heap.size,5,none⟩=some (.int .i64 o.is):=cell_at m2 5
   have g6:v2.cell? ⟨v1.heap.size,6,none⟩=some (.int .i64 o.ve):=cell_at m2 6
   have g7:v2.cell? ⟨v1.heap.size,7,none⟩=some (.slice y.a o.ol.length y.c):=cell_at m2 7
   have g8:v2.cell? ⟨v1.heap.size,8,none⟩=some (.slice y.b o.sl.length y.d):=cell_at m2 8
   have HFIN:Hid (∀W,Sw (w.heap.size+1) v1.heap.size v2 W→Copied w.heap.size W y (insO false o (ctlO o C RT RL tr dy))):=fun W s=>(C1.keep (P:=w.heap.size+1) (by omega) (s.keep N2 (Nat.le_refl _) (Nat.le_refl _))).lower (by omega)
   have HB:Hid (∀W,Below w.heap.size v2 W→Below w.heap.size w W):=fun W l=>B3.trans l
   clear C1 m0 m1 m2 B3 N2 I2 hg hl1 hlt I HC HH HK
   go_wp2
   refine bodyPost_ret (v:= .tuple #[hnV y (o),.int .i64 (1)]) (by simp[results,Tryz.results21,go_sem,e0,e1,e2,e3,e4,e5,e6,e7,e8]) rfl ?_
   refine⟨y,by rw[HV.out]<;>rfl,?_,HB.out _ ?_⟩
   ·rw[HV.out]
    refine HFIN.out _ ?_
    (repeat' (first|with_reducible exact Sw.refl _ _ _|with_reducible apply Sw.one|with_reducible apply Sw.two))
   ·(repeat' (first|apply Below.setCell|exact Below.refl _ _))<;>first|(simp;done)|(have:=HL.out;simp;omega)

end Hn
end Go.Proofs.YtdcpjicgehdmfaaGreatDoor

/- HandUpdate of the model. -/
namespace Go.Proofs.YtdcpjicgehdmfaaGreatDoor
namespace Hn
open Go.ChangeShapes Go.WideShapes Go.ChangeAt Go.RowKit Go.Joins
open Pk (new_below join_below cell_at heap_new frozen_at lt_of kept heap_old Drawn info_of Room own_form own_below)
set_option linter.unusedSimpArgs false
set_option linter.unusedVariables false

def put9 (w:World) (P:Nat) (v0 v1 v2 v3 v4 v5 v6 v7 v8:Value):World:=((((((((w.setCell ⟨P,0,none⟩ v0).setCell ⟨P,1,none⟩ v1).setCell ⟨P,2,none⟩ v2).setCell ⟨P,3,none⟩ v3).setCell ⟨P,4,none⟩ v4).setCell ⟨P,5,none⟩ v5).setCell ⟨P,6,none⟩ v6).setCell ⟨P,7,none⟩ v7).setCell ⟨P,8,none⟩ v8

theorem put9_heap {w:World} {P:Nat} {a0 a1 a2 a3 a4 a5 a6 a7 a8:Value} {t:TypeId} (h:w.heap[P]? =some (.cells #[a0,a1,a2,a3,a4,a5,a6,a7,a8] t (0,0))) (v0 v1 v2 v3 v4 v5 v6 v7 v8:Value):(put9 w P v0 v1 v2 v3 v4 v5 v6 v7 v8).heap[P]? =some (.cells #[v0,v1,v2,v3,v4,v5,v6,v7,v8] t (0,0)):=by
 unfold put9 World.setCell
 simp[Array.getElem?_modify,h]

theorem put9_other {w:World} {P k:Nat} (hk:k≠P) (v0 v1 v2 v3 v4 v5 v6 v7 v8:Value):(put9 w P v0 v1 v2 v3 v4 v5 v6 v7 v8).heap[k]? =w.heap[k]? :=by
 unfold put9
 rw[Below.heap_setCell _ _ _ _ hk,Below.heap_setCell _ _ _ _ hk,Below.heap_setCell _ _ _ _ hk,Below.heap_setCell _ _ _ _ hk,Below.heap_setCell _ _ _ _ hk,Below.heap_setCell _ _ _ _ hk,Below.heap_setCell _ _ _ _ hk,Below.heap_setCell _ _ _ _ hk,Below.heap_setCell _ _ _ _ hk]

theorem put9_size (w:World) (P:Nat) (v0 v1 v2 v3 v4 v5 v6 v7 v8:Value):(put9 w P v0 v1 v2 v3 v4 v5 v6 v7 v8).heap.size=w.heap.size:=by
 unfold put9
 rw[World.size_setCell,World.size_setCell,World.size_setCell,World.size_setCell,World.size_setCell,World.size_setCell,World.size_setCell,World.size_setCell,World.size_setCell]

theorem put9_below {B P:Nat} {a w:World} (h:Below B a w) (hP:B≤P) (v0 v1 v2 v3 v4 v5 v6 v7 v8:Value):Below B a (put9 w P v0 v1 v2 v3 v4 v5 v6 v7 v8):=
 ((((((((h.setCell (p:=⟨P,0,none⟩) hP _).setCell (p:=⟨P,1,none⟩) hP _).setCell (p:=⟨P,2,none⟩) hP _).setCell (p:=⟨P,3,none⟩) hP _).setCell (p:=⟨P,4,none⟩) hP _).setCell (p:=⟨P,5,none⟩) hP _).setCell (p:=⟨P,6,none⟩) hP _).setCell (p:=⟨P,7,none⟩) hP _).setCell (p:=⟨P,8,none⟩) hP _

end Hn
end Go.Proofs.YtdcpjicgehdmfaaGreatDoor

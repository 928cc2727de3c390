/- Texts laid into one, in their order: HnFrm, HnIn, MathUnp, UnRead, UnSym, UnLen, UnStored, MathWhole, MathFix, PkWhole, UnFixed, MathFix2, UnFixS, UnSpec, FrMath, FrAns, FrBound, GtPure, GtImpl, TkMark, GtMark, GtOne, RdEnd, FrCut, FrJoin, UnRefuse, UnBitI, UnNumI, UnBt, UnSymI, UnLeast, UnCopyI, UnRestI, UnJump. -/
import Derived.Test.YtdcpjicgehdmfaaGreatDoorManyAFnExactInspectFrame
import Derived.Test.YtdcpjicgehdmfaaGreatDoorManyBFnExactInspectFrame
import Derived.Lib.SmallJoins
import Derived.Test.YtdcpjicgehdmfaaGreatDoorErrs
import Derived.Test.YtdcpjicgehdmfaaGreatDoorRows
import Derived.Test.YtdcpjicgehdmfaaGreatDoorPkRow
import Derived.Test.YtdcpjicgehdmfaaGreatDoorShelf
import Derived.Test.YtdcpjicgehdmfaaGreatDoorSignRead
import Derived.Test.YtdcpjicgehdmfaaGreatDoorGtGuess
import Derived.Test.YtdcpjicgehdmfaaGreatDoorGtShape2
import Derived.Test.YtdcpjicgehdmfaaGreatDoorTkLegs
import Derived.Test.YtdcpjicgehdmfaaGreatDoorGtLegs
import Derived.Test.YtdcpjicgehdmfaaGreatDoorGtSpec
import Derived.Shelf.Vars
import Derived.Test.YtdcpjicgehdmfaaGreatDoorSignVerify
import Derived.Test.YtdcpjicgehdmfaaGreatDoorNum
import Derived.Deep.RegionWith
import Derived.Deep.RegionHeld3
import Derived.WalkMore
import Derived.ScopeJumps
/- InspectFrame of the program and of the model: the square is read by Scan, its text by Inspect. -/
namespace Go.Proofs.YtdcpjicgehdmfaaGreatDoor
namespace Hn
open Go.ChangeShapes Go.WideShapes Go.ChangeAt Go.RowKit Go.Joins
open Pk (new_below join_below cell_at heap_new frozen_at lt_of kept heap_old Drawn info_of Room own_form own_below)
open Tk (Lg Legs tkV tkB)
set_option linter.unusedSimpArgs false
set_option linter.unusedVariables false

theorem scan_none {n:Int} {s:ByteArray} (h:¬Sq.scC n s=0):Sq.scT n s=⟨#[]⟩:=by
 unfold Sq.scC at h
 unfold Sq.scT
 split
 ·rfl
 ·rename_i h1
  rw[if_neg h1]at h
  unfold Sq.scanC at h
  unfold Sq.scanT
  refine if_neg fun k=>h ?_
  rw[if_neg (fun f=>f ⟨k.1,k.2.1⟩),if_neg (fun f=>f k.2.2.1),if_neg (fun f=>f k.2.2.2)]

theorem scan_size (n:Int) (s:ByteArray):(Sq.scT n s).size≤1048576:=by
 unfold Sq.scT
 split
 ·show(0:Nat)≤_
  omega
 ·unfold Sq.scanT
  split
  ·rename_i h
   have:=h.1
   rw[ByteArray.size_extract]
   omega
  ·show(0:Nat)≤_
   omega

theorem blocks3 (w:World) (a b c:Obj):(((w.alloc a).alloc b).alloc c).heap[w.heap.size]? =some a∧(((w.alloc a).alloc b).alloc c).heap[w.heap.size+1]? =some b∧(((w.alloc a).alloc b).alloc c).heap[w.heap.size+1+1]? =some c∧(((w.alloc a).alloc b).alloc c).heap.size=w.heap.size+1+1+1:=by
 obtain⟨h1,h2,h3⟩:=two_blocks w a b
 refine⟨heap_old h1 c,heap_old h2 c,?_,?_⟩
 ·rw[←h3];exact heap_new _ c
 ·rw[←h3];exact Array.size_push ..

set_option maxRecDepth 100000 in
set_option maxHeartbeats 8000000 in
theorem implFrm_val (x:Pl) (o:Hnd) (n:Int) (q:ByteArray) {RT:Tk.Hd} {RN:ByteArray} {RL:List Lg} {C:Nat} {wb:World} (HR:∀W:World,Below wb.heap.size wb W→Calls Tryz.prog 80 #[.agg #[.int .i64 o.p,.int .i64 o.q,.int .i64 o.g],.int .i64 o.op,.int .i64 o.is,.string (Sq.scT n q)] W fun e w'=>RdOk RT RN RL C W.heap.size e w'∧Below W.heap.size W w') (hC:C≠0→RT.id=0) (tr dy:Int) (w:World) (KB:Below wb.heap.size wb w) (hq:q.size≤maxLen) (hz:o.ol.length≤1048576) (hz2:o.sl.length≤1048576) (hz3:RL.length≤1048576) (I:In w x o) (fl:Flat x):
 Calls Tryz.prog 9 #[hnV x o,Sq.sqV n q,.int .i64 tr,.int .i64 dy] w fun e w'=>∃y,e= .returned (.tuple #[hnV y (insO (insB o tr dy) o (ctlO o C RT RL tr dy)),.int .i64 (insC (insB o tr dy) (saidC o C RT RL tr dy):Nat)])∧Copied w.heap.size w' y (insO (insB o tr dy) o (ctlO o C RT RL tr dy))∧Below w.heap.size w w':=by
 obtain⟨k0,k1,k2,hs⟩:=blocks3 w (hnB x o 35) (.cells #[.int .i64 n,.string q] 39) (.cells #[.int .i64 0,.int .i64 0,.int .i64 0,.int .i64 0,.int .i64 0,.int .i64 0,.int .i64 0,.slice none 0 0,.slice none 0 0] 35)
 have L:Below w.heap.size w (((w.alloc (hnB x o 35)).alloc (.cells #[.int .i64 n,.string q] 39)).alloc (.cells #[.int .i64 0,.int .i64 0,.int .i64 0,.int .i64 0,.int .i64 0,.int .i64 0,.int .i64 0,.slice none 0 0,.slice none 0 0] 35)):=join_below (join_below (new_below _ _) (new_below _ _)) (new_below _ _)
 have HS:Hid (∀W:World,_):=fun W=>Sq.implScan_val n q W hq
 have HI:Hid (∀W:World,Below wb.heap.size wb W→In W x o→_):=fun W k h=>implIns_val x o (Sq.scT n q) HR hC tr dy W k hz hz2 hz3 h fl
 generalize insO (insB o tr dy) o (ctlO o C RT RL tr dy)=R at*
 generalize insC (insB o tr dy) (saidC o C RT RL tr dy)=K at*
 generalize Sq.scT n q=S at*
 generalize Sq.scC n q=c at*
 clear hz hz2 hz3 HR hC fl hq
 show Calls Tryz.prog 9 #[hnV x o,.agg #[.int .i64 n,.string q],.int .i64 tr,.int .i64 dy] w _
 go_enter Tryz.func9,Tryz.ntmps9
 have a0:(((w.alloc (hnB x o 35)).alloc (.cells #[.int .i64 n,.string q] 39)).alloc (.cells #[.int .i64 0,.int .i64 0,.int .i64 0,.int .i64 0,.int .i64 0,.int .i64 0,.int .i64 0,.slice none 0 0,.slice none 0 0] 35)).cell? ⟨w.heap.size+1,0,none⟩=some (.int .i64 n):=cell_at k1 0
 have a1:(((w.alloc (hnB x o 35)).alloc (.cells #[.int .i64 n,.string q] 39)).alloc (.cells #[.int .i64 0,.int .i64 0,.int .i64 0,.int .i64 0,.int .i64 0,.int .i64 0,.int .i64 0,.slice none 0 0,.slice none 0 0] 35)).cell? ⟨w.heap.size+1,1,none⟩=some (.string q):=cell_at k1 1
 go_wp2_with fail
 refine named fun V0 hV=> ?_
 rw[←hV]at k0 k1 k2 L hs
 clear hV a0 a1
 refine(HS.out _).mono ?_
 rintro e v1 ⟨rfl,L1⟩
 have n0:=kept L1 (lt_of k0) k0
 have n2:=kept L1 (lt_of k2) k2
 have B1:=join_below L L1
 have hl1:V0.heap.size≤v1.heap.size:=L1.size
 have hlt:=lt_of n2
 clear k0 k1 k2 L L1
 have a0:v1.cell? ⟨w.heap.size,0,none⟩=some (.int .i64 o.dv):=cell_at n0 0
 have a1:v1.cell? ⟨w.heap.size,1,none⟩=some (.int .i64 o.p):=cell_at n0 1
 have a2:v1.cell? ⟨w.heap.size,2,none⟩=some (.int .i64 o.q):=cell_at n0 2
 have a3:v1.cell? ⟨w.heap.size,3,none⟩=some (.int .i64 o.g):=cell_at n0 3
 have a4:v1.cell? ⟨w.heap.size,4,none⟩=some (.int .i64 o.op):=cell_at n0 4
 have a5:v1.cell? ⟨w.heap.size,5,none⟩=some (.int .i64 o.is):=cell_at n0 5
 have a6:v1.cell? ⟨w.heap.size,6,none⟩=some (.int .i64 o.ve):=cell_at n0 6
 have a7:v1.cell? ⟨w.heap.size,7,none⟩=some (.slice x.a o.ol.length x.c):=cell_at n0 7
 have a8:v1.cell? ⟨w.heap.size,8,none⟩=some (.slice x.b o.sl.length x.d):=cell_at n0 8
 go_wp2_with fail
 refine(HI.out _ (KB.trans (B1.mono KB.size)) (I.on B1)).mono ?_
 rintro e v2 ⟨y,rfl,C2,L2⟩
 have m2:=kept L2 (lt_of n2) n2
 have B2:=join_below B1 L2
 clear a0 a1 a2 a3 a4 a5 a6 a7 a8 n0 n2
 have e0:v2.cell? ⟨w.heap.size+1+1,0,none⟩=some (.int .i64 0):=cell_at m2 0
 have e1:v2.cell? ⟨w.heap.size+1+1,1,none⟩=some (.int .i64 0):=cell_at m2 1
 have e2:v2.cell? ⟨w.heap.size+1+1,2,none⟩=some (.int .i64 0):=cell_at m2 2
 have e3:v2.cell? ⟨w.heap.size+1+1,3,none⟩=some (.int .i64 0):=cell_at m2 3
 have e4:v2.cell? ⟨w.heap.size+1+1,4,none⟩=some (.int .i64 0):=cell_at m2 4
 have e5:v2.cell? ⟨w.heap.size+1+1,5,none⟩=some (.int .i64 0):=cell_at m2 5
 have e6:v2.cell? ⟨w.heap.size+1+1,6,none⟩=some (.int .i64 0):=cell_at m2 6
 have e7:v2.cell? ⟨w.heap.size+1+1,7,none⟩=some (.slice none 0 0):=cell_at m2 7
 have e8:v2.cell? ⟨w.heap.size+1+1,8,none⟩=some (.slice none 0 0):=cell_at m2 8
 have f0:v2.frozen? ⟨w.heap.size+1+1,0,none⟩=false:=frozen_at m2 0
 have f1:v2.frozen? ⟨w.heap.size+1+1,1,none⟩=false:=frozen_at m2 1
 have f2:v2.frozen? ⟨w.heap.size+1+1,2,none⟩=false:=frozen_at m2 2
 have f3:v2.frozen? ⟨w.heap.size+1+1,3,none⟩=false:=frozen_at m2 3
 have f4:v2.frozen? ⟨w.heap.size+1+1,4,none⟩=false:=frozen_at m2 4
 have f5:v2.frozen? ⟨w.heap.size+1+1,5,none⟩=false:=frozen_at m2 5
 have f6:v2.frozen? ⟨w.heap.size+1+1,6,none⟩=false:=frozen_at m2 6
 have f7:v2.frozen? ⟨w.heap.size+1+1,7,none⟩=false:=frozen_at m2 7
 have f8:v2.frozen? ⟨w.heap.size+1+1,8,none⟩=false:=frozen_at m2 8
 have HFIN:Hid (∀W,Sw (w.heap.size+1+1) (w.heap.size+1+1) v2 W→Copied w.heap.size W y R):=fun W s=>⟨own_lower (s.own C2.off (by omega) (by omega)) (by omega),own_lower (s.own C2.seen (by omega) (by omega)) (by omega)⟩
 have HB:Hid (∀W,Below w.heap.size v2 W→Below w.heap.size w W):=fun W l=>B2.trans l
 clear C2 m2 B1 B2 L2 I HI HS hl1 hlt hs
 go_wp2
 refine bodyPost_ret (v:= .tuple #[hnV y R,.int .i64 (K:Nat)]) (by simp[results,Tryz.results9,go_sem,e0,e1,e2,e3,e4,e5,e6,e7,e8]) rfl ?_
 refine⟨y,rfl,?_,?_⟩
 ·refine HFIN.out _ ?_
  (repeat' (first|with_reducible exact Sw.refl _ _ _|with_reducible apply Sw.one|with_reducible apply Sw.two))
 ·refine HB.out _ ?_
  (repeat' (first|apply Below.setCell|exact Below.refl _ _))<;>first|(simp;done)|(simp;omega)

set_option maxRecDepth 100000 in
set_option maxHeartbeats 8000000 in
theorem specFrm_val (x:Pl) (o:Hnd) (n:Int) (q:ByteArray) {RT:Tk.Hd} {RN:ByteArray} {RL:List Lg} {C:Nat} (HR:∀W:World,Calls Tryz.prog 39 #[.agg #[.int .i64 o.p,.int .i64 o.q,.int .i64 o.g],.int .i64 o.op,.int .i64 o.is,.string (Sq.scT n q)] W fun e w'=>RdOk RT RN RL C W.heap.size e w'∧Below W.heap.size W w') (hC:C≠0→RT.id=0) (tr dy:Int) (w:World) (hq:q.size≤maxLen) (hz:o.ol.length≤1048576) (hz2:o.sl.length≤1048576) (hz3:RL.length≤1048576) (I:In w x o) (fl:Flat x):
 Calls Tryz.prog 6 #[hnV x o,Sq.sqV n q,.int .i64 tr,.int .i64 dy] w fun e w'=>∃y,e= .returned (.tuple #[hnV y (insO (insB o tr dy) o (ctlO o C RT RL tr dy)),.int .i64 (insC (insB o tr dy) (saidC o C RT RL tr dy):Nat)])∧Copied w.heap.size w' y (insO (insB o tr dy) o (ctlO o C RT RL tr dy))∧Below w.heap.size w w':=by
 obtain⟨k0,k1,k2,hs⟩:=blocks3 w (hnB x o 35) (.cells #[.int .i64 n,.string q] 39) (.cells #[.int .i64 0,.int .i64 0,.int .i64 0,.int .i64 0,.int .i64 0,.int .i64 0,.int .i64 0,.slice none 0 0,.slice none 0 0] 35)
 have L:Below w.heap.size w (((w.alloc (hnB x o 35)).alloc (.cells #[.int .i64 n,.string q] 39)).alloc (.cells #[.int .i64 0,.int .i64 0,.int .i64 0,.int .i64 0,.int .i64 0,.int .i64 0,.int .i64 0,.slice none 0 0,.slice none 0 0] 35)):=join_below (join_below (new_below _ _) (new_below _ _)) (new_below _ _)
 have HS:Hid (∀W:World,_):=fun W=>Sq.specScan_val n q W hq
 have HI:Hid (∀W:World,In W x o→_):=fun W h=>specIns_val x o (Sq.scT n q) HR hC tr dy W hz hz2 hz3 h fl
 have HN:Hid (¬Sq.scC n q=0→Sq.scT n q=⟨#[]⟩):=scan_none
 generalize insO (insB o tr dy) o (ctlO o C RT RL tr dy)=R at*
 generalize insC (insB o tr dy) (saidC o C RT RL tr dy)=K at*
 generalize Sq.scT n q=S at*
 generalize Sq.scC n q=c at*
 clear hz hz2 hz3 HR hC fl hq
 show Calls Tryz.prog 6 #[hnV x o,.agg #[.int .i64 n,.string q],.int .i64 tr,.int .i64 dy] w _
 go_enter Tryz.func6,Tryz.ntmps6
 have a0:(((w.alloc (hnB x o 35)).alloc (.cells #[.int .i64 n,.string q] 39)).alloc (.cells #[.int .i64 0,.int .i64 0,.int .i64 0,.int .i64 0,.int .i64 0,.int .i64 0,.int .i64 0,.slice none 0 0,.slice none 0 0] 35)).cell? ⟨w.heap.size+1,0,none⟩=some (.int .i64 n):=cell_at k1 0
 have a1:(((w.alloc (hnB x o 35)).alloc (.cells #[.int .i64 n,.string q] 39)).alloc (.cells #[.int .i64 0,.int .i64 0,.int .i64 0,.int .i64 0,.int .i64 0,.int .i64 0,.int .i64 0,.slice none 0 0,.slice none 0 0] 35)).cell? ⟨w.heap.size+1,1,none⟩=some (.string q):=cell_at k1 1
 go_wp2_with fail
 refine named fun V0 hV=> ?_
 rw[←hV]at k0 k1 k2 L hs
 clear hV a0 a1
 refine(HS.out _).mono ?_
 rintro e v1 ⟨rfl,L1⟩
 have n0:=kept L1 (lt_of k0) k0
 have n2:=kept L1 (lt_of k2) k2
 have B1:=join_below L L1
 have hl1:V0.heap.size≤v1.heap.size:=L1.size
 have hlt:=lt_of n2
 clear k0 k1 k2 L L1
 have a0:v1.cell? ⟨w.heap.size,0,none⟩=some (.int .i64 o.dv):=cell_at n0 0
 have a1:v1.cell? ⟨w.heap.size,1,none⟩=some (.int .i64 o.p):=cell_at n0 1
 have a2:v1.cell? ⟨w.heap.size,2,none⟩=some (.int .i64 o.q):=cell_at n0 2
 have a3:v1.cell? ⟨w.heap.size,3,none⟩=some (.int .i64 o.g):=cell_at n0 3
 have a4:v1.cell? ⟨w.heap.size,4,none⟩=some (.int .i64 o.op):=cell_at n0 4
 have a5:v1.cell? ⟨w.heap.size,5,none⟩=some (.int .i64 o.is):=cell_at n0 5
 have a6:v1.cell? ⟨w.heap.size,6,none⟩=some (.int .i64 o.ve):=cell_at n0 6
 have a7:v1.cell? ⟨w.heap.size,7,none⟩=some (.slice x.a o.ol.length x.c):=cell_at n0 7
 have a8:v1.cell? ⟨w.heap.size,8,none⟩=some (.slice x.b o.sl.length x.d):=cell_at n0 8
 by_cases hc:c=0
 ·subst hc
  go_wp2_with fail
  refine(HI.out _ (I.on B1)).mono ?_
  rintro e v2 ⟨y,rfl,C2,L2⟩
  have m2:=kept L2 (lt_of n2) n2
  have B2:=join_below B1 L2
  clear a0 a1 a2 a3 a4 a5 a6 a7 a8 n0 n2
  have e0:v2.cell? ⟨w.heap.size+1+1,0,none⟩=some (.int .i64 0):=cell_at m2 0
  have e1:v2.cell? ⟨w.heap.size+1+1,1,none⟩=some (.int .i64 0):=cell_at m2 1
  have e2:v2.cell? ⟨w.heap.size+1+1,2,none⟩=some (.int .i64 0):=cell_at m2 2
  have e3:v2.cell? ⟨w.heap.size+1+1,3,none⟩=some (.int .i64 0):=cell_at m2 3
  have e4:v2.cell? ⟨w.heap.size+1+1,4,none⟩=some (.int .i64 0):=cell_at m2 4
  have e5:v2.cell? ⟨w.heap.size+1+1,5,none⟩=some (.int .i64 0):=cell_at m2 5
  have e6:v2.cell? ⟨w.heap.size+1+1,6,none⟩=some (.int .i64 0):=cell_at m2 6
  have e7:v2.cell? ⟨w.heap.size+1+1,7,none⟩=some (.slice none 0 0):=cell_at m2 7
  have e8:v2.cell? ⟨w.heap.size+1+1,8,none⟩=some (.slice none 0 0):=cell_at m2 8
  have f0:v2.frozen? ⟨w.heap.size+1+1,0,none⟩=false:=frozen_at m2 0
  have f1:v2.frozen? ⟨w.heap.size+1+1,1,none⟩=false:=frozen_at m2 1
  have f2:v2.frozen? ⟨w.heap.size+1+1,2,none⟩=false:=frozen_at m2 2
  have f3:v2.frozen? ⟨w.heap.size+1+1,3,none⟩=false:=frozen_at m2 3
  have f4:v2.frozen? ⟨w.heap.size+1+1,4,none⟩=false:=frozen_at m2 4
  have f5:v2.frozen? ⟨w.heap.size+1+1,5,none⟩=false:=frozen_at m2 5
  have f6:v2.frozen? ⟨w.heap.size+1+1,6,none⟩=false:=frozen_at m2 6
  have f7:v2.frozen? ⟨w.heap.size+1+1,7,none⟩=false:=frozen_at m2 7
  have f8:v2.frozen? ⟨w.heap.size+1+1,8,none⟩=false:=frozen_at m2 8
  have HFIN:Hid (∀W,Sw (w.heap.size+1+1) (w.heap.size+1+1) v2 W→Copied w.heap.size W y R):=fun W s=>⟨own_lower (s.own C2.off (by omega) (by omega)) (by omega),own_lower (s.own C2.seen (by omega) (by omega)) (by omega)⟩
  have HB:Hid (∀W,Below w.heap.size v2 W→Below w.heap.size w W):=fun W l=>B2.trans l
  clear C2 m2 B1 B2 L2 I HI HS hl1 hlt hs
  go_wp2
  refine bodyPost_ret (v:= .tuple #[hnV y R,.int .i64 (K:Nat)]) (by simp[results,Tryz.results6,go_sem,e0,e1,e2,e3,e4,e5,e6,e7,e8]) rfl ?_
  refine⟨y,rfl,?_,?_⟩
  ·refine HFIN.out _ ?_
   (repeat' (first|with_reducible exact Sw.refl _ _ _|with_reducible apply Sw.one|with_reducible apply Sw.two))
  ·refine HB.out _ ?_
   (repeat' (first|apply Below.setCell|exact Below.refl _ _))<;>first|(simp;done)|(simp;omega)
 ·have hb:(c !=0)=true:=by simp[hc]
  have HE:=HN.out hc
  subst HE
  go_wp2_with fail
  refine(HI.out _ (I.on B1)).mono ?_
  rintro e v2 ⟨y,rfl,C2,L2⟩
  have m2:=kept L2 (lt_of n2) n2
  have B2:=join_below B1 L2
  clear a0 a1 a2 a3 a4 a5 a6 a7 a8 n0 n2
  have e0:v2.cell? ⟨w.heap.size+1+1,0,none⟩=some (.int .i64 0):=cell_at m2 0
  have e1:v2.cell? ⟨w.heap.size+1+1,1,none⟩=some (.int .i64 0):=cell_at m2 1
  have e2:v2.cell? ⟨w.heap.size+1+1,2,none⟩=some (.int .i64 0):=cell_at m2 2
  have e3:v2.cell? ⟨w.heap.size+1+1,3,none⟩=some (.int .i64 0):=cell_at m2 3
  have e4:v2.cell? ⟨w.heap.size+1+1,4,none⟩=some (.int .i64 0):=cell_at m2 4
  have e5:v2.cell? ⟨w.heap.size+1+1,5,none⟩=some (.int .i64 0):=cell_at m2 5
  have e6:v2.cell? ⟨w.heap.size+1+1,6,none⟩=some (.int .i64 0):=cell_at m2 6
  have e7:v2.cell? ⟨w.heap.size+1+1,7,none⟩=some (.slice none 0 0):=cell_at m2 7
  have e8:v2.cell? ⟨w.heap.size+1+1,8,none⟩=some (.slice none 0 0):=cell_at m2 8
  have f0:v2.frozen? ⟨w.heap.size+1+1,0,none⟩=false:=frozen_at m2 0
  have f1:v2.frozen? ⟨w.heap.size+1+1,1,none⟩=false:=frozen_at m2 1
  have f2:v2.frozen? ⟨w.heap.size+1+1,2,none⟩=false:=frozen_at m2 2
  have f3:v2.frozen? ⟨w.heap.size+1+1,3,none⟩=false:=frozen_at m2 3
  have f4:v2.frozen? ⟨w.heap.size+1+1,4,none⟩=false:=frozen_at m2 4
  have f5:v2.frozen? ⟨w.heap.size+1+1,5,none⟩=false:=frozen_at m2 5
  have f6:v2.frozen? ⟨w.heap.size+1+1,6,none⟩=false:=frozen_at m2 6
  have f7:v2.frozen? ⟨w.heap.size+1+1,7,none⟩=false:=frozen_at m2 7
  have f8:v2.frozen? ⟨w.heap.size+1+1,8,none⟩=false:=frozen_at m2 8
  have HFIN:Hid (∀W,Sw (w.heap.size+1+1) (w.heap.size+1+1) v2 W→Copied w.heap.size W y R):=fun W s=>⟨own_lower (s.own C2.off (by omega) (by omega)) (by omega),own_lower (s.own C2.seen (by omega) (by omega)) (by omega)⟩
  have HB:Hid (∀W,Below w.heap.size v2 W→Below w.heap.size w W):=fun W l=>B2.trans l
  clear C2 m2 B1 B2 L2 I HI HS hl1 hlt hs
  go_wp2
  refine bodyPost_ret (v:= .tuple #[hnV y R,.int .i64 (K:Nat)]) (by simp[results,Tryz.results6,go_sem,e0,e1,e2,e3,e4,e5,e6,e7,e8]) rfl ?_
  refine⟨y,rfl,?_,?_⟩
  ·refine HFIN.out _ ?_
   (repeat' (first|with_reducible exact Sw.refl _ _ _|with_reducible apply Sw.one|with_reducible apply Sw.two))
  ·refine HB.out _ ?_
   (repeat' (first|apply Below.setCell|exact Below.refl _ _))<;>first|(simp;done)|(simp;omega)

end Hn
end Go.Proofs.YtdcpjicgehdmfaaGreatDoor

/- A device that came in. -/
namespace Go.Proofs.YtdcpjicgehdmfaaGreatDoor
namespace Hn
open Go.ChangeShapes Go.WideShapes Go.ChangeAt Go.RowKit Go.Joins
set_option linter.unusedSimpArgs false
set_option linter.unusedVariables false

theorem ints_open {H:Type} {enc:TypeId×Value→H} {W:World} {base:Nat} {spare:Nat→Bool} {held:Bool} {fuel:Nat} {cs:List Value} {x:DataW H×List MemPlace} (h:DataW.trod enc Tryz.prog W base spare held fuel 24 cs=some x):
 ∃(a:Option Addr) (cap:Nat) (zs:List Int),cs= [.slice a zs.length cap]∧zs.length≤maxLen∧Ints W a zs:=by
 rcases Go.Deep.open_slice Tryz.underlying24 h with⟨h0,-⟩|⟨a,len,cap,m,n,D,Pl,rfl,hb,hl,hm,hmm,-,hx⟩
 ·exact⟨none,0,[],h0,by simp,Or.inl rfl⟩
 have hlm:len≤m:=by rw[hmm];split<;>omega
 have c1:Tryz.prog.cellsOf 3=1:=by kernel_rfl
 have each:∀i,i<len→∃p:Int,W.cell? (a.add i)=some (.int .i64 p):=by
  intro i hi
  obtain⟨cs',h1,h2⟩:=hx i (by omega)
  rw[c1]at h1
  obtain⟨-,hlen,hcell⟩:=World.cells?_some h1
  obtain⟨p,e,-,-⟩:=DataW.trod_int Tryz.underlying3 h2
  subst e
  refine⟨p,?_⟩
  have:=hcell 0 (by simp)
  rw[Go.Deep.add_add]at this
  simpa using this
 obtain⟨q,hq⟩:=Go.Deep.choose_lt each
 refine⟨some a,cap,(List.range len).map q,by simp,by simp;omega,?_⟩
 by_cases h0:len=0
 ·subst h0;exact Or.inl rfl
 ·obtain⟨b,o,spot⟩:=a
  have hs:=World.cell?_spot (hq 0 (by omega))
  simp[Addr.add]at hs
  subst hs
  refine Or.inr ⟨b,o,rfl,?_,fun i hi=> ?_⟩
  ·have h1:=hq 0 (by omega)
   apply Nat.lt_of_not_le
   intro hle
   unfold World.cell? at h1
   simp[Addr.add,Array.getElem?_eq_none hle]at h1
  ·simp at hi
   have:=hq i hi
   simp[add_plain]at this
   simpa [Nat.add_assoc]using this

set_option maxRecDepth 100000 in
theorem params_cells {H:Type} {enc:TypeId×Value→H} {W:World} {base:Nat} {spare:Nat→Bool} {held:Bool} {fuel:Nat} {cs:List Value} {x:DataW H×List MemPlace} (h:DataW.trod enc Tryz.prog W base spare held fuel 23 cs=some x):
 ∃p q g:Int,cs= [.int .i64 p,.int .i64 q,.int .i64 g]∧WfI p∧WfI q∧WfI g:=by
 obtain⟨xs,n,-,-,hl,hxl,hf⟩:=DataW.trod_struct Tryz.underlying23 h
 have hl4:cs.length=3:=hl.trans (by kernel_rfl)
 have c1:Tryz.prog.cellsOf 3=1:=by kernel_rfl
 match xs,hxl,cs,hl4 with
 | [y0,y1,y2],_,[v0,v1,v2],_=>
   have h0:=hf 0 _ rfl
   have h1:=hf 1 _ rfl
   have h2:=hf 2 _ rfl
   simp[c1]at h0 h1 h2
   obtain⟨a0,e0,-,w0⟩:=DataW.trod_int Tryz.underlying3 h0
   obtain⟨a1,e1,-,w1⟩:=DataW.trod_int Tryz.underlying3 h1
   obtain⟨a2,e2,-,w2⟩:=DataW.trod_int Tryz.underlying3 h2
   simp at e0 e1 e2
   exact⟨a0,a1,a2,by rw[e0,e1,e2],w0,w1,w2⟩

structure Lim (o:Hnd):Prop where
 ol:o.ol.length≤maxLen
 sl:o.sl.length≤maxLen
 dv:WfI o.dv
 p:WfI o.p
 q:WfI o.q
 g:WfI o.g
 op:WfI o.op
 is:WfI o.is
 ve:WfI o.ve

set_option maxRecDepth 100000 in
theorem hand_open {H:Type} {enc:TypeId×Value→H} {W:World} {base b0:Nat} {r:Reach} {spare:Nat→Bool} {held:Bool} {v:Value} {d:DataW H} {p:List MemPlace}
 (hv:Value.okWide Tryz.prog W r b0 27 v) (h:DataW.Trod enc Tryz.prog W base spare held 27 v d p):
 ∃(x:Pl) (o:Hnd),v=hnV x o∧In W x o∧Lim o:=by
 obtain⟨cs,rfl,hsz⟩:=okWide_struct Tryz.underlying27 hv
 obtain⟨fuel,hf⟩:=h
 obtain⟨xs,n,-,-,hl,hxl,hf⟩:=DataW.trod_struct Tryz.underlying27 hf
 obtain⟨cs⟩:=cs
 have hl9:cs.length=9:=by simpa [Value.cells]using hl.trans (by kernel_rfl:_=9)
 have c1:Tryz.prog.cellsOf 3=1:=by kernel_rfl
 have t0:Tryz.prog.cellsOf 24=1:=by kernel_rfl
 have t1:Tryz.prog.cellsOf 25=1:=by kernel_rfl
 have t2:Tryz.prog.cellsOf 23=3:=by kernel_rfl
 match xs,hxl,cs,hl9 with
 | [y0,y1,y2,y3,y4,y5,y6],_,[v0,v1,v2,v3,v4,v5,v6,v7,v8],_=>
   have h0:=hf 0 _ rfl
   have h1:=hf 1 _ rfl
   have h2:=hf 2 _ rfl
   have h3:=hf 3 _ rfl
   have h4:=hf 4 _ rfl
   have h5:=hf 5 _ rfl
   have h6:=hf 6 _ rfl
   simp[Value.cells,c1,t0,t1,t2]at h0 h1 h2 h3 h4 h5 h6
   obtain⟨a0,e0,-,w0⟩:=DataW.trod_int Tryz.underlying3 h0
   obtain⟨p,q,g,e1,wp,wq,wg⟩:=params_cells h1
   obtain⟨a2,e2,-,w2⟩:=DataW.trod_int Tryz.underlying3 h2
   obtain⟨a3,e3,-,w3⟩:=DataW.trod_int Tryz.underlying3 h3
   obtain⟨a4,e4,-,w4⟩:=DataW.trod_int Tryz.underlying3 h4
   obtain⟨a5,c5,z5,e5,l5,I5⟩:=ints_open h5
   obtain⟨a6,c6,z6,e6,l6,I6,-⟩:=controls_open h6
   simp at e0 e1 e2 e3 e4 e5 e6
   refine⟨⟨a5,c5,a6,c6⟩,⟨a0,p,q,g,a2,a3,a4,z5,z6⟩,?_,⟨I5,I6⟩,⟨l5,l6,w0,wp,wq,wg,w2,w3,w4⟩⟩
   rw[e0,e1.1,e1.2.1,e1.2.2,e2,e3,e4,e5,e6]

end Hn
end Go.Proofs.YtdcpjicgehdmfaaGreatDoor

/- The mathematics of chapter 3: bits that are read. -/
namespace Go.Proofs.YtdcpjicgehdmfaaGreatDoor
namespace Math

def bitAt (s:ByteArray) (i:Nat):Nat:=(s.data.toList.getD (i/8) 0).toNat/2^(i%8)%2

theorem bitAt_le (s:ByteArray) (i:Nat):bitAt s i≤1:=by unfold bitAt;omega

theorem bitAt_far (s:ByteArray) (i:Nat) (h:8*s.size≤i):bitAt s i=0:=by
 unfold bitAt
 rw[List.getD_eq_getElem?_getD,List.getElem?_eq_none (by rw[Array.length_toList];show s.size≤i/8;omega)]
 show 0/2^(i%8)%2=0
 rw[Nat.zero_div]

theorem bitAt_in (s:ByteArray) (i:Nat) (h:i/8<s.size):bitAt s i=s[i/8].toNat/2^(i%8)%2:=by
 unfold bitAt
 have h1:i/8<s.data.toList.length:=by rw[Array.length_toList];exact h
 rw[List.getD_eq_getElem?_getD,List.getElem?_eq_getElem h1]
 rfl

def lowAt (s:ByteArray) (a:Nat):Nat→Nat
 |0=>0
 |n+1=>lowAt s a n+bitAt s (a+n)*2^n

def topAt (s:ByteArray) (a:Nat):Nat→Nat
 |0=>0
 |n+1=>2*topAt s a n+bitAt s (a+n)

theorem lowAt_lt (s:ByteArray) (a n:Nat):lowAt s a n<2^n:=by
 induction n with
 |zero=>simp[lowAt]
 |succ n ih=>
  have h1:=bitAt_le s (a+n)
  have h2:bitAt s (a+n)*2^n≤1*2^n:=Nat.mul_le_mul_right _ h1
  rw[lowAt,Nat.pow_succ]
  omega

theorem topAt_lt (s:ByteArray) (a n:Nat):topAt s a n<2^n:=by
 induction n with
 |zero=>simp[topAt]
 |succ n ih=>
  have h1:=bitAt_le s (a+n)
  rw[topAt,Nat.pow_succ]
  omega

def symAt (s:ByteArray) (a:Nat):Nat:=
 if topAt s a 7<24 then 256+topAt s a 7
 else if topAt s a 8<192 then topAt s a 8-48
 else if topAt s a 8<200 then 280+topAt s a 8-192
 else 144+topAt s a 9-400

def symLen (s:ByteArray) (a:Nat):Nat:=if topAt s a 7<24 then 7 else if topAt s a 8<200 then 8 else 9

end Math
end Go.Proofs.YtdcpjicgehdmfaaGreatDoor

/- Contracts of the model's reader of bits. -/
namespace Go.Proofs.YtdcpjicgehdmfaaGreatDoor
namespace Pk
open Go.ChangeShapes Go.WideShapes Go.ChangeAt Go.RowKit
open Math (bitAt lowAt topAt)
set_option linter.unusedSimpArgs false
set_option linter.unusedVariables false

def RdS (B c:Nat) (s:ByteArray) (a:Nat) (w:World):Prop:=B≤c∧w.heap[c]? =some (.cells #[.string s,.int .i64 ((min a (8*s.size):Nat):Int),.bool (decide (8*s.size<a))] 146)

def Mv (c:Nat) (w w1:World):Prop:=w1.heap.size=w.heap.size∧∀k,k≠c→w1.heap[k]? =w.heap[k]?

theorem Mv.refl (c:Nat) (w:World):Mv c w w:=⟨rfl,fun _ _=>rfl⟩

theorem Mv.trans {c:Nat} {w w1 w2:World} (h:Mv c w w1) (g:Mv c w1 w2):Mv c w w2:=⟨g.1.trans h.1,fun k hk=>(g.2 k hk).trans (h.2 k hk)⟩

theorem Mv.set (c i:Nat) (w:World) (u:Value):Mv c w (w.setCell ⟨c,i,none⟩ u):=⟨World.size_setCell _ _ _,fun k hk=>Below.heap_setCell _ _ _ _ hk⟩

theorem Mv.drewN {c:Nat} {w w1:World} (h:Mv c w w1) (n:Nat):Mv c w (w1.drewN n):=⟨h.1,h.2⟩

theorem below_drewN {B:Nat} {w w1:World} (L:Below B w w1) (q:Nat):Below B w (w1.drewN q):=L.trans ⟨rfl,rfl,rfl,Nat.le_refl _,fun _ _=>rfl⟩

theorem hp_set {w:World} {c i:Nat} {cs:Array Value} {t:TypeId} {f:Nat×Nat} (h:w.heap[c]? =some (.cells cs t f)) (u:Value):(w.setCell ⟨c,i,none⟩ u).heap[c]? =some (.cells (cs.setIfInBounds i u) t f):=by
 unfold World.setCell
 simp[Array.getElem?_modify,h]

theorem wrap_is (n:Int) (h: -9223372036854775808≤n∧n≤9223372036854775807):IntKind.i64.wrap n=n:=by
 rw[IntKind.wrap_i64]
 omega

theorem bit_quo (b r:Nat):(b:Int)/(p2 r:Int)=((b/2^r:Nat):Int):=by
 unfold p2
 simp

set_option maxRecDepth 100000 in
set_option maxHeartbeats 1000000 in
theorem bitS_val (B c:Nat) (s:ByteArray) (a:Nat) (w:World) (hs:s.size≤100000) (ha:a≤1000000) (H:RdS B c s a w):
 Calls Tryz.prog 125 #[.pointer (some ⟨c,0,none⟩)] w fun e w'=>e= .returned (.int .i64 (bitAt s a))∧RdS B c s (a+1) w'∧Mv c w w'∧Below B w w':=by
 obtain⟨hB,m⟩:=H
 have f1:=frozen_at m 1
 have f2:=frozen_at m 2
 have c0:w.cell? ⟨c,0,none⟩=some (.string s):=cell_at m 0
 by_cases h:a<8*s.size
 ·have e1:min a (8*s.size)=a:=by omega
  have e2:decide (8*s.size<a)=false:=decide_eq_false (by omega)
  rw[e1,e2]at m
  have c1:w.cell? ⟨c,1,none⟩=some (.int .i64 (a:Int)):=cell_at m 1
  have hi:a/8<s.size:=by omega
  have HB:Hid (_):=Math.bitAt_in s a hi
  have hq:(a:Int)/8=((a/8:Nat):Int):=by omega
  have hr:(a:Int)%8=((a%8:Nat):Int):=by omega
  have hr8:a%8≤40:=by omega
  have ht:Int.tmod (a:Int) 8=((a%8:Nat):Int):=by rw[Int.tmod_eq_emod_of_nonneg (by omega)];omega
  have htd:Int.tdiv (a:Int) 8=((a/8:Nat):Int):=by rw[Int.tdiv_eq_ediv_of_nonneg (by omega)];omega
  have ht2:Int.tmod ((s[a/8].toNat/2^(a%8):Nat):Int) 2=((s[a/8].toNat/2^(a%8)%2:Nat):Int):=(Int.ofNat_tmod _ _).symm
  have htq:Int.tdiv (s[a/8].toNat:Int) (p2 (a%8):Int)=((s[a/8].toNat/2^(a%8):Nat):Int):=by rw[Int.tdiv_eq_ediv_of_nonneg (by omega)];exact bit_quo _ _
  have hP:=p2_pos (a%8)
  have hP2:=p2_bd (a%8) hr8
  have HPW:Hid (∀w,_):=fun w=>pow2_val (a%8) w hr8
  have hdv:=bit_quo s[a/8].toNat (a%8)
  have hbt:=s[a/8].toNat_lt
  have hd8:¬(8*(s.size:Int)≤(a:Int)):=by omega
  have hd8':decide (8*(s.size:Int)≤(a:Int))=false:=decide_eq_false hd8
  have HM:Hid (_):=m
  have hil:((a/8:Nat):Int)<(s.size:Int):=by omega
  have hmod:((s[a/8].toNat/2^(a%8):Nat):Int)%2=((s[a/8].toNat/2^(a%8)%2:Nat):Int):=by omega
  have HW:Hid (∀(w1:World) n,w1.heap[c]? =some (.cells #[.string s,.int .i64 (a:Int),.bool false] 146)→RdS B c s (a+1) ((w1.drewN n).setCell ⟨c,1,none⟩ (.int .i64 ((a:Int)+1)))):=by
   intro w1 n m1
   refine⟨hB,?_⟩
   rw[show min (a+1) (8*s.size)=a+1 by omega,decide_eq_false (show ¬8*s.size<a+1 by omega)]
   exact hp_set (w:=w1.drewN n) (i:=1) m1 (.int .i64 ((a:Int)+1))
  have hdl:s[a/8].toNat/2^(a%8)≤s[a/8].toNat:=Nat.div_le_self _ _
  rw[HB.out]
  have HA:Hid (a=8*(a/8)+a%8):=by show _=_;omega
  clear m e1 e2 h HB
  generalize a/8=i at*
  generalize a%8=r at*
  generalize p2 r=Q at*
  generalize s[i].toNat/2^r=Y at*
  generalize hYb:Y%2=yb at*
  have hyb1:yb≤1:=by omega
  clear hYb
  have hi0:(0:Int)≤(i:Int):=by omega
  have hw1:IntKind.i64.wrap (i:Int)=i:=wrap_is _ (by omega)
  have hw2:IntKind.i64.wrap (r:Int)=r:=wrap_is _ (by omega)
  have hw3:IntKind.i64.wrap (Y:Int)=Y:=wrap_is _ (by omega)
  have hw5:IntKind.i64.wrap (s[i].toNat:Int)=s[i].toNat:=wrap_is _ (by omega)
  have hw4:IntKind.i64.wrap (yb:Int)=yb:=wrap_is _ (by omega)
  go_enter Tryz.func125,Tryz.ntmps125
  go_wp2
  go_quiet (fail)
  have m9:(w.drewN nq).heap[c]? =some (.cells #[.string s,.int .i64 (a:Int),.bool false] 146):=HM.out
  have M9:Mv c w (w.drewN nq):=(Mv.refl c w).drewN nq
  have L9:Below B w (w.drewN nq):=below_drewN (Below.refl B w) nq
  clear c0 c1 f1 f2 HM
  generalize w.drewN nq=w9 at m9 M9 L9⊢
  have c0:w9.cell? ⟨c,0,none⟩=some (.string s):=cell_at m9 0
  have c1:w9.cell? ⟨c,1,none⟩=some (.int .i64 (a:Int)):=cell_at m9 1
  have f1:=frozen_at m9 1
  have HM:Hid (_):=m9
  clear m9
  go_wp2_with fail
  go_quiet ((go_at_call 124;exact Calls.quiet_of_same (HPW.out _)))
  go_wp2
  go_ret
  exact⟨rfl,HW.out _ _ HM.out,(M9.drewN _).trans (Mv.set c 1 _ _),(below_drewN L9 _).setCell hB _⟩
 ·have e1:min a (8*s.size)=8*s.size:=by omega
  rw[e1]at m
  have HB:Hid (_):=Math.bitAt_far s a (by omega)
  have c1:w.cell? ⟨c,1,none⟩=some (.int .i64 ((8*s.size:Nat):Int)):=cell_at m 1
  have c2:w.cell? ⟨c,2,none⟩=some (.bool (decide (8*s.size<a))):=cell_at m 2
  have HW:Hid (∀n,RdS B c s (a+1) ((w.drewN n).setCell ⟨c,2,none⟩ (.bool true))):=by
   intro n
   refine⟨hB,?_⟩
   rw[show min (a+1) (8*s.size)=8*s.size by omega,decide_eq_true (show 8*s.size<a+1 by omega)]
   exact hp_set (w:=w.drewN n) (i:=2) m (.bool true)
  rw[HB.out]
  generalize decide (8*s.size<a)=cc at*
  have e8:((8*s.size:Nat):Int)=8*(s.size:Int):=by omega
  rw[e8]at c1
  clear m e1 HB e8 h
  go_enter Tryz.func125,Tryz.ntmps125
  go_wp2
  go_quiet (fail)
  go_wp2
  go_ret
  exact⟨rfl,HW.out _,(Mv.refl c w).drewN _|>.trans (Mv.set c 2 _ _),(below_drewN (Below.refl B w) _).setCell hB _⟩

set_option maxHeartbeats 1000000 in
theorem numS_val (B c:Nat) (s:ByteArray) (a n:Nat) (w:World) (hs:s.size≤100000) (ha:a≤900000) (hn:n≤30) (H:RdS B c s a w):
 Calls Tryz.prog 126 #[.pointer (some ⟨c,0,none⟩),.int .i64 n] w fun e w'=>e= .returned (.int .i64 (lowAt s a n))∧RdS B c s (a+n) w'∧Mv c w w'∧Below B w w':=by
 go_enter Tryz.func126,Tryz.ntmps126
 go_wp2
 go_loopw [5,6] (fun x i wr=>∃(k y:Nat),k≤n∧y<1099511627776∧x= .int .i64 y∧i= .int .i64 k∧Hid (y=lowAt s a k)∧Hid (RdS B c s (a+k) wr)∧Mv c w wr∧Below B w wr) (fun _ i _=>n-(intOf i).toNat)
 case atStart=>exact⟨0,0,by omega,by omega,rfl,rfl,rfl,H,Mv.refl _ _,Below.refl _ _⟩
 case round=>
  obtain⟨k,y,hk,hy,rfl,rfl,HY,HR,M,L⟩:=hrel
  by_cases hkn:k<n
  ·have HN:Hid (lowAt s a (k+1)=y+bitAt s (a+k)*p2 k):=by show _=_;rw[HY.out];rfl
   have hlt:=Math.lowAt_lt s a (k+1)
   have hlp:2^(k+1)≤2^31:=Nat.pow_le_pow_right (by omega) (by omega)
   rw[HN.out]at hlt
   have hb1:=Math.bitAt_le s (a+k)
   have HBV:Hid (_):=bitS_val B c s (a+k) wr hs (by omega) HR.out
   have HPW:Hid (∀w,_):=fun w=>pow2_val k w (by omega)
   have hP2:=p2_bd k (by omega)
   generalize bitAt s (a+k)=b at*
   generalize p2 k=Q at*
   have hbq:b*Q≤1099511627776:=by
    have h3:b*Q≤1*Q:=Nat.mul_le_mul_right _ hb1
    omega
   have hmul:(b:Int)*(Q:Int)=((b*Q:Nat):Int):=by simp
   generalize b*Q=bq at*
   clear HR
   go_wp2_with fail
   refine(Calls.mono HBV.out ?_)
   rintro e w2 ⟨rfl,R2,M2,L2⟩
   have R3:Hid (RdS B c s (a+(k+1)) w2):=R2
   have M3:=M.trans M2
   have L3:=L.trans L2
   clear R2 M2 L2 M L HBV
   go_wp2_with fail
   refine(HPW.out _).mono ?_
   rintro e w4 ⟨rfl,rfl⟩
   go_wp2
   go_roundw
   case rel=>exact⟨k+1,y+bq,by omega,by omega,by go_num,by go_num,HN.out.symm,R3,M3,L3⟩
   case measure=>simp[intOf];omega
  ·obtain rfl:k=n:=by omega
   go_wp2
   go_ret
   exact⟨by rw[←HY.out]<;>rfl,HR.out,M,L⟩

set_option maxHeartbeats 1000000 in
theorem topS_val (B c:Nat) (s:ByteArray) (a n:Nat) (w:World) (hs:s.size≤100000) (ha:a≤900000) (hn:n≤30) (H:RdS B c s a w):
 Calls Tryz.prog 151 #[.pointer (some ⟨c,0,none⟩),.int .i64 n] w fun e w'=>e= .returned (.int .i64 (topAt s a n))∧RdS B c s (a+n) w'∧Mv c w w'∧Below B w w':=by
 go_enter Tryz.func151,Tryz.ntmps151
 go_wp2
 go_loopw [5,6] (fun x i wr=>∃(k y:Nat),k≤n∧y<1099511627776∧x= .int .i64 y∧i= .int .i64 k∧Hid (y=topAt s a k)∧Hid (RdS B c s (a+k) wr)∧Mv c w wr∧Below B w wr) (fun _ i _=>n-(intOf i).toNat)
 case atStart=>exact⟨0,0,by omega,by omega,rfl,rfl,rfl,H,Mv.refl _ _,Below.refl _ _⟩
 case round=>
  obtain⟨k,y,hk,hy,rfl,rfl,HY,HR,M,L⟩:=hrel
  by_cases hkn:k<n
  ·have HN:Hid (topAt s a (k+1)=2*y+bitAt s (a+k)):=by show _=_;rw[HY.out];rfl
   have hlt:=Math.topAt_lt s a (k+1)
   have hlp:2^(k+1)≤2^31:=Nat.pow_le_pow_right (by omega) (by omega)
   rw[HN.out]at hlt
   have hb1:=Math.bitAt_le s (a+k)
   have HBV:Hid (_):=bitS_val B c s (a+k) wr hs (by omega) HR.out
   generalize bitAt s (a+k)=b at*
   clear HR
   go_wp2_with fail
   refine(Calls.mono HBV.out ?_)
   rintro e w2 ⟨rfl,R2,M2,L2⟩
   have R3:Hid (RdS B c s (a+(k+1)) w2):=R2
   have M3:=M.trans M2
   have L3:=L.trans L2
   clear R2 M2 L2 M L HBV
   go_wp2
   go_roundw
   case rel=>exact⟨k+1,2*y+b,by omega,by omega,by go_num,by go_num,HN.out.symm,R3,M3,L3⟩
   case measure=>simp[intOf];omega
  ·obtain rfl:k=n:=by omega
   go_wp2
   go_ret
   exact⟨by rw[←HY.out]<;>rfl,HR.out,M,L⟩

theorem own_mv {c base e size:Nat} {w w1:World} {v:Value} {n:Nat} {xs:List Value} {cs:Array Value} {t:TypeId} {f:Nat×Nat} (h:w.ownsRow base e size v n xs) (M:Mv c w w1) (m:w.heap[c]? =some (.cells cs t f)) (hte:t≠e):w1.ownsRow base e size v n xs:=by
 have hne:=own_ne' h m hte
 obtain⟨h1,h2⟩:=h
 refine⟨h1,?_⟩
 rcases h2 with h2|⟨g,cap,cur,hv,hg,hh,hr⟩
 ·exact Or.inl h2
 ·refine Or.inr ⟨g,cap,cur,hv,hg,?_,hr⟩
  have hgc:g≠c:=by
   intro hgc
   subst hgc
   exact hne (by rw[hv];rfl)
  rw[M.2 g hgc]
  exact hh

end Pk
end Go.Proofs.YtdcpjicgehdmfaaGreatDoor

/- Contracts of the model's reader of symbols. -/
namespace Go.Proofs.YtdcpjicgehdmfaaGreatDoor
namespace Pk
open Go.ChangeShapes Go.WideShapes Go.ChangeAt Go.RowKit
open Math (bitAt lowAt topAt symAt symLen)
set_option linter.unusedSimpArgs false
set_option linter.unusedVariables false

set_option maxRecDepth 100000 in
set_option maxHeartbeats 1000000 in
theorem symS_val (B c:Nat) (s:ByteArray) (a:Nat) (w:World) (hs:s.size≤100000) (ha:a≤890000) (H:RdS B c s a w):
 Calls Tryz.prog 149 #[.pointer (some ⟨c,0,none⟩)] w fun e w'=>e= .returned (.int .i64 (symAt s a))∧RdS B c s (a+symLen s a) w'∧Mv c w w'∧Below B w w':=by
 have h7:=Math.topAt_lt s a 7
 have hb7:=Math.bitAt_le s (a+7)
 have hb8:=Math.bitAt_le s (a+8)
 have e8:topAt s a 8=2*topAt s a 7+bitAt s (a+7):=rfl
 have e9:topAt s a 9=2*(2*topAt s a 7+bitAt s (a+7))+bitAt s (a+8):=rfl
 have HT:Hid (_):=topS_val B c s a 7 w hs (by omega) (by omega) H
 have HB7:Hid (∀w,RdS B c s (a+7) w→_):=fun w=>bitS_val B c s (a+7) w hs (by omega)
 have HB8:Hid (∀w,RdS B c s (a+7+1) w→_):=fun w=>bitS_val B c s (a+8) w hs (by omega)
 have HS:Hid (symAt s a=if topAt s a 7<24 then 256+topAt s a 7 else if topAt s a 8<192 then topAt s a 8-48 else if topAt s a 8<200 then 280+topAt s a 8-192 else 144+topAt s a 9-400):=rfl
 have HL:Hid (symLen s a=if topAt s a 7<24 then 7 else if topAt s a 8<200 then 8 else 9):=rfl
 rw[e8,e9]at HS
 rw[e8]at HL
 generalize symAt s a=Y at*
 generalize symLen s a=N at*
 generalize topAt s a 7=x at*
 generalize bitAt s (a+7)=b7 at*
 generalize bitAt s (a+8)=b8 at*
 clear e8 e9 H
 go_enter Tryz.func149,Tryz.ntmps149
 go_wp2_with fail
 refine(Calls.mono HT.out ?_)
 rintro e w2 ⟨rfl,R2,M2,L2⟩
 clear HT
 by_cases h1:x<24
 ·have q1:=HS.out
  have q2:=HL.out
  rw[if_pos h1]at q1 q2
  subst q1 q2
  have HR:Hid (_):=R2
  clear HS HL R2 HB7 HB8
  go_wp2
  go_ret
  exact⟨by go_num,HR.out,M2,L2⟩
 ·have q1:=HS.out
  have q2:=HL.out
  rw[if_neg h1]at q1 q2
  have HQ1:Hid (_):=q1
  have HQ2:Hid (_):=q2
  have HC:Hid (_):=HB7.out w2 R2
  clear HS HL R2 q1 q2 HB7
  go_wp2_with fail
  refine(Calls.mono HC.out ?_)
  rintro e w3 ⟨rfl,R3,M3,L3⟩
  have M:=M2.trans M3
  have L:=L2.trans L3
  clear M2 M3 L2 L3 HC
  by_cases h2:2*x+b7<192
  ·have q1:=HQ1.out
   have q2:=HQ2.out
   rw[if_pos h2]at q1
   rw[if_pos (by omega)]at q2
   subst q1 q2
   have HR:Hid (_):=R3
   clear HQ1 HQ2 R3 HB8
   go_wp2
   go_ret
   exact⟨by go_num,HR.out,M,L⟩
  ·by_cases h3:2*x+b7<200
   ·have q1:=HQ1.out
    have q2:=HQ2.out
    rw[if_neg h2,if_pos h3]at q1
    rw[if_pos h3]at q2
    subst q1 q2
    have HR:Hid (_):=R3
    clear HQ1 HQ2 R3 HB8
    go_wp2
    go_ret
    exact⟨by go_num,HR.out,M,L⟩
   ·have q1:=HQ1.out
    have q2:=HQ2.out
    rw[if_neg h2,if_neg h3]at q1
    rw[if_neg h3]at q2
    subst q1 q2
    have HC:Hid (_):=HB8.out w3 R3
    clear HQ1 HQ2 R3 HB8
    go_wp2_with fail
    refine(Calls.mono HC.out ?_)
    rintro e w4 ⟨rfl,R4,M4,L4⟩
    have HR:Hid (_):=R4
    have M5:=M.trans M4
    have L5:=L.trans L4
    clear R4 M4 L4 M L HC
    go_wp2
    go_ret
    exact⟨by go_num,HR.out,M5,L5⟩

end Pk
end Go.Proofs.YtdcpjicgehdmfaaGreatDoor

/- Contracts of the model's lengths and ways back, off their codes. -/
namespace Go.Proofs.YtdcpjicgehdmfaaGreatDoor
namespace Pk
open Go.ChangeShapes Go.WideShapes Go.ChangeAt Go.RowKit
set_option linter.unusedSimpArgs false
set_option linter.unusedVariables false

abbrev ii2 (a b:Int):Value:= .tuple #[.int .i64 a,.int .i64 b]

set_option maxRecDepth 100000 in
theorem len_hit:∀n,n<255→Math.codeX 2 n=0→Math.cleast 4 (Math.codeC 2 n)=n∧Math.cbits 4 (Math.codeC 2 n)=Math.nbits 2 n:=by decide+kernel

set_option maxRecDepth 100000 in
theorem len_there:∀k,k<28→Math.cleast 4 k<255∧Math.codeC 2 (Math.cleast 4 k)=k∧Math.codeX 2 (Math.cleast 4 k)=0∧Math.cbits 4 k≤5:=by decide+kernel

theorem backBits_val (k:Nat) (w:World) (hk:k≤40):
 Calls Tryz.prog 173 #[.int .i64 k] w fun e w'=>e= .returned (.int .i64 (Math.cbits 2 k))∧w'=w:=by
 have HC:Hid (Math.cbits 2 k=k/2-1):=rfl
 generalize Math.cbits 2 k=C at*
 by_cases h:k<4
 ·obtain rfl:C=0:=by have:=HC.out;omega
  clear HC
  go_enter Tryz.func173,Tryz.ntmps173
  go_wp2
  go_ret
  exact⟨rfl,rfl⟩
 ·have h1:((k:Int)-2)/2=C:=by have:=HC.out;omega
  have h2:Int.tdiv ((k:Int)-2) 2=C:=by rw[Int.tdiv_eq_ediv_of_nonneg (by omega)];exact h1
  have hC:C≤40:=by have:=HC.out;omega
  clear HC
  go_enter Tryz.func173,Tryz.ntmps173
  go_wp2
  go_ret
  exact⟨by go_num,rfl⟩

set_option maxHeartbeats 1000000 in
theorem backOf_val (k:Nat) (w:World) (hk:k≤29):
 Calls Tryz.prog 152 #[.int .i64 k] w fun e w'=>e= .returned (ii2 ((Math.cleast 2 k:Nat)+1) (Math.cbits 2 k:Nat))∧w'=w:=by
 go_enter Tryz.func152,Tryz.ntmps152
 go_wp2
 go_loopw [4,5] (fun x i wr=>∃(j y:Nat),j≤k∧y<1099511627776∧x= .int .i64 ((y:Int)+1)∧i= .int .i64 j∧Hid (y=Math.cleast 2 j)∧wr=w) (fun _ i _=>k-(intOf i).toNat)
 case atStart=>exact⟨0,0,by omega,by omega,by go_num,rfl,rfl,rfl⟩
 case round=>
  obtain⟨j,y,hj,hy,rfl,rfl,HY,rfl⟩:=hrel
  by_cases hjk:j<k
  ·have HN:Hid (Math.cleast 2 (j+1)=y+p2 (Math.cbits 2 j)):=by show _=_;rw[HY.out];exact Math.cleast_succ 2 j (by omega)
   have hc:Math.cbits 2 j≤15:=by unfold Math.cbits;omega
   have HB:Hid (_):=backBits_val j wr (by omega)
   have HP:Hid (_):=pow2_val (Math.cbits 2 j) wr (by omega)
   have hlt:y+p2 (Math.cbits 2 j)<1099511627776:=by
    rw[←HN.out]
    have h9:∀q,q<31→Math.cleast 2 q<1099511627776:=by decide+kernel
    exact h9 _ (by omega)
   generalize p2 (Math.cbits 2 j)=Q at*
   generalize Math.cbits 2 j=C at*
   go_wp2_with fail
   refine(Calls.mono HB.out ?_)
   rintro e w2 ⟨rfl,rfl⟩
   go_wp2_with fail
   refine(Calls.mono HP.out ?_)
   rintro e w2 ⟨rfl,rfl⟩
   go_wp2
   go_roundw
   case rel=>exact⟨j+1,y+Q,by omega,by omega,by go_num,by go_num,HN.out.symm,by first|rfl|trivial⟩
   case measure=>simp[intOf];omega
  ·obtain rfl:j=k:=by omega
   have HB:Hid (_):=backBits_val j wr (by omega)
   have HE:Hid (∃C,Math.cbits 2 j=C∧C≤40):=⟨_,rfl,by unfold Math.cbits;omega⟩
   obtain⟨C,hC,hC4⟩:=HE.out
   rw[hC]at HB
   have HD:Hid (_):=hC
   clear hC HE
   go_wp2_with fail
   refine(Calls.mono HB.out ?_)
   rintro e w2 ⟨rfl,rfl⟩
   go_wp2
   go_ret2
   exact⟨by rw[←HY.out,HD.out]<;>rfl,rfl⟩

set_option maxHeartbeats 1000000 in
theorem lenOf_last (w:World):
 Calls Tryz.prog 150 #[.int .i64 285] w fun e w'=>e= .returned (ii2 258 0)∧w'=w:=by
 go_enter Tryz.func150,Tryz.ntmps150
 go_wp2
 go_ret2
 exact⟨rfl,rfl⟩

set_option maxRecDepth 100000 in
set_option maxHeartbeats 1000000 in
theorem lenOf_val (k:Nat) (w:World) (hk:k<28):
 Calls Tryz.prog 150 #[.int .i64 ((k:Int)+257)] w fun e w'=>e= .returned (ii2 ((Math.cleast 4 k:Nat)+3) (Math.cbits 4 k:Nat))∧w'=w:=by
 have hne:((k:Int)+257==285)=false:=by rw[beq_eq_false_iff_ne];omega
 obtain⟨hl,HC,HX,hb⟩:=len_there k hk
 have HCC:Hid (Math.codeC 2 (Math.cleast 4 k)=k∧Math.codeX 2 (Math.cleast 4 k)=0):=⟨HC,HX⟩
 clear HC HX
 go_enter Tryz.func150,Tryz.ntmps150
 go_wp2
 go_loopw [4] (fun i wr=>∃(j:Nat),j≤Math.cleast 4 k∧i= .int .i64 ((j:Int)+3)∧wr=w) (fun i _=>300-(intOf i).toNat)
 case atStart=>exact⟨0,by omega,by go_num,rfl⟩
 case round=>
  obtain⟨j,hj,rfl,rfl⟩:=hrel
  have HV:Hid (_):=specLen_val ((j:Int)+3) wr
  obtain⟨q1,q2,q3⟩:=len_yes j (by omega)
  rw[q1,q2,q3,Int.add_comm 257]at HV
  clear q1 q2 q3
  have hj5:(j:Int)+3<258:=by omega
  have HH:Hid (_):=len_hit j (by omega)
  have hnb:Math.nbits 2 j≤100:=by unfold Math.nbits;have:=blen_bd j 8 (by omega);omega
  by_cases hx:Math.codeC 2 j=k∧Math.codeX 2 j=0
  ·obtain⟨h1,h2⟩:=hx
   have h3:=HH.out h2
   rw[h1]at h3
   rw[h1,h2]at HV
   have HD:Hid (_):=h3
   clear h3 HH HCC hj hl hb h1 h2
   generalize Math.nbits 2 j=nb at*
   go_wp2_with fail
   refine(Calls.mono HV.out ?_)
   rintro e w2 ⟨rfl,rfl⟩
   go_wp2
   go_ret2
   exact⟨by rw[HD.out.1,HD.out.2]<;>rfl,rfl⟩
  ·have hjk:j<Math.cleast 4 k:=by
    apply Classical.byContradiction
    intro hn
    have:j=Math.cleast 4 k:=by omega
    subst this
    exact hx HCC.out
   clear HH
   generalize Math.nbits 2 j=nb at*
   generalize Math.codeC 2 j=C at*
   generalize Math.codeX 2 j=X at*
   generalize Math.cleast 4 k=T at*
   by_cases h1:C=k
   ·have h2:¬((X:Int)=0):=by omega
    have h2':((X:Int)==0)=false:=by simpa using h2
    subst h1
    clear HCC
    go_wp2_with fail
    refine(Calls.mono HV.out ?_)
    rintro e w2 ⟨rfl,rfl⟩
    go_wp2
    go_roundw
    case rel=>exact⟨j+1,by omega,by go_num,by first|rfl|trivial⟩
    case measure=>simp[intOf];omega
   ·have h2:¬(257+(C:Int)=(k:Int)+257):=by omega
    have h2':((C:Int)+257==(k:Int)+257)=false:=by rw[beq_eq_false_iff_ne];omega
    have h3':((C:Int)==(k:Int))=false:=by rw[beq_eq_false_iff_ne];omega
    have h4':¬((C:Int)=(k:Int)):=by omega
    have h5':¬((C:Int)+257=(k:Int)+257):=by omega
    clear HCC
    go_wp2_with fail
    refine(Calls.mono HV.out ?_)
    rintro e w2 ⟨rfl,rfl⟩
    go_wp2
    go_roundw
    case rel=>exact⟨j+1,by omega,by go_num,by first|rfl|trivial⟩
    case measure=>simp[intOf];omega

end Pk
end Go.Proofs.YtdcpjicgehdmfaaGreatDoor

/- The contract of the model's reader of a stored block. -/
namespace Go.Proofs.YtdcpjicgehdmfaaGreatDoor
namespace Math

def storedC (s:ByteArray):Nat:=if s.size<5 then 1 else if lowAt s 8 16+lowAt s 24 16≠65535 then 3 else if 3000<lowAt s 8 16 then 5 else if s.size<lowAt s 8 16+5 then 1 else 0

def storedT (s:ByteArray):ByteArray:=if storedC s=0 then s.extract 5 (5+lowAt s 8 16)else⟨#[]⟩

end Math
namespace Pk
open Go.ChangeShapes Go.WideShapes Go.ChangeAt Go.RowKit
open Math (bitAt lowAt topAt symAt symLen storedC storedT)
set_option linter.unusedSimpArgs false
set_option linter.unusedVariables false

set_option maxRecDepth 100000 in
set_option maxHeartbeats 1000000 in
theorem storedS_val (B c:Nat) (s:ByteArray) (w:World) (hs1:1≤s.size) (hs:s.size≤100000) (H:RdS B c s 3 w):
 Calls Tryz.prog 128 #[.pointer (some ⟨c,0,none⟩)] w fun e w'=>e= .returned (.tuple #[.string (storedT s),.int .i64 (storedC s)])∧(storedC s=0→RdS B c s (40+8*lowAt s 8 16) w')∧Mv c w w'∧Below B w w':=by
 go_enter Tryz.func128,Tryz.ntmps128
 go_wp2
 go_loopw [] (fun wr=>∃(q:Nat),3≤q∧q≤8∧RdS B c s q wr∧Mv c w wr∧Below B w wr) (fun wr=>8-(intOf ((wr.cell? ⟨c,1,none⟩).getD undef)).toNat)
 case atStart=>exact⟨3,by omega,by omega,H,Mv.refl _ _,Below.refl _ _⟩
 case round=>
  obtain⟨q,hq3,hq8,R,M,L⟩:=hrel
  have hB:=R.1
  have m:=R.2
  rw[show min q (8*s.size)=q by omega,decide_eq_false (show ¬8*s.size<q by omega)]at m
  have c0:wr.cell? ⟨c,0,none⟩=some (.string s):=cell_at m 0
  have c1:wr.cell? ⟨c,1,none⟩=some (.int .i64 (q:Int)):=cell_at m 1
  have f1:=frozen_at m 1
  have HM:Hid (_):=m
  have HR:Hid (_):=R
  clear m R
  by_cases h8:q<8
  ·have hm:Int.tmod (q:Int) 8=(q:Int):=by rw[Int.tmod_eq_emod_of_nonneg (by omega)];omega
   have hm2:(q:Int)%8=q:=by omega
   have hq0:((q:Int) !=0)=true:=by simp;omega
   have hq0':¬((q:Int)=0):=by omega
   have HW:Hid (RdS B c s (q+1) (wr.setCell ⟨c,1,none⟩ (.int .i64 ((q:Int)+1)))):=by
    refine⟨hB,?_⟩
    rw[show min (q+1) (8*s.size)=q+1 by omega,decide_eq_false (show ¬8*s.size<q+1 by omega)]
    exact hp_set (w:=wr) (i:=1) HM.out (.int .i64 ((q:Int)+1))
   go_wp2
   go_roundw
   case rel=>exact⟨q+1,by omega,by omega,HW.out,M.trans (Mv.set c 1 _ _),L.setCell hB _⟩
   case measure=>
    have h9:=cell_at HW.out.2 1
    rw[show min (q+1) (8*s.size)=q+1 by omega]at h9
    rw[c1]
    have h9':(wr.setCell ⟨c,1,none⟩ (.int .i64 ((q:Int)+1))).cell? ⟨c,1,none⟩=some (.int .i64 ((q+1:Nat):Int)):=h9
    simp only[h9',Option.getD_some,intOf]
    omega
  ·obtain rfl:q=8:=by omega
   clear c0 c1 f1 HM hq3 hq8 h8
   have hn1:=Math.lowAt_lt s 8 16
   have hn2:=Math.lowAt_lt s 24 16
   have HN1:Hid (_):=numS_val B c s 8 16 wr hs (by omega) (by omega) HR.out
   have HN2:Hid (∀w,RdS B c s (8+16) w→_):=fun w=>numS_val B c s 24 16 w hs (by omega) (by omega)
   have HC:Hid (storedC s=if s.size<5 then 1 else if lowAt s 8 16+lowAt s 24 16≠65535 then 3 else if 3000<lowAt s 8 16 then 5 else if s.size<lowAt s 8 16+5 then 1 else 0):=rfl
   have HT:Hid (storedT s=if storedC s=0 then s.extract 5 (5+lowAt s 8 16)else⟨#[]⟩):=rfl
   have HF:Hid (∃n t,lowAt s 8 16=n∧lowAt s 24 16=t):=⟨_,_,rfl,rfl⟩
   obtain⟨n,t,hn,ht⟩:=HF.out
   rw[hn]at hn1 HN1 HC HT
   rw[ht]at hn2 HN2 HC
   have HNE:Hid (_):=hn
   have cc1:wr.cell? ⟨c,1,none⟩=some (.int .i64 8):=by
    have h9:=cell_at HR.out.2 1
    rw[show min 8 (8*s.size)=8 by omega]at h9
    exact h9
   clear hn ht HF HR
   have hn1':n<65536:=hn1
   have hn2':t<65536:=hn2
   clear hn1 hn2
   go_wp2_with fail
   refine(Calls.mono HN1.out ?_)
   rintro e w2 ⟨rfl,R2,M2,L2⟩
   have M3:=M.trans M2
   have L3:=L.trans L2
   have HV:Hid (_):=HN2.out w2 R2
   clear R2 M2 L2 M L HN1 HN2 cc1
   go_wp2_with fail
   refine(Calls.mono HV.out ?_)
   rintro e w4 ⟨rfl,R4,M4,L4⟩
   have M:=M3.trans M4
   have L:=L3.trans L4
   have m:=R4.2
   clear M3 M4 L3 L4 HV R4
   by_cases h5:s.size<5
   ·rw[show(24+16:Nat)=40 from rfl,decide_eq_true (show 8*s.size<40 by omega)]at m
    have c2:w4.cell? ⟨c,2,none⟩=some (.bool true):=cell_at m 2
    have HD:=HC.out
    rw[if_pos h5]at HD
    have HE:=HT.out
    rw[HD,if_neg (by decide)]at HE
    have HQ:Hid (storedC s=1∧storedT s=⟨#[]⟩):=⟨HD,HE⟩
    clear HD HE HC HT m
    go_wp2
    go_ret2
    exact⟨by rw[HQ.out.1,HQ.out.2]<;>rfl,fun h=>absurd (HQ.out.1.symm.trans h) (by decide),M,L⟩
   rw[show(24+16:Nat)=40 from rfl,decide_eq_false (show ¬8*s.size<40 by omega),show min 40 (8*s.size)=40 by omega]at m
   have c0:w4.cell? ⟨c,0,none⟩=some (.string s):=cell_at m 0
   have c1:w4.cell? ⟨c,1,none⟩=some (.int .i64 40):=cell_at m 1
   have c2:w4.cell? ⟨c,2,none⟩=some (.bool false):=cell_at m 2
   have f1:=frozen_at m 1
   have HM:Hid (_):=m
   clear m
   rw[if_neg h5]at HC
   by_cases h6:n+t≠65535
   ·have HD:=HC.out
    rw[if_pos h6]at HD
    have HE:=HT.out
    rw[HD,if_neg (by decide)]at HE
    have HQ:Hid (storedC s=3∧storedT s=⟨#[]⟩):=⟨HD,HE⟩
    have h6':((n:Int)+(t:Int) !=65535)=true:=by rw[bne_iff_ne];omega
    have h6'':¬((n:Int)+(t:Int)=65535):=by omega
    clear HD HE HC HT
    go_wp2
    go_ret2
    exact⟨by rw[HQ.out.1,HQ.out.2]<;>rfl,fun h=>absurd (HQ.out.1.symm.trans h) (by decide),M,L⟩
   rw[if_neg h6]at HC
   have h6':(n:Int)+(t:Int)=65535:=by omega
   by_cases h7:3000<n
   ·have HD:=HC.out
    rw[if_pos h7]at HD
    have HE:=HT.out
    rw[HD,if_neg (by decide)]at HE
    have HQ:Hid (storedC s=5∧storedT s=⟨#[]⟩):=⟨HD,HE⟩
    clear HD HE HC HT
    go_wp2
    go_ret2
    exact⟨by rw[HQ.out.1,HQ.out.2]<;>rfl,fun h=>absurd (HQ.out.1.symm.trans h) (by decide),M,L⟩
   rw[if_neg h7]at HC
   by_cases h9:s.size<n+5
   ·have HD:=HC.out
    rw[if_pos h9]at HD
    have HE:=HT.out
    rw[HD,if_neg (by decide)]at HE
    have HQ:Hid (storedC s=1∧storedT s=⟨#[]⟩):=⟨HD,HE⟩
    have h9':(s.size:Int)-5<(n:Int):=by omega
    clear HD HE HC HT
    go_wp2
    go_quiet (fail)
    go_wp2
    go_ret2
    exact⟨by rw[HQ.out.1,HQ.out.2]<;>rfl,fun h=>absurd (HQ.out.1.symm.trans h) (by decide),M.drewN _,below_drewN L _⟩
   rw[if_neg h9]at HC
   have HE:=HT.out
   rw[HC.out,if_pos rfl]at HE
   have HQ:Hid (storedC s=0∧storedT s=s.extract 5 (5+n)):=⟨HC.out,HE⟩
   have h9':¬((s.size:Int)-5<(n:Int)):=by omega
   have h10:(5:Int)+(n:Int)≤(s.size:Int):=by omega
   have HW:Hid (∀q,RdS B c s (40+8*n) ((w4.drewN q).setCell ⟨c,1,none⟩ (.int .i64 (40+8*(n:Int))))):=by
    intro q
    refine⟨hB,?_⟩
    rw[show min (40+8*n) (8*s.size)=40+8*n by omega,decide_eq_false (show ¬8*s.size<40+8*n by omega)]
    exact hp_set (w:=w4.drewN q) (i:=1) HM.out (.int .i64 (40+8*(n:Int)))
   clear HE HC HT
   go_wp2
   go_quiet (fail)
   go_wp2
   go_ret2
   refine⟨?_,fun _=> ?_,(M.drewN _).trans (Mv.set c 1 _ _),(below_drewN L _).setCell hB _⟩
   ·rw[HQ.out.1,HQ.out.2]
    rfl
   ·rw[HNE.out]
    exact HW.out _

end Pk
end Go.Proofs.YtdcpjicgehdmfaaGreatDoor

/- The mathematics of chapter 3: what a list of pieces makes up. -/
namespace Go.Proofs.YtdcpjicgehdmfaaGreatDoor
namespace Math

structure Pc where
 x:Int
 n:Int
 d:Int

def copyN (l:List UInt8) (d:Nat):Nat→List UInt8
 |0=>l
 |n+1=>copyN l d n++ [(copyN l d n).getD ((copyN l d n).length-d) 0]

theorem copyN_length (l:List UInt8) (d n:Nat):(copyN l d n).length=l.length+n:=by
 induction n with
 |zero=>rfl
 |succ n ih=>rw[copyN,List.length_append,ih];rfl

def Pc.isB (p:Pc):Bool:=decide (p.n=0∧p.d=0∧0≤p.x∧p.x≤255)
def Pc.isC (p:Pc):Bool:=decide (p.x=0∧3≤p.n∧p.n≤258∧1≤p.d∧p.d≤1024)

def step (l:List UInt8) (p:Pc):Option (List UInt8):=
 if p.isB=true∧l.length<3000 then some (l++ [UInt8.ofNat p.x.toNat])
 else if p.isC=true∧p.d≤l.length∧l.length+p.n≤3000 then some (copyN l p.d.toNat p.n.toNat)
 else none

def wholeAt (ps:List Pc):Nat→Option (List UInt8)
 |0=>some []
 |k+1=>(wholeAt ps k).bind fun l=>step l (ps.getD k ⟨0,0,0⟩)

def wholeS (ps:List Pc):ByteArray:=⟨((wholeAt ps ps.length).getD []).toArray⟩
def wholeB (ps:List Pc):Bool:=(wholeAt ps ps.length).isSome

end Math
end Go.Proofs.YtdcpjicgehdmfaaGreatDoor

/- The mathematics of chapter 3: a fixed block that is read. -/
namespace Go.Proofs.YtdcpjicgehdmfaaGreatDoor
namespace Math

def lenBits (y:Nat):Nat:=if y=285 then 0 else cbits 4 (y-257)

def lenTold (s:ByteArray) (a y:Nat):Nat:=if y=285 then 258 else cleast 4 (y-257)+3+lowAt s a (cbits 4 (y-257))

def backTold (s:ByteArray) (a k:Nat):Nat:=cleast 2 k+1+lowAt s a (cbits 2 k)

def fixFrom (s:ByteArray):Nat→Nat→List UInt8→Nat×List UInt8×Nat
 |0,a,_=>(1,[],a)
 |f+1,a,out=>
  if 8*s.size<a+symLen s a then(1,[],a)
  else if symAt s a=256 then(0,out,a+symLen s a)
  else if symAt s a<256 then if 3000<out.length+1 then(5,[],a)else fixFrom s f (a+symLen s a) (out++ [UInt8.ofNat (symAt s a)])
  else if 285<symAt s a then(3,[],a)
  else if 8*s.size<a+symLen s a+lenBits (symAt s a)+5 then(1,[],a)
  else if 29<topAt s (a+symLen s a+lenBits (symAt s a)) 5 then(3,[],a)
  else if 8*s.size<a+symLen s a+lenBits (symAt s a)+5+cbits 2 (topAt s (a+symLen s a+lenBits (symAt s a)) 5)then(1,[],a)
  else if out.length<backTold s (a+symLen s a+lenBits (symAt s a)+5) (topAt s (a+symLen s a+lenBits (symAt s a)) 5)then(4,[],a)
  else if 3000<out.length+lenTold s (a+symLen s a) (symAt s a)then(5,[],a)
  else fixFrom s f (a+symLen s a+lenBits (symAt s a)+5+cbits 2 (topAt s (a+symLen s a+lenBits (symAt s a)) 5)) (copyN out (backTold s (a+symLen s a+lenBits (symAt s a)+5) (topAt s (a+symLen s a+lenBits (symAt s a)) 5)) (lenTold s (a+symLen s a) (symAt s a)))

theorem symLen_bd (s:ByteArray) (a:Nat):7≤symLen s a∧symLen s a≤9:=by
 unfold symLen
 split
 ·omega
 ·split<;>omega

theorem symAt_lt (s:ByteArray) (a:Nat):symAt s a<288:=by
 have h9:=topAt_lt s a 9
 unfold symAt
 split
 ·omega
 ·split
  ·omega
  ·split
   ·omega
   ·omega

end Math
end Go.Proofs.YtdcpjicgehdmfaaGreatDoor

/- Contracts of Whole, of the program and of its model. -/
namespace Go.Proofs.YtdcpjicgehdmfaaGreatDoor
namespace Pk
open Go.ChangeShapes Go.WideShapes Go.ChangeAt Go.RowKit
open Math (Pc)
set_option linter.unusedSimpArgs false
set_option linter.unusedVariables false

def Pcs (w:World) (a:Option Addr) (ps:List Pc):Prop:=
 ps= []∨∃b o,a=some ⟨b,o,none⟩∧b<w.heap.size∧∀i (h:i<ps.length),w.cell? ⟨b,o+i*3,none⟩=some (.int .i64 ps[i].x)∧w.cell? ⟨b,o+i*3+1,none⟩=some (.int .i64 ps[i].n)∧w.cell? ⟨b,o+i*3+2,none⟩=some (.int .i64 ps[i].d)

theorem Pcs.on {w w1:World} {a:Option Addr} {ps:List Pc} (h:Pcs w a ps) (L:Below w.heap.size w w1):Pcs w1 a ps:=by
 rcases h with h|⟨b,o,ha,hb,hc⟩
 ·exact Or.inl h
 ·exact Or.inr ⟨b,o,ha,Nat.lt_of_lt_of_le hb L.size,fun i hi=>by rw[L.cell (p:=⟨b,o+i*3,none⟩) hb,L.cell (p:=⟨b,o+i*3+1,none⟩) hb,L.cell (p:=⟨b,o+i*3+2,none⟩) hb];exact hc i hi⟩

theorem Pcs.at {w:World} {a:Option Addr} {ps:List Pc} (h:Pcs w a ps) (k:Nat) (hk:k<ps.length):∃b o,a=some ⟨b,o,none⟩∧b<w.heap.size∧w.cell? ⟨b,o+k*3,none⟩=some (.int .i64 ps[k].x)∧w.cell? ⟨b,o+k*3+1,none⟩=some (.int .i64 ps[k].n)∧w.cell? ⟨b,o+k*3+2,none⟩=some (.int .i64 ps[k].d):=by
 rcases h with h|⟨b,o,ha,hb,hc⟩
 ·subst h;simp at hk
 ·exact⟨b,o,ha,hb,hc k hk⟩

theorem withCopy_val (B:Nat) (v:Value) (l:List UInt8) (n d:Nat) (w:World) (hB:B≤w.heap.size) (hown:w.ownsRow B 5 1 v l.length (bcells l)) (hd1:1≤d) (hd2:d≤l.length) (hl:l.length≤10000) (hn:n≤1000):
 Calls Tryz.prog 200 #[v,.int .i64 n,.int .i64 d] w fun e w'=>∃v',e= .returned v'∧w'.ownsRow B 5 1 v' (l.length+n) (bcells (Math.copyN l d n))∧Below B w w':=by
 obtain⟨i0,hi,hz0,hz1,hz2⟩:=info_of info_u8
 go_enter Tryz.func200,Tryz.ntmps200
 go_wp2
 go_loopw [0,8] (fun v i wr=>∃(k:Nat),k≤n∧i= .int .i64 k∧wr.ownsRow B 5 1 v (l.length+k) (bcells (Math.copyN l d k))∧Below B w wr) (fun _ i _=>n-(intOf i).toNat)
 case atStart=>exact⟨0,by omega,rfl,hown,Below.refl _ _⟩
 case round=>
  obtain⟨k,hk,rfl,hown,L⟩:=hrel
  by_cases hkn:k<n
  ·have hlen:(Math.copyN l d k).length=l.length+k:=Math.copyN_length l d k
   obtain⟨g,cap,rfl,hg1,hg2,u,hu,hc⟩:=own_at hown (l.length+k-d) (by omega)
   rw[bcells_at _ _ (by omega)]at hu
   simp only[Option.some.injEq]at hu
   subst hu
   have hgd:(Math.copyN l d k)[l.length+k-d]'(by omega)=(Math.copyN l d k).getD ((Math.copyN l d k).length-d) 0:=by
    rw[List.getD_eq_getElem?_getD,show(Math.copyN l d k).length-d=l.length+k-d by omega,List.getElem?_eq_getElem (by omega)]
    rfl
   rw[hgd]at hc
   have HS:Hid (bcells (Math.copyN l d k)++ [.int .u8 (((Math.copyN l d k).getD ((Math.copyN l d k).length-d) 0).toNat:Int)]=bcells (Math.copyN l d (k+1))):=bcells_snoc (Math.copyN l d k) ((Math.copyN l d k).getD ((Math.copyN l d k).length-d) 0)
   clear hgd
   generalize (Math.copyN l d k).getD ((Math.copyN l d k).length-d) 0=b at*
   have hb:=b.toNat_lt
   have hBr:B≤wr.heap.size:=Nat.le_trans hB L.size
   have e1:((l.length:Int)+k-d)=((l.length+k-d:Nat):Int):=by omega
   generalize l.length+k-d=j at*
   go_wp2_with (at_builtin;refine wpList_append_own _ rfl _ _ 58 rfl B 5 i0 (.int .u8 0) 1 1 Tryz.underlying58 hi hz0 hz1 hz2 rfl (by decide) _ _ _ rfl (hown.alloc _) ⟨wr.heap.size,0,none⟩ 1 1 [.int .u8 b.toNat] rfl rfl ?c1 ?c2 ?c3 ?c4 ?c5 ?_)
   case c1=>exact cell_one_new _ _ _
   case c2=>intro u hu;simp at hu;subst hu;rfl
   case c3=>unfold maxLen;omega
   case c4=>omega
   case c5=>simp;omega
   ·intro v' w3 hown3 hgrow _
    have L3:Below B w w3:=(L.alloc hBr _).grown hgrow (by simp;omega) (fun m h=>own_ge hown m h)
    rw[HS.out]at hown3
    clear hown hgrow hc
    go_wp2
    go_roundw
    case rel=>exact⟨k+1,by omega,by go_num,hown3,L3⟩
    case measure=>simp[intOf];omega
  ·obtain rfl:k=n:=by omega
   go_wp2
   go_ret
   exact⟨_,rfl,hown,L⟩

abbrev t2 (s:ByteArray) (b:Bool):Value:= .tuple #[.string s,.bool b]

end Pk
end Go.Proofs.YtdcpjicgehdmfaaGreatDoor

/- The contract of the model's reader of a fixed block. -/
namespace Go.Proofs.YtdcpjicgehdmfaaGreatDoor
namespace Math

def lenLeast (y:Nat):Nat:=if y=285 then 258 else cleast 4 (y-257)+3

theorem lenTold_is (s:ByteArray) (a y:Nat):lenTold s a y=lenLeast y+lowAt s a (lenBits y):=by
 unfold lenTold lenLeast lenBits
 split
 ·rfl
 ·rfl

end Math
namespace Pk
open Go.ChangeShapes Go.WideShapes Go.ChangeAt Go.RowKit
open Math (bitAt lowAt topAt symAt symLen fixFrom lenBits lenLeast backTold lenTold)
set_option linter.unusedSimpArgs false
set_option linter.unusedVariables false

theorem lenOf_any (y:Nat) (w:World) (h1:257≤y) (h2:y≤285):
 Calls Tryz.prog 150 #[.int .i64 y] w fun e w'=>e= .returned (ii2 (lenLeast y:Nat) (lenBits y:Nat))∧w'=w:=by
 by_cases h:y=285
 ·subst h
  exact lenOf_last w
 ·obtain⟨k,rfl⟩:∃k,y=k+257:=⟨y-257,by omega⟩
  have h3:=lenOf_val k w (by omega)
  unfold lenLeast lenBits
  rw[if_neg h,if_neg h,show k+257-257=k by omega]
  exact h3

theorem len_bds (y:Nat) (h1:257≤y) (h2:y≤285):lenLeast y≤258∧lenBits y≤5:=by
 unfold lenLeast lenBits
 split
 ·omega
 ·have:=len_there (y-257) (by omega)
  omega

end Pk
end Go.Proofs.YtdcpjicgehdmfaaGreatDoor

/- A fixed block that is read, one step at a time: the mathematics. -/
namespace Go.Proofs.YtdcpjicgehdmfaaGreatDoor
namespace Math

variable {s:ByteArray} {g a:Nat} {out:List UInt8}

theorem fix_cut (h:8*s.size<a+symLen s a):fixFrom s (g+1) a out=(1,[],a):=by rw[fixFrom,if_pos h]

theorem fix_end (h:¬8*s.size<a+symLen s a) (h2:symAt s a=256):fixFrom s (g+1) a out=(0,out,a+symLen s a):=by rw[fixFrom,if_neg h,if_pos h2]

theorem fix_full (h:¬8*s.size<a+symLen s a) (h2:symAt s a<256) (h3:3000<out.length+1):fixFrom s (g+1) a out=(5,[],a):=by rw[fixFrom,if_neg h,if_neg (by omega),if_pos h2,if_pos h3]

theorem fix_byte (h:¬8*s.size<a+symLen s a) (h2:symAt s a<256) (h3:¬3000<out.length+1):fixFrom s (g+1) a out=fixFrom s g (a+symLen s a) (out++ [UInt8.ofNat (symAt s a)]):=by rw[fixFrom,if_neg h,if_neg (by omega),if_pos h2,if_neg h3]

theorem fix_sym (h:¬8*s.size<a+symLen s a) (h2:285<symAt s a):fixFrom s (g+1) a out=(3,[],a):=by rw[fixFrom,if_neg h,if_neg (by omega),if_neg (by omega),if_pos h2]

def p1 (s:ByteArray) (a:Nat):Nat:=a+symLen s a+lenBits (symAt s a)
def bk (s:ByteArray) (a:Nat):Nat:=topAt s (p1 s a) 5
def p2' (s:ByteArray) (a:Nat):Nat:=p1 s a+5+cbits 2 (bk s a)
def dd (s:ByteArray) (a:Nat):Nat:=backTold s (p1 s a+5) (bk s a)
def nn (s:ByteArray) (a:Nat):Nat:=lenTold s (a+symLen s a) (symAt s a)

theorem fix_cut2 (h:¬8*s.size<a+symLen s a) (h2:256<symAt s a) (h3:symAt s a≤285) (h4:8*s.size<p1 s a+5):fixFrom s (g+1) a out=(1,[],a):=by
 unfold p1 at h4
 rw[fixFrom,if_neg h,if_neg (by omega),if_neg (by omega),if_neg (by omega),if_pos h4]

theorem fix_sym2 (h:¬8*s.size<a+symLen s a) (h2:256<symAt s a) (h3:symAt s a≤285) (h4:¬8*s.size<p1 s a+5) (h5:29<bk s a):fixFrom s (g+1) a out=(3,[],a):=by
 unfold bk p1 at h5
 unfold p1 at h4
 rw[fixFrom,if_neg h,if_neg (by omega),if_neg (by omega),if_neg (by omega),if_neg h4,if_pos h5]

theorem fix_cut3 (h:¬8*s.size<a+symLen s a) (h2:256<symAt s a) (h3:symAt s a≤285) (h4:¬8*s.size<p1 s a+5) (h5:¬29<bk s a) (h6:8*s.size<p2' s a):fixFrom s (g+1) a out=(1,[],a):=by
 unfold p2' bk p1 at h6
 unfold bk p1 at h5
 unfold p1 at h4
 rw[fixFrom,if_neg h,if_neg (by omega),if_neg (by omega),if_neg (by omega),if_neg h4,if_neg h5,if_pos h6]

theorem fix_back (h:¬8*s.size<a+symLen s a) (h2:256<symAt s a) (h3:symAt s a≤285) (h4:¬8*s.size<p1 s a+5) (h5:¬29<bk s a) (h6:¬8*s.size<p2' s a) (h7:out.length<dd s a):fixFrom s (g+1) a out=(4,[],a):=by
 unfold dd bk p1 at h7
 unfold p2' bk p1 at h6
 unfold bk p1 at h5
 unfold p1 at h4
 rw[fixFrom,if_neg h,if_neg (by omega),if_neg (by omega),if_neg (by omega),if_neg h4,if_neg h5,if_neg h6,if_pos h7]

theorem fix_long (h:¬8*s.size<a+symLen s a) (h2:256<symAt s a) (h3:symAt s a≤285) (h4:¬8*s.size<p1 s a+5) (h5:¬29<bk s a) (h6:¬8*s.size<p2' s a) (h7:¬out.length<dd s a) (h8:3000<out.length+nn s a):fixFrom s (g+1) a out=(5,[],a):=by
 unfold nn at h8
 unfold dd bk p1 at h7
 unfold p2' bk p1 at h6
 unfold bk p1 at h5
 unfold p1 at h4
 rw[fixFrom,if_neg h,if_neg (by omega),if_neg (by omega),if_neg (by omega),if_neg h4,if_neg h5,if_neg h6,if_neg h7,if_pos h8]

theorem fix_copy (h:¬8*s.size<a+symLen s a) (h2:256<symAt s a) (h3:symAt s a≤285) (h4:¬8*s.size<p1 s a+5) (h5:¬29<bk s a) (h6:¬8*s.size<p2' s a) (h7:¬out.length<dd s a) (h8:¬3000<out.length+nn s a):fixFrom s (g+1) a out=fixFrom s g (p2' s a) (copyN out (dd s a) (nn s a)):=by
 unfold nn dd p2' bk p1
 unfold nn at h8
 unfold dd bk p1 at h7
 unfold p2' bk p1 at h6
 unfold bk p1 at h5
 unfold p1 at h4
 rw[fixFrom,if_neg h,if_neg (by omega),if_neg (by omega),if_neg (by omega),if_neg h4,if_neg h5,if_neg h6,if_neg h7,if_neg h8]

theorem bk_lt (s:ByteArray) (a:Nat):bk s a<32:=topAt_lt s (p1 s a) 5

theorem nn_is (s:ByteArray) (a:Nat):nn s a=lenLeast (symAt s a)+lowAt s (a+symLen s a) (lenBits (symAt s a)):=lenTold_is _ _ _

theorem dd_is (s:ByteArray) (a:Nat):dd s a=cleast 2 (bk s a)+1+lowAt s (p1 s a+5) (cbits 2 (bk s a)):=rfl

theorem back_bds:∀k,k≤29→cleast 2 k≤40000∧cbits 2 k≤13:=by decide+kernel

end Math
end Go.Proofs.YtdcpjicgehdmfaaGreatDoor

/- The contract of the model's reader of a fixed block. -/
namespace Go.Proofs.YtdcpjicgehdmfaaGreatDoor
namespace Pk
open Go.ChangeShapes Go.WideShapes Go.ChangeAt Go.RowKit
open Math (bitAt lowAt topAt symAt symLen fixFrom lenBits lenLeast p1 bk p2' dd nn copyN)
set_option linter.unusedSimpArgs false
set_option linter.unusedVariables false

theorem own_len {w:World} {base e:Nat} {v:Value} {l:List UInt8} {b:UInt8} (h:w.ownsRow base e 1 v (l.length+1) (bcells (l++ [b]))):w.ownsRow base e 1 v (l++ [b]).length (bcells (l++ [b])):=by
 rw[show(l++ [b]).length=l.length+1 from by simp]
 exact h

set_option maxRecDepth 100000 in
set_option maxHeartbeats 8000000 in
theorem fixedS_val (B c:Nat) (s:ByteArray) (a0 F:Nat) (w:World) (hs:s.size≤100000) (hBc:B≤c) (hc:c<w.heap.size) (ha0:a0≤8*s.size) (hF:8*s.size<a0+7*F) (H:RdS B c s a0 w):
 Calls Tryz.prog 127 #[.pointer (some ⟨c,0,none⟩)] w fun e w'=>(∃code txt a',fixFrom s F a0 []=(code,txt,a')∧e= .returned (.tuple #[.string ⟨txt.toArray⟩,.int .i64 (code:Nat)])∧(code=0→RdS B c s a' w'∧a'≤8*s.size))∧Below B w w':=by
 obtain⟨i0,hi,hz0,hz1,hz2⟩:=info_of info_u8
 have hBw:B≤w.heap.size:=by omega
 have hs0:(w.alloc (.cells #[] 5)).heap.size=w.heap.size+1:=Array.size_push ..
 go_enter Tryz.func127,Tryz.ntmps127
 go_wp2
 go_loopw [4] (fun v wr=>∃(a:Nat) (l:List UInt8) (f:Nat),a≤8*s.size∧l.length≤3000∧wr.ownsRow w.heap.size 5 1 v l.length (bcells l)∧Hid (Below B w wr)∧RdS B c s a wr∧8*s.size<a+7*f∧w.heap.size<wr.heap.size∧Hid (fixFrom s F a0 []=fixFrom s f a l)) (fun _ wr=>8*s.size+1-(intOf ((wr.cell? ⟨c,1,none⟩).getD undef)).toNat)
 case atStart=>exact⟨a0,[],F,ha0,by simp,⟨rfl,Or.inr ⟨w.heap.size,0,#[],rfl,Nat.le_refl _,heap_new w _,by simp,by unfold maxLen;omega,rfl,rfl⟩⟩,(Below.refl _ _).alloc (by omega) _,⟨hBc,heap_old H.2 _⟩,hF,by rw[hs0];omega,rfl⟩
 case round=>
  clear hs0 H hF
  obtain⟨a,l,f,hal,hl,hown,L,R,hf,hwr,HF⟩:=hrel
  obtain⟨g,rfl⟩:∃g,f=g+1:=⟨f-1,by omega⟩
  have hy:=Math.symAt_lt s a
  have hnl:=Math.symLen_bd s a
  have HS:Hid (∀_:Unit,_):=fun _=>symS_val B c s a wr hs (by omega) R
  have HA:Hid (_):=R
  obtain⟨va,vc,rfl,-⟩:=own_form hown
  have HMS:Hid (wr.cell? ⟨c,1,none⟩=some (.int .i64 ((min a (8*s.size):Nat):Int))):=cell_at R.2 1
  clear R
  obtain⟨y,hyy⟩:∃y,symAt s a=y:=⟨_,rfl⟩
  obtain⟨nl,hnn⟩:∃nl,symLen s a=nl:=⟨_,rfl⟩
  have HYY:Hid (symAt s a=y):=hyy
  have HNN:Hid (symLen s a=nl):=hnn
  rw[hyy,hnn]at HS
  rw[hyy]at hy
  rw[hnn]at hnl
  clear hyy hnn
  go_wp2_with fail
  refine(HS.out ()).mono ?_
  rintro e w2 ⟨rfl,R2,M2,L2⟩
  have hown2:=own_mv hown M2 HA.out.2 (by decide)
  have L3:=L.out.trans L2
  have HR2:Hid (_):=R2
  have c2:w2.cell? ⟨c,2,none⟩=some (.bool (decide (8*s.size<a+nl))):=cell_at R2.2 2
  have hw2:w.heap.size<w2.heap.size:=by rw[M2.1];exact hwr
  clear HS R2 M2 L2 L hown HA hwr
  by_cases hcut:8*s.size<a+nl
  ·have HX:Hid (_):=HF.out.trans (Math.fix_cut (by rw[HNN.out];exact hcut))
   rw[decide_eq_true hcut]at c2
   go_wp2
   go_ret2
   exact⟨⟨1,[],_,HX.out,rfl,fun h=>absurd h (by decide)⟩,L3⟩
  rw[decide_eq_false hcut]at c2
  by_cases h256:y=256
  ·have HX:Hid (_):=HF.out.trans (Math.fix_end (by rw[HNN.out];exact hcut) (by rw[HYY.out];exact h256))
   subst h256
   have hconv:=conv_own hown2
   go_wp2
   go_ret2
   exact⟨⟨0,l,_,HX.out,rfl,fun _=>⟨by rw[HNN.out];exact HR2.out,by rw[HNN.out];omega⟩⟩,L3⟩
  have h256I:¬(y:Int)=256:=by omega
  by_cases hlt:y<256
  ·have hltI:(y:Int)<256:=by omega
   have hwy:IntKind.u8.wrap (y:Int)=(y:Int):=by rw[IntKind.wrap_u8];omega
   have hBr:w.heap.size≤w2.heap.size:=by omega
   have HBY:Hid (((UInt8.ofNat y).toNat:Int)=(y:Int)):=by show((UInt8.ofNat y).toNat:Int)=(y:Int);rw[UInt8.toNat_ofNat'];omega
   go_wp2_with (at_builtin;refine wpList_append_own _ rfl _ _ 58 rfl w.heap.size 5 i0 (.int .u8 0) 1 1 Tryz.underlying58 hi hz0 hz1 hz2 rfl (by decide) _ _ _ rfl (hown2.alloc _) ⟨w2.heap.size,0,none⟩ 1 1 [.int .u8 (y:Int)] rfl rfl ?c1 ?c2 ?c3 ?c4 ?c5 ?_)
   case c1=>exact cell_one_new _ _ _
   case c2=>intro u hu;simp at hu;subst hu;rfl
   case c3=>unfold maxLen;omega
   case c4=>omega
   case c5=>simp;omega
   intro v' w3 hown3 hgrow _
   rw[←HBY.out,bcells_snoc]at hown3
   have m2:=heap_old HR2.out.2 (.cells #[.int .u8 (y:Int)] 5)
   have m3:w3.heap[c]? =_:=(hgrow.block c (lt_of m2) (own_ne (hown2.alloc _) m2 (by decide))).trans m2
   have L4:Below B w w3:=(L3.alloc (by omega) _).grown hgrow (by simp;omega) (fun m h=>Nat.le_trans hBw (own_ge hown2 m h))
   have hw3:w.heap.size<w3.heap.size:=Nat.lt_of_lt_of_le (by simp;omega) hgrow.size
   have c31:w3.cell? ⟨c,1,none⟩=some (.int .i64 ((min (a+nl) (8*s.size):Nat):Int)):=cell_at m3 1
   clear hgrow m2 hown2 c2
   by_cases hful:3000<l.length+1
   ·have HX:Hid (_):=HF.out.trans (Math.fix_full (by rw[HNN.out];exact hcut) (by rw[HYY.out];exact hlt) hful)
    obtain⟨va3,vc3,rfl,-⟩:=own_form hown3
    have hfI:(3000:Int)<(l.length:Int)+1:=by omega
    go_wp2
    go_ret2
    exact⟨⟨5,[],_,HX.out,rfl,fun h=>absurd h (by decide)⟩,L4⟩
   ·have HX:Hid (_):=HF.out.trans (Math.fix_byte (by rw[HNN.out];exact hcut) (by rw[HYY.out];exact hlt) hful)
    rw[HNN.out,HYY.out]at HX
    obtain⟨va3,vc3,rfl,-⟩:=own_form hown3
    have hfI:¬(3000:Int)<(l.length:Int)+1:=by omega
    have HSL:Hid (_):=own_len hown3
    go_wp2
    go_roundw
    case rel=>exact⟨a+nl,l++ [UInt8.ofNat y],g,by omega,by simp;omega,HSL.out,L4,⟨hBc,m3⟩,by omega,hw3,HX⟩
    case measure=>rw[c31,HMS.out];simp[intOf];omega
  have hltI:¬(y:Int)<256:=by omega
  by_cases h285:285<y
  ·have HX:Hid (_):=HF.out.trans (Math.fix_sym (by rw[HNN.out];exact hcut) (by rw[HYY.out];exact h285))
   have h285I:(285:Int)<(y:Int):=by omega
   go_wp2
   go_ret2
   exact⟨⟨3,[],_,HX.out,rfl,fun h=>absurd h (by decide)⟩,L3⟩
  have h285I:¬(285:Int)<(y:Int):=by omega
  have hy256:256<y:=by omega
  obtain⟨hlb1,hlb2⟩:=len_bds y (by omega) (by omega)
  have HLO:Hid (∀W,_):=fun W=>lenOf_any y W (by omega) (by omega)
  unfold ii2 at HLO
  have HN1:Hid (∀W,RdS B c s (a+nl) W→_):=fun W r=>numS_val B c s (a+nl) (lenBits y) W hs (by omega) (by omega) r
  have HP1:Hid (p1 s a=a+nl+lenBits y):=by show p1 s a=_;unfold p1;rw[HNN.out,HYY.out]
  have HTP:Hid (∀W,RdS B c s (a+nl+lenBits y) W→_):=fun W r=>topS_val B c s (a+nl+lenBits y) 5 W hs (by omega) (by omega) r
  have HBK:Hid (bk s a=topAt s (a+nl+lenBits y) 5):=by show bk s a=_;unfold bk;rw[HP1.out]
  have hbk:=Math.bk_lt s a
  rw[show((5:Nat):Int)=5 from rfl,←HBK.out]at HTP
  have hlo1:lowAt s (a+nl) (lenBits y)<32:=Nat.lt_of_lt_of_le (Math.lowAt_lt s (a+nl) (lenBits y)) (Nat.le_trans (Nat.pow_le_pow_right (by omega) hlb2) (by decide))
  have HNNN:Hid (nn s a=lenLeast y+lowAt s (a+nl) (lenBits y)):=by show nn s a=_;rw[Math.nn_is,HNN.out,HYY.out]
  have HG1:Hid (∀K,K≤29→∀W,_):=fun K hK W=>backOf_val K W hK
  unfold ii2 at HG1
  generalize lowAt s (a+nl) (lenBits y)=lo1 at*
  generalize hlbb:lenBits y=lb at*
  generalize lenLeast y=ll at*
  obtain⟨n,hn⟩:∃n,ll+lo1=n:=⟨_,rfl⟩
  have hnI:(ll:Int)+(lo1:Int)=(n:Int):=by omega
  rw[hn]at HNNN
  have hn290:n≤290:=by omega
  clear hn
  obtain⟨K,hKK⟩:∃K,bk s a=K:=⟨_,rfl⟩
  have HKK:Hid (bk s a=K):=hKK
  rw[hKK]at HTP HBK hbk
  clear hKK
  go_wp2_with fail
  refine(HLO.out _).mono ?_
  rintro e w3 ⟨rfl,hw3⟩
  have hw4:=hw3.symm
  subst hw4
  go_wp2_with fail
  refine(HN1.out _ HR2.out).mono ?_
  rintro e w4 ⟨rfl,R4,M4,L4⟩
  have hown4:=own_mv hown2 M4 HR2.out.2 (by decide)
  have K4:=L3.trans L4
  have hw4:w.heap.size<w4.heap.size:=by rw[M4.1];exact hw2
  have HR4:Hid (_):=R4
  clear R4 M4 L4 L3 hown2 HR2 c2 hw2 HLO HN1 hw3
  go_wp2_with fail
  refine(HTP.out _ HR4.out).mono ?_
  rintro e w5 ⟨rfl,R5,M5,L5⟩
  have hown5:=own_mv hown4 M5 HR4.out.2 (by decide)
  have K5:=K4.trans L5
  have hw5:w.heap.size<w5.heap.size:=by rw[M5.1];exact hw4
  have HR5:Hid (_):=R5
  have c5:w5.cell? ⟨c,2,none⟩=some (.bool (decide (8*s.size<a+nl+lb+5))):=cell_at R5.2 2
  clear R5 M5 L5 K4 hown4 HR4 hw4 HTP
  have hn1:Hid (¬8*s.size<a+symLen s a):=by show ¬_;rw[HNN.out];exact hcut
  have hn2:Hid (256<symAt s a):=by show _<_;rw[HYY.out];exact hy256
  have hn3:Hid (symAt s a≤285):=by show _≤_;rw[HYY.out];omega
  by_cases hcut2:8*s.size<a+nl+lb+5
  ·have HX:Hid (_):=HF.out.trans (Math.fix_cut2 hn1.out hn2.out hn3.out (by rw[HP1.out];exact hcut2))
   rw[decide_eq_true hcut2]at c5
   go_wp2
   go_ret2
   exact⟨⟨1,[],_,HX.out,rfl,fun h=>absurd h (by decide)⟩,K5⟩
  rw[decide_eq_false hcut2]at c5
  have hn4:Hid (¬8*s.size<p1 s a+5):=by show ¬_;rw[HP1.out];exact hcut2
  by_cases h29:29<K
  ·have HX:Hid (_):=HF.out.trans (Math.fix_sym2 hn1.out hn2.out hn3.out hn4.out (by rw[HKK.out];exact h29))
   have h29I:(29:Int)<(K:Int):=by omega
   go_wp2
   go_ret2
   exact⟨⟨3,[],_,HX.out,rfl,fun h=>absurd h (by decide)⟩,K5⟩
  have h29I:¬(29:Int)<(K:Int):=by omega
  have hn5:Hid (¬29<bk s a):=by show ¬_;rw[HKK.out];exact h29
  obtain⟨hcb1,hcb2⟩:=Math.back_bds K (by omega)
  have HBO:Hid (∀W,_):=fun W=>HG1.out K (by omega) W
  have HN2:Hid (∀W,RdS B c s (a+nl+lb+5) W→_):=fun W r=>numS_val B c s (a+nl+lb+5) (Math.cbits 2 K) W hs (by omega) (by omega) r
  have HP2:Hid (p2' s a=a+nl+lb+5+Math.cbits 2 K):=by show p2' s a=_;unfold p2';rw[HP1.out,HKK.out]
  have HDD:Hid (dd s a=Math.cleast 2 K+1+lowAt s (a+nl+lb+5) (Math.cbits 2 K)):=by show dd s a=_;rw[Math.dd_is,HKK.out,HP1.out]
  have hlo2:lowAt s (a+nl+lb+5) (Math.cbits 2 K)<8192:=Nat.lt_of_lt_of_le (Math.lowAt_lt s (a+nl+lb+5) (Math.cbits 2 K)) (Nat.le_trans (Nat.pow_le_pow_right (by omega) hcb2) (by decide))
  generalize lowAt s (a+nl+lb+5) (Math.cbits 2 K)=lo2 at*
  generalize Math.cbits 2 K=cb at*
  generalize Math.cleast 2 K=cl at*
  obtain⟨d,hd⟩:∃d,cl+1+lo2=d:=⟨_,rfl⟩
  have hdI:(cl:Int)+1+(lo2:Int)=(d:Int):=by omega
  rw[hd]at HDD
  have hd1:1≤d:=by omega
  have hd49:d≤50000:=by omega
  clear HG1 hd
  go_wp2_with fail
  refine(HBO.out _).mono ?_
  rintro e w6 ⟨rfl,hw6⟩
  have hw7:=hw6.symm
  subst hw7
  go_wp2_with fail
  refine(HN2.out _ HR5.out).mono ?_
  rintro e w6 ⟨rfl,R6,M6,L6⟩
  have hown6:=own_mv hown5 M6 HR5.out.2 (by decide)
  have K6:=K5.trans L6
  have hw6':w.heap.size<w6.heap.size:=by rw[M6.1];exact hw5
  have HR6:Hid (_):=R6
  have c6:w6.cell? ⟨c,2,none⟩=some (.bool (decide (8*s.size<a+nl+lb+5+cb))):=cell_at R6.2 2
  clear R6 M6 L6 K5 hown5 HR5 hw5 HBO HN2 hw6 c5
  by_cases hcut3:8*s.size<a+nl+lb+5+cb
  ·have HX:Hid (_):=HF.out.trans (Math.fix_cut3 hn1.out hn2.out hn3.out hn4.out hn5.out (by rw[HP2.out];exact hcut3))
   rw[decide_eq_true hcut3]at c6
   go_wp2
   go_ret2
   exact⟨⟨1,[],_,HX.out,rfl,fun h=>absurd h (by decide)⟩,K6⟩
  rw[decide_eq_false hcut3]at c6
  have hn6:Hid (¬8*s.size<p2' s a):=by show ¬_;rw[HP2.out];exact hcut3
  by_cases hbk2:l.length<d
  ·have HX:Hid (_):=HF.out.trans (Math.fix_back hn1.out hn2.out hn3.out hn4.out hn5.out hn6.out (by rw[HDD.out];exact hbk2))
   have hbI:(l.length:Int)<(d:Int):=by omega
   go_wp2
   go_ret2
   exact⟨⟨4,[],_,HX.out,rfl,fun h=>absurd h (by decide)⟩,K6⟩
  have hbI:¬(l.length:Int)<(d:Int):=by omega
  have hn7:Hid (¬l.length<dd s a):=by show ¬_;rw[HDD.out];exact hbk2
  by_cases hlg:3000<l.length+n
  ·have HX:Hid (_):=HF.out.trans (Math.fix_long hn1.out hn2.out hn3.out hn4.out hn5.out hn6.out hn7.out (by rw[HNNN.out];exact hlg))
   have hgI:(3000:Int)<(l.length:Int)+(n:Int):=by omega
   go_wp2
   go_ret2
   exact⟨⟨5,[],_,HX.out,rfl,fun h=>absurd h (by decide)⟩,K6⟩
  have hgI:¬(3000:Int)<(l.length:Int)+(n:Int):=by omega
  have HX:Hid (_):=HF.out.trans (Math.fix_copy hn1.out hn2.out hn3.out hn4.out hn5.out hn6.out hn7.out (by rw[HNNN.out];exact hlg))
  rw[HP2.out,HDD.out,HNNN.out]at HX
  have hdl:d≤l.length:=by omega
  have hn3k:l.length+n≤3000:=by omega
  have hgI2:¬(3000:Int)<(l.length:Int)+(n:Int):=by omega
  have hbI2:¬(l.length:Int)<(d:Int):=by omega
  clear hn1 hn2 hn3 hn4 hn5 hn6 hn7 HP1 HP2 HDD HNNN HKK HBK hbI hgI hlg hbk2
  have HLN:Hid (_):=Math.copyN_length l d
  have m6:=HR6.out.2
  have HNS:Hid (∀k,(copyN l d k).length=l.length+k):=fun k=>Math.copyN_length l d k
  generalize hN:l.length=N at*
  have c61:Hid (w6.cell? ⟨c,1,none⟩=some (.int .i64 ((min (a+nl+lb+5+cb) (8*s.size):Nat):Int))):=cell_at m6 1
  have hown6':w6.ownsRow w.heap.size 5 1 (.slice va N vc) (N+0) (bcells (copyN l d 0)):=hown6
  clear hown6 HLN
  have hdN:decide (N<d)=false:=decide_eq_false (by omega)
  go_wp2
  go_loopw [4,11] (fun v i wr2=>∃(j:Nat),j≤n∧i= .int .i64 j∧wr2.ownsRow w.heap.size 5 1 v (N+j) (bcells (copyN l d j))∧Hid (Below B w wr2)∧w.heap.size<wr2.heap.size∧wr2.heap[c]? =some (.cells #[.string s,.int .i64 ((min (a+nl+lb+5+cb) (8*s.size):Nat):Int),.bool (decide (8*s.size<a+nl+lb+5+cb))] 146)) (fun _ i _=>n-(intOf i).toNat)
  case atStart=>exact⟨0,by omega,rfl,hown6',K6,hw6',m6⟩
  case round=>
   clear hown6' K6 hw6' m6 c6 c61
   obtain⟨j,hj,rfl,hownj,Lj,hwj,mj⟩:=hrel
   have hlen:=HNS.out j
   have hBj:w.heap.size≤wr.heap.size:=by omega
   by_cases hjn:j<n
   ·have hne:=own_ne hownj mj (by decide)
    obtain⟨gg,cp,rfl,hg1,hg2,u,hu,hc⟩:=own_at hownj (N+j-d) (by omega)
    rw[bcells_at _ _ (by omega)]at hu
    simp only[Option.some.injEq]at hu
    subst hu
    have hgd:(copyN l d j)[N+j-d]'(by omega)=(copyN l d j).getD ((copyN l d j).length-d) 0:=by
     rw[List.getD_eq_getElem?_getD,show(copyN l d j).length-d=N+j-d by omega,List.getElem?_eq_getElem (by omega)]
     rfl
    rw[hgd]at hc
    have HSn:Hid (bcells (copyN l d j)++ [.int .u8 (((copyN l d j).getD ((copyN l d j).length-d) 0).toNat:Int)]=bcells (copyN l d (j+1))):=bcells_snoc (copyN l d j) ((copyN l d j).getD ((copyN l d j).length-d) 0)
    clear hgd
    generalize (copyN l d j).getD ((copyN l d j).length-d) 0=yb at*
    have hyb:=yb.toNat_lt
    have e1:((N:Int)+j-d)=((N+j-d:Nat):Int):=by omega
    have hjI:(j:Int)<(n:Int):=by omega
    have hqlt:N+j-d<N+j:=by omega
    generalize N+j-d=q at*
    have hqI:(q:Int)<(N:Int)+(j:Int):=by omega
    clear hlen
    go_wp2_with (at_builtin;refine wpList_append_own _ rfl _ _ 58 rfl w.heap.size 5 i0 (.int .u8 0) 1 1 Tryz.underlying58 hi hz0 hz1 hz2 rfl (by decide) _ _ _ rfl (hownj.alloc _) ⟨wr.heap.size,0,none⟩ 1 1 [.int .u8 yb.toNat] rfl rfl ?d1 ?d2 ?d3 ?d4 ?d5 ?_)
    case d1=>exact cell_one_new _ _ _
    case d2=>intro u hu;simp at hu;subst hu;rfl
    case d3=>unfold maxLen;omega
    case d4=>omega
    case d5=>simp;omega
    intro v' w3 hown3 hgrow _
    have L9:Below B w w3:=(Lj.out.alloc (by omega) _).grown hgrow (by simp;omega) (fun m h=>Nat.le_trans hBw (own_ge hownj m h))
    have m9:w3.heap[c]? =_:=(hgrow.block c (by have:=lt_of mj;simp;omega) hne).trans (heap_old mj _)
    have hw9:w.heap.size<w3.heap.size:=Nat.lt_of_lt_of_le (by simp;omega) hgrow.size
    rw[HSn.out]at hown3
    clear hownj hgrow hc mj hne
    go_wp2
    go_roundw
    case rel=>exact⟨j+1,by omega,by go_num,hown3,L9,hw9,m9⟩
    case measure=>simp[intOf];omega
   ·obtain rfl:j=n:=by omega
    have hjI:¬(j:Int)<(j:Int):=by omega
    have c91:wr.cell? ⟨c,1,none⟩=some (.int .i64 ((min (a+nl+lb+5+cb) (8*s.size):Nat):Int)):=cell_at mj 1
    go_wp2
    go_roundw
    case rel=>exact⟨a+nl+lb+5+cb,copyN l d j,g,by omega,by omega,by rw[hlen];exact hownj,Lj,⟨hBc,mj⟩,by omega,hwj,HX⟩
    case measure=>rw[c91,HMS.out];simp[intOf];omega

end Pk
end Go.Proofs.YtdcpjicgehdmfaaGreatDoor

/- What Unpack answers; the contract of the model's Unpack. -/
namespace Go.Proofs.YtdcpjicgehdmfaaGreatDoor
namespace Math

def rst (s:ByteArray):Nat→Nat→Nat
 |0,a=>if a<8*s.size then 6 else 0
 |n+1,a=>if a%8=0 then(if a<8*s.size then 6 else 0)else if bitAt s a=1 then 6 else rst s n (a+1)

theorem rst_end (s:ByteArray) (n a:Nat) (h:a%8=0):rst s n a=if a<8*s.size then 6 else 0:=by
 cases n with
 |zero=>rfl
 |succ n=>rw[rst,if_pos h]

def body (s:ByteArray):Nat×List UInt8×Nat:=if lowAt s 1 2=1 then fixFrom s (8*s.size+1) 3 []else(storedC s,(storedT s).data.toList,40+8*lowAt s 8 16)

def unpC (s:ByteArray):Nat:=if 6000<s.size then 5 else if s.size=0 then 1 else if bitAt s 0=0∨1<lowAt s 1 2 then 2 else if(body s).1≠0 then(body s).1 else rst s 8 (body s).2.2
def unpT (s:ByteArray):ByteArray:=if unpC s=0 then⟨(body s).2.1.toArray⟩else⟨#[]⟩

theorem unpT_no {s:ByteArray} (h:unpC s≠0):unpT s=⟨#[]⟩:=if_neg h
theorem unpT_yes {s:ByteArray} (h:unpC s=0):unpT s=⟨(body s).2.1.toArray⟩:=if_pos h

theorem unp_body {s:ByteArray} (h1:¬6000<s.size) (h2:¬s.size=0) (h3:¬(bitAt s 0=0∨1<lowAt s 1 2)) {code a:Nat} {txt:List UInt8} (hb:body s=(code,txt,a)):(code≠0→unpC s=code∧unpT s=⟨#[]⟩)∧(code=0→unpC s=rst s 8 a∧(unpC s=0→unpT s=⟨txt.toArray⟩)):=by
 have e:unpC s=if(body s).1≠0 then(body s).1 else rst s 8 (body s).2.2:=by unfold unpC;rw[if_neg h1,if_neg h2,if_neg h3]
 rw[hb]at e
 refine⟨fun hc=> ?_,fun hc=> ?_⟩
 ·rw[if_pos hc]at e
  exact⟨e,unpT_no (by rw[e];exact hc)⟩
 ·rw[if_neg (by simpa using hc)]at e
  exact⟨e,fun h=>by rw[unpT_yes h,hb]⟩

end Math
namespace Pk
open Go.ChangeShapes Go.WideShapes Go.ChangeAt Go.RowKit
open Math (bitAt lowAt topAt symAt symLen fixFrom storedC storedT rst body unpC unpT)
set_option linter.unusedSimpArgs false
set_option linter.unusedVariables false

set_option maxRecDepth 100000 in
set_option maxHeartbeats 4000000 in
theorem specUnpack_val (s:ByteArray) (w:World) (hm:s.size≤maxLen):
 Calls Tryz.prog 91 #[.string s] w fun e w'=>e= .returned (.tuple #[.string (unpT s),.int .i64 (unpC s:Nat)])∧Below w.heap.size w w':=by
 unfold maxLen at hm
 by_cases h6:6000<s.size
 ·have e1:unpC s=5:=by unfold unpC;rw[if_pos h6]
  rw[e1,Math.unpT_no (by rw[e1];decide)]
  have h6I:(6000:Int)<(s.size:Int):=by omega
  go_enter Tryz.func91,Tryz.ntmps91
  go_wp2
  go_ret2
  exact⟨rfl,Below.refl _ _⟩
 have h6I:¬(6000:Int)<(s.size:Int):=by omega
 have N0:=new_below w (.cells #[.string s,.int .i64 0,.bool false] 146)
 have m0:=heap_new w (.cells #[.string s,.int .i64 0,.bool false] 146)
 have hs0:(w.alloc (.cells #[.string s,.int .i64 0,.bool false] 146)).heap.size=w.heap.size+1:=Array.size_push ..
 have R0:RdS w.heap.size w.heap.size s 0 (w.alloc (.cells #[.string s,.int .i64 0,.bool false] 146)):=by
  refine⟨Nat.le_refl _,?_⟩
  rw[m0,Nat.min_eq_left (by omega),decide_eq_false (by omega)]
  rfl
 have HBV:Hid (∀_:Unit,_):=fun _=>bitS_val w.heap.size w.heap.size s 0 _ (by omega) (by omega) R0
 have HNV:Hid (∀W,RdS w.heap.size w.heap.size s 1 W→_):=fun W r=>numS_val w.heap.size w.heap.size s 1 2 W (by omega) (by omega) (by omega) r
 rw[show((2:Nat):Int)=2 from rfl]at HNV
 have hb0:=Math.bitAt_le s 0
 have hl2:lowAt s 1 2<4:=Math.lowAt_lt s 1 2
 by_cases hz:s.size=0
 ·have e1:unpC s=1:=by unfold unpC;rw[if_neg h6,if_pos hz]
  rw[e1,Math.unpT_no (by rw[e1];decide)]
  go_enter Tryz.func91,Tryz.ntmps91
  go_wp2_with fail
  refine(HBV.out ()).mono ?_
  generalize w.alloc (.cells #[.string s,.int .i64 0,.bool false] 146)=w0 at*
  rintro e w1 ⟨rfl,R1,M1,L1⟩
  have K1:=N0.trans L1
  go_wp2_with fail
  refine(HNV.out _ R1).mono ?_
  rintro e w2 ⟨rfl,R2,M2,L2⟩
  have K2:=K1.trans L2
  have c2:w2.cell? ⟨w.heap.size,2,none⟩=some (.bool true):=by
   have:=cell_at R2.2 2
   rw[decide_eq_true (show 8*s.size<1+2 by omega)]at this
   exact this
  go_wp2
  go_ret2
  exact⟨rfl,K2⟩
 by_cases hk:bitAt s 0=0∨1<lowAt s 1 2
 ·have e1:unpC s=2:=by unfold unpC;rw[if_neg h6,if_neg hz,if_pos hk]
  rw[e1,Math.unpT_no (by rw[e1];decide)]
  have HKK:Hid (_):=hk
  generalize bitAt s 0=b0 at*
  generalize lowAt s 1 2=kd at*
  clear hk
  by_cases hb1:b0=0
  ·subst hb1
   go_enter Tryz.func91,Tryz.ntmps91
   go_wp2_with fail
   refine(HBV.out ()).mono ?_
   generalize w.alloc (.cells #[.string s,.int .i64 0,.bool false] 146)=w0 at*
   rintro e w1 ⟨rfl,R1,M1,L1⟩
   have K1:=N0.trans L1
   go_wp2_with fail
   refine(HNV.out _ R1).mono ?_
   rintro e w2 ⟨rfl,R2,M2,L2⟩
   have K2:=K1.trans L2
   have c2:w2.cell? ⟨w.heap.size,2,none⟩=some (.bool false):=by
    have:=cell_at R2.2 2
    rw[decide_eq_false (show ¬8*s.size<1+2 by omega)]at this
    exact this
   go_wp2
   go_ret2
   exact⟨rfl,K2⟩
  ·have hb2:b0=1:=by omega
   subst hb2
   have hkI:(1:Int)<(kd:Int):=by have:=HKK.out;omega
   go_enter Tryz.func91,Tryz.ntmps91
   go_wp2_with fail
   refine(HBV.out ()).mono ?_
   generalize w.alloc (.cells #[.string s,.int .i64 0,.bool false] 146)=w0 at*
   rintro e w1 ⟨rfl,R1,M1,L1⟩
   have K1:=N0.trans L1
   go_wp2_with fail
   refine(HNV.out _ R1).mono ?_
   rintro e w2 ⟨rfl,R2,M2,L2⟩
   have K2:=K1.trans L2
   have c2:w2.cell? ⟨w.heap.size,2,none⟩=some (.bool false):=by
    have:=cell_at R2.2 2
    rw[decide_eq_false (show ¬8*s.size<1+2 by omega)]at this
    exact this
   go_wp2
   go_ret2
   exact⟨rfl,K2⟩
 have HBD:Hid (∀ {code a:Nat} {txt:List UInt8},body s=(code,txt,a)→_):=fun hb=>Math.unp_body h6 hz hk hb
 have hb1:bitAt s 0=1:=by omega
 have hk1:lowAt s 1 2≤1:=by omega
 rw[hb1]at HBV
 have HBS:Hid (∀W q,q≤8*s.size→RdS w.heap.size w.heap.size s q W→_):=fun W q hq r=>bitS_val w.heap.size w.heap.size s q W (by omega) (by omega) r
 by_cases hkd:lowAt s 1 2=1
 ·have HBE:Hid (body s=fixFrom s (8*s.size+1) 3 []):=if_pos hkd
  rw[hkd]at HNV
  have HFV:Hid (∀W,w.heap.size<W.heap.size→RdS w.heap.size w.heap.size s 3 W→_):=fun W hc r=>fixedS_val w.heap.size w.heap.size s 3 (8*s.size+1) W (by omega) (Nat.le_refl _) hc (by omega) (by omega) r
  clear hkd hk1 hb1 hk hb0 hl2
  have HUTX:Hid (unpC s≠0→unpT s=⟨#[]⟩):=fun h=>Math.unpT_no h
  generalize unpT s=UT at*
  generalize unpC s=UC at*
  go_enter Tryz.func91,Tryz.ntmps91
  go_wp2_with fail
  refine(HBV.out ()).mono ?_
  generalize w.alloc (.cells #[.string s,.int .i64 0,.bool false] 146)=w0 at*
  rintro e w1 ⟨rfl,R1,M1,L1⟩
  have K1:=N0.trans L1
  go_wp2_with fail
  refine(HNV.out _ R1).mono ?_
  rintro e w2 ⟨rfl,R2,M2,L2⟩
  have K2:=K1.trans L2
  have c2:w2.cell? ⟨w.heap.size,2,none⟩=some (.bool false):=by
   have:=cell_at R2.2 2
   rw[decide_eq_false (show ¬8*s.size<1+2 by omega)]at this
   exact this
  clear HBV HNV R0 R1 M1 L1 K1 L2 N0 m0 hs0
  go_wp2_with fail
  refine(HFV.out _ (lt_of R2.2) R2).mono ?_
  rintro e w3 ⟨⟨code,txt,a',hfx,rfl,hR3⟩,L3⟩
  have K3:=K2.trans L3
  obtain⟨HB1,HB2⟩:=HBD.out (HBE.out.trans hfx)
  clear HFV R2 M2 L3 K2 c2 hfx HBE
  by_cases hc0:code=0
  ·subst hc0
   obtain⟨R3,ha'⟩:=hR3 rfl
   obtain⟨hU1,hU2⟩:=HB2 rfl
   have HU1:Hid (UC=rst s 8 a'):=hU1
   have HU2:Hid (UC=0→UT=⟨txt.toArray⟩):=hU2
   have HUT:Hid (UC≠0→UT=⟨#[]⟩):=HUTX.out
   clear hU1 hU2 HB1 HB2
   go_wp2
   go_loopw [] (fun wr=>∃q n:Nat,q≤8*s.size∧(q%8=0∨8≤q%8+n)∧Hid (UC=rst s n q)∧RdS w.heap.size w.heap.size s q wr∧Hid (Below w.heap.size w wr)) (fun wr=>8*s.size+1-(intOf ((wr.cell? ⟨w.heap.size,1,none⟩).getD undef)).toNat)
   case atStart=>exact⟨a',8,ha',by omega,HU1,R3,K3⟩
   case round=>
    clear HU1 R3 K3
    obtain⟨q,n,hq,hqn,HQ,R,K⟩:=hrel
    have hm:=R.2
    rw[Nat.min_eq_left hq]at hm
    have c1:wr.cell? ⟨w.heap.size,1,none⟩=some (.int .i64 (q:Int)):=cell_at hm 1
    by_cases hq8:q%8=0
    ·have ht:Int.tmod (q:Int) 8=0:=by rw[Int.tmod_eq_emod_of_nonneg (by omega)];omega
     have hq9:(q:Int)%8=0:=by omega
     by_cases hqs:q<8*s.size
     ·have e6:UC=6:=by rw[HQ.out,Math.rst_end s n q hq8,if_pos hqs]
      have eT:=HUT.out (by rw[e6];decide)
      subst e6 eT
      have hqI:(q:Int)<8*(s.size:Int):=by omega
      go_wp2
      go_ret2
      exact⟨rfl,K.out⟩
     ·have e0:UC=0:=by rw[HQ.out,Math.rst_end s n q hq8,if_neg hqs]
      have eT:=HU2.out e0
      subst e0 eT
      have hqI:¬(q:Int)<8*(s.size:Int):=by omega
      go_wp2
      go_ret2
      exact⟨rfl,K.out⟩
    ·obtain⟨n',rfl⟩:∃n',n=n'+1:=⟨n-1,by omega⟩
     have ht:Int.tmod (q:Int) 8=((q%8:Nat):Int):=by rw[Int.tmod_eq_emod_of_nonneg (by omega)];omega
     have ht2:(q:Int)%8=((q%8:Nat):Int):=by omega
     have htn:(((q%8:Nat):Int) !=0)=true:=by rw[bne_iff_ne];omega
     have htn2:¬((q%8:Nat):Int)=0:=by omega
     have hqs:q<8*s.size:=by omega
     have hq1:(q+1)%8=0∨8≤(q+1)%8+n':=by omega
     have HRS:Hid (UC=if bitAt s q=1 then 6 else rst s n' (q+1)):=by show _=_;rw[HQ.out,Math.rst,if_neg hq8]
     have hbq:=Math.bitAt_le s q
     have HBQ:Hid (∀_:Unit,_):=fun _=>HBS.out wr q hq R
     generalize bitAt s q=bq at*
     obtain⟨r8,hr8⟩:∃r8,q%8=r8:=⟨_,rfl⟩
     rw[hr8]at ht ht2 htn htn2
     clear R hm hqn hq8 hr8
     go_wp2_with fail
     refine(HBQ.out ()).mono ?_
     rintro e w5 ⟨rfl,R5,M5,L5⟩
     have K5:=K.out.trans L5
     have c5:w5.cell? ⟨w.heap.size,1,none⟩=some (.int .i64 ((min (q+1) (8*s.size):Nat):Int)):=cell_at R5.2 1
     by_cases hb:bq=1
     ·have e6:UC=6:=by rw[HRS.out,if_pos hb]
      have eT:=HUT.out (by rw[e6];decide)
      subst e6 eT hb
      go_wp2
      go_ret2
      exact⟨rfl,K5⟩
     ·have hb0:bq=0:=by omega
      subst hb0
      have HRN:Hid (UC=rst s n' (q+1)):=by show _=_;rw[HRS.out,if_neg hb]
      go_wp2
      go_roundw
      case rel=>exact⟨q+1,n',by omega,hq1,HRN,R5,K5⟩
      case measure=>rw[c5,c1];simp[intOf];omega
  ·obtain⟨rfl,rfl⟩:=HB1 hc0
   have hcI:((UC:Int) !=0)=true:=by rw[bne_iff_ne];omega
   have hcI2:¬(UC:Int)=0:=by omega
   clear hR3 HB2
   go_wp2
   go_ret2
   exact⟨rfl,K3⟩
 ·have hkd0:lowAt s 1 2=0:=by omega
  have HBE:Hid (body s=(storedC s,(storedT s).data.toList,40+8*lowAt s 8 16)):=if_neg hkd
  rw[hkd0]at HNV
  have HFV:Hid (∀W,RdS w.heap.size w.heap.size s 3 W→_):=fun W r=>storedS_val w.heap.size w.heap.size s W (by omega) (by omega) r
  obtain⟨HB1,HB2⟩:=HBD.out HBE.out
  rw[Array.toArray_toList]at HB2
  have HC5:Hid (storedC s=0→40+8*lowAt s 8 16≤8*s.size):=fun h=>by
   unfold storedC at h
   split at h
   ·omega
   ·split at h
    ·omega
    ·split at h
     ·omega
     ·split at h
      ·omega
      ·omega
  clear hkd hkd0 hk1 hb1 hk hb0 hl2 HBE HBD
  have HUTX:Hid (unpC s≠0→unpT s=⟨#[]⟩):=fun h=>Math.unpT_no h
  generalize unpT s=UT at*
  generalize unpC s=UC at*
  generalize storedT s=ST at*
  generalize storedC s=SC at*
  generalize 40+8*lowAt s 8 16=a' at*
  go_enter Tryz.func91,Tryz.ntmps91
  go_wp2_with fail
  refine(HBV.out ()).mono ?_
  generalize w.alloc (.cells #[.string s,.int .i64 0,.bool false] 146)=w0 at*
  rintro e w1 ⟨rfl,R1,M1,L1⟩
  have K1:=N0.trans L1
  go_wp2_with fail
  refine(HNV.out _ R1).mono ?_
  rintro e w2 ⟨rfl,R2,M2,L2⟩
  have K2:=K1.trans L2
  have c2:w2.cell? ⟨w.heap.size,2,none⟩=some (.bool false):=by
   have:=cell_at R2.2 2
   rw[decide_eq_false (show ¬8*s.size<1+2 by omega)]at this
   exact this
  clear HBV HNV R0 R1 M1 L1 K1 L2 N0 m0 hs0
  go_wp2_with fail
  refine(HFV.out _ R2).mono ?_
  rintro e w3 ⟨rfl,hR3,M3,L3⟩
  have K3:=K2.trans L3
  clear HFV R2 M2 L3 K2 c2 M3
  by_cases hc0:SC=0
  ·subst hc0
   have R3:=hR3 rfl
   have ha':=HC5.out rfl
   obtain⟨hU1,hU2⟩:=HB2 rfl
   have HU1:Hid (UC=rst s 8 a'):=hU1
   have HU2:Hid (UC=0→UT=ST):=hU2
   have HUT:Hid (UC≠0→UT=⟨#[]⟩):=HUTX.out
   clear hU1 hU2 HB1 HB2
   go_wp2
   go_loopw [] (fun wr=>∃q n:Nat,q≤8*s.size∧(q%8=0∨8≤q%8+n)∧Hid (UC=rst s n q)∧RdS w.heap.size w.heap.size s q wr∧Hid (Below w.heap.size w wr)) (fun wr=>8*s.size+1-(intOf ((wr.cell? ⟨w.heap.size,1,none⟩).getD undef)).toNat)
   case atStart=>exact⟨a',8,ha',by omega,HU1,R3,K3⟩
   case round=>
    clear HU1 R3 K3
    obtain⟨q,n,hq,hqn,HQ,R,K⟩:=hrel
    have hm:=R.2
    rw[Nat.min_eq_left hq]at hm
    have c1:wr.cell? ⟨w.heap.size,1,none⟩=some (.int .i64 (q:Int)):=cell_at hm 1
    by_cases hq8:q%8=0
    ·have ht:Int.tmod (q:Int) 8=0:=by rw[Int.tmod_eq_emod_of_nonneg (by omega)];omega
     have hq9:(q:Int)%8=0:=by omega
     by_cases hqs:q<8*s.size
     ·have e6:UC=6:=by rw[HQ.out,Math.rst_end s n q hq8,if_pos hqs]
      have eT:=HUT.out (by rw[e6];decide)
      subst e6 eT
      have hqI:(q:Int)<8*(s.size:Int):=by omega
      go_wp2
      go_ret2
      exact⟨rfl,K.out⟩
     ·have e0:UC=0:=by rw[HQ.out,Math.rst_end s n q hq8,if_neg hqs]
      have eT:=HU2.out e0
      subst e0 eT
      have hqI:¬(q:Int)<8*(s.size:Int):=by omega
      go_wp2
      go_ret2
      exact⟨rfl,K.out⟩
    ·obtain⟨n',rfl⟩:∃n',n=n'+1:=⟨n-1,by omega⟩
     have ht:Int.tmod (q:Int) 8=((q%8:Nat):Int):=by rw[Int.tmod_eq_emod_of_nonneg (by omega)];omega
     have ht2:(q:Int)%8=((q%8:Nat):Int):=by omega
     have htn:(((q%8:Nat):Int) !=0)=true:=by rw[bne_iff_ne];omega
     have htn2:¬((q%8:Nat):Int)=0:=by omega
     have hqs:q<8*s.size:=by omega
     have hq1:(q+1)%8=0∨8≤(q+1)%8+n':=by omega
     have HRS:Hid (UC=if bitAt s q=1 then 6 else rst s n' (q+1)):=by show _=_;rw[HQ.out,Math.rst,if_neg hq8]
     have hbq:=Math.bitAt_le s q
     have HBQ:Hid (∀_:Unit,_):=fun _=>HBS.out wr q hq R
     generalize bitAt s q=bq at*
     obtain⟨r8,hr8⟩:∃r8,q%8=r8:=⟨_,rfl⟩
     rw[hr8]at ht ht2 htn htn2
     clear R hm hqn hq8 hr8
     go_wp2_with fail
     refine(HBQ.out ()).mono ?_
     rintro e w5 ⟨rfl,R5,M5,L5⟩
     have K5:=K.out.trans L5
     have c5:w5.cell? ⟨w.heap.size,1,none⟩=some (.int .i64 ((min (q+1) (8*s.size):Nat):Int)):=cell_at R5.2 1
     by_cases hb:bq=1
     ·have e6:UC=6:=by rw[HRS.out,if_pos hb]
      have eT:=HUT.out (by rw[e6];decide)
      subst e6 eT hb
      go_wp2
      go_ret2
      exact⟨rfl,K5⟩
     ·have hb0:bq=0:=by omega
      subst hb0
      have HRN:Hid (UC=rst s n' (q+1)):=by show _=_;rw[HRS.out,if_neg hb]
      go_wp2
      go_roundw
      case rel=>exact⟨q+1,n',by omega,hq1,HRN,R5,K5⟩
      case measure=>rw[c5,c1];simp[intOf];omega
  ·obtain⟨rfl,rfl⟩:=HB1 hc0
   have hcI:((UC:Int) !=0)=true:=by rw[bne_iff_ne];omega
   have hcI2:¬(UC:Int)=0:=by omega
   clear hR3 HB2
   go_wp2
   go_ret2
   exact⟨rfl,K3⟩

end Pk
end Go.Proofs.YtdcpjicgehdmfaaGreatDoor

/- The mathematics of chapter 4: four digits, and the parts of a frame. -/
namespace Go.Proofs.YtdcpjicgehdmfaaGreatDoor
namespace Fr
open Math (unpC unpT)
set_option linter.unusedVariables false

def dg (t:ByteArray):Nat→Option Nat
 |0=>some 0
 |k+1=>(dg t k).bind fun n=>if 48≤(t.data.toList.getD k 0).toNat∧(t.data.toList.getD k 0).toNat≤57 then some (10*n+((t.data.toList.getD k 0).toNat-48))else none

theorem dg_lt (t:ByteArray) (k n:Nat) (h:dg t k=some n):n<10^k:=by
 induction k generalizing n with
 |zero=>simp[dg]at h;omega
 |succ k ih=>
  rw[dg]at h
  cases e:dg t k with
  |none=>rw[e]at h;simp at h
  |some m=>
   rw[e]at h
   have hm:=ih m e
   simp only[Option.bind_some]at h
   split at h
   ·simp only[Option.some.injEq]at h
    rw[Nat.pow_succ]
    omega
   ·simp at h

theorem dg_none (t:ByteArray) (k j:Nat) (h:dg t k=none) (hj:k≤j):dg t j=none:=by
 induction j with
 |zero=>rw[show(0:Nat)=k by omega];exact h
 |succ j ih=>
  by_cases e:k=j+1
  ·subst e;exact h
  ·rw[dg,ih (by omega)]
   rfl

theorem dg_at (t:ByteArray) (k n:Nat) (hk:k<t.size) (h:dg t k=some n):dg t (k+1)=if 48≤t[k].toNat∧t[k].toNat≤57 then some (10*n+(t[k].toNat-48))else none:=by
 have h1:k<t.data.toList.length:=by rw[Array.length_toList];exact hk
 have e:t.data.toList.getD k 0=t[k]:=by rw[List.getD_eq_getElem?_getD,List.getElem?_eq_getElem h1];rfl
 rw[dg,h,e]
 rfl

theorem dg_ext (t u:ByteArray) (k:Nat) (h:∀j,j<k→t.data.toList.getD j 0=u.data.toList.getD j 0):dg t k=dg u k:=by
 induction k with
 |zero=>rfl
 |succ k ih=>rw[dg,dg,ih fun j hj=>h j (by omega),h k (by omega)]

theorem getD_extract (s:ByteArray) (a b j:Nat) (h:a+j<b) (hb:b≤s.size):(s.extract a b).data.toList.getD j 0=s.data.toList.getD (a+j) 0:=by
 have e:(s.extract a b).data.toList=(s.data.toList.take b).drop a:=by
  rw[ByteArray.data_extract,Array.toList_extract,List.extract_eq_take_drop,List.take_drop]
  congr 2
  omega
 rw[e,List.getD_eq_getElem?_getD,List.getElem?_drop,List.getElem?_take,if_pos (by omega),List.getD_eq_getElem?_getD]

def cutB (r:ByteArray):Bool:=decide (4≤r.size)&&(dg r 4).isSome
def cutN (r:ByteArray):Nat:=if cutB r=true then(dg r 4).getD 0 else 0
def cutR (r:ByteArray):ByteArray:=if cutB r=true then r.extract 4 r.size else⟨#[]⟩

theorem cut_yes {r:ByteArray} {n:Nat} (h:4≤r.size) (hd:dg r 4=some n):cutB r=true∧cutN r=n∧cutR r=r.extract 4 r.size:=by
 have e:cutB r=true:=by unfold cutB;rw[hd];simp[h]
 exact⟨e,by unfold cutN;rw[if_pos e,hd];rfl,by unfold cutR;rw[if_pos e]⟩

theorem cut_no {r:ByteArray} (h:¬(4≤r.size)∨dg r 4=none):cutB r=false∧cutN r=0∧cutR r=⟨#[]⟩:=by
 have e:cutB r=false:=by
  unfold cutB
  rcases h with h|h
  ·simp[h]
  ·rw[h];simp
 exact⟨e,by unfold cutN;rw[if_neg (by rw[e];simp)],by unfold cutR;rw[if_neg (by rw[e];simp)]⟩

def digI (t:ByteArray):Int:=match dg t 4 with
 |some n=>n
 |none=> -1

theorem digI_some {t:ByteArray} {n:Nat} (h:dg t 4=some n):digI t=n:=by unfold digI;rw[h]
theorem digI_none {t:ByteArray} (h:dg t 4=none):digI t= -1:=by unfold digI;rw[h]

theorem cut_rest (s:ByteArray) (a:Nat) (h:a+4≤s.size):dg (s.extract a s.size) 4=dg (s.extract a (a+4)) 4:=
 dg_ext _ _ 4 fun j hj=>by rw[getD_extract s a s.size j (by omega) (Nat.le_refl _),getD_extract s a (a+4) j (by omega) h]

theorem ext_size (s:ByteArray) (a b:Nat) (h:b≤s.size):(s.extract a b).size=b-a:=by rw[ByteArray.size_extract];omega

theorem ext_ext (s:ByteArray) (a b:Nat):(s.extract a s.size).extract b (s.extract a s.size).size=s.extract (a+b) s.size:=by
 rw[ByteArray.extract_extract,ByteArray.size_extract]
 by_cases h:a≤s.size
 ·congr 1
  omega
 ·apply ByteArray.ext
  rw[ByteArray.data_extract,ByteArray.data_extract,Array.extract_empty_of_size_le_start (by show s.size≤_;omega),Array.extract_empty_of_size_le_start (by show s.size≤_;omega)]

theorem ext_in (s:ByteArray) (a b c:Nat) (h:a+c≤s.size):(s.extract a s.size).extract b c=s.extract (a+b) (a+c):=by
 rw[ByteArray.extract_extract]
 congr 1
 omega

def hd5:ByteArray:=⟨#[35,85,84,48,49]⟩

theorem take5 (s:ByteArray) (h:5≤s.size):(s.extract 0 5).data.toList=s.data.toList.take 5:=by
 rw[ByteArray.data_extract,Array.toList_extract,List.extract_eq_take_drop]
 rfl

theorem prefix_yes (s:ByteArray) (h:5≤s.size) (he:s.extract 0 5=hd5):Lib.hasPrefix s.data.toList hd5.data.toList=true∧(⟨(Lib.trimPrefix s.data.toList hd5.data.toList).toArray⟩:ByteArray)=s.extract 5 s.size:=by
 have e:s.data.toList.take 5=hd5.data.toList:=by rw[←take5 s h,he]
 have hp:Lib.hasPrefix s.data.toList hd5.data.toList=true:=by
  unfold Lib.hasPrefix
  rw[List.isPrefixOf_iff_prefix,←e]
  exact List.take_prefix 5 _
 refine⟨hp,?_⟩
 unfold Lib.trimPrefix
 rw[if_pos hp]
 apply ByteArray.ext
 apply Array.toList_inj.1
 rw[ByteArray.data_extract,Array.toList_extract,List.extract_eq_take_drop,List.take_of_length_le (by rw[List.length_drop,Array.length_toList];show s.size-5≤s.size-5;omega)]
 rfl

theorem prefix_no (s:ByteArray) (h:¬5≤s.size∨s.extract 0 5≠hd5):Lib.hasPrefix s.data.toList hd5.data.toList=false:=by
 apply Bool.eq_false_iff.2
 intro hp
 unfold Lib.hasPrefix at hp
 rw[List.isPrefixOf_iff_prefix]at hp
 have hl:=hp.length_le
 have h5:5≤s.size:=by rw[Array.length_toList]at hl;exact hl
 rcases h with h|h
 ·exact h h5
 ·apply h
  apply ByteArray.ext
  apply Array.toList_inj.1
  rw[take5 s h5]
  exact(List.prefix_iff_eq_take.1 hp).symm

def Bad1 (s:ByteArray):Prop:=¬5≤s.size∨s.extract 0 5≠hd5
def Bad2 (s:ByteArray):Prop:=s.size<17∨dg (s.extract 5 9) 4=none
def Bad3 (s:ByteArray):Prop:=s.size<21∨dg (s.extract 17 21) 4≠some (s.size-21)
def Bad4 (s:ByteArray):Prop:=unpC (s.extract 21 s.size)≠0

end Fr
end Go.Proofs.YtdcpjicgehdmfaaGreatDoor

/- What Unframe answers. -/
namespace Go.Proofs.YtdcpjicgehdmfaaGreatDoor
namespace Fr
open Math (unpC unpT)
open Num (rmR rmS)
set_option linter.unusedVariables false

def fC (s:ByteArray):Nat:=if ¬5≤s.size∨s.extract 0 5≠hd5 then 1 else if s.size<17∨dg (s.extract 5 9) 4=none then 2 else if s.size<21∨dg (s.extract 17 21) 4≠some (s.size-21)then 3 else if unpC (s.extract 21 s.size)≠0 then 4 else 0
def fN (s:ByteArray):Int:=if fC s=0 then digI (s.extract 5 9)else 0
def fR (s:ByteArray):Int:=if fC s=0 then rmR (s.extract 9 17)else 0
def fS (s:ByteArray):Int:=if fC s=0 then rmS (s.extract 9 17)else 0
def fP (s:ByteArray):ByteArray:=if fC s=0 then unpT (s.extract 21 s.size)else⟨#[]⟩

theorem f_no {s:ByteArray} (h:fC s≠0):fN s=0∧fR s=0∧fS s=0∧fP s=⟨#[]⟩:=⟨if_neg h,if_neg h,if_neg h,if_neg h⟩
theorem f_yes {s:ByteArray} (h:fC s=0):fN s=digI (s.extract 5 9)∧fR s=rmR (s.extract 9 17)∧fS s=rmS (s.extract 9 17)∧fP s=unpT (s.extract 21 s.size):=⟨if_pos h,if_pos h,if_pos h,if_pos h⟩

theorem f_cases (s:ByteArray):(Bad1 s∧fC s=1)∨(¬Bad1 s∧Bad2 s∧fC s=2)∨(¬Bad1 s∧¬Bad2 s∧Bad3 s∧fC s=3)∨(¬Bad1 s∧¬Bad2 s∧¬Bad3 s∧Bad4 s∧fC s=4)∨(¬Bad1 s∧¬Bad2 s∧¬Bad3 s∧¬Bad4 s∧fC s=0):=by
 unfold Bad1 Bad2 Bad3 Bad4
 by_cases h1:¬5≤s.size∨s.extract 0 5≠hd5
 ·exact Or.inl ⟨h1,by unfold fC;rw[if_pos h1]⟩
 by_cases h2:s.size<17∨dg (s.extract 5 9) 4=none
 ·exact Or.inr (Or.inl ⟨h1,h2,by unfold fC;rw[if_neg h1,if_pos h2]⟩)
 by_cases h3:s.size<21∨dg (s.extract 17 21) 4≠some (s.size-21)
 ·exact Or.inr (Or.inr (Or.inl ⟨h1,h2,h3,by unfold fC;rw[if_neg h1,if_neg h2,if_pos h3]⟩))
 by_cases h4:unpC (s.extract 21 s.size)≠0
 ·exact Or.inr (Or.inr (Or.inr (Or.inl ⟨h1,h2,h3,h4,by unfold fC;rw[if_neg h1,if_neg h2,if_neg h3,if_pos h4]⟩)))
 ·exact Or.inr (Or.inr (Or.inr (Or.inr ⟨h1,h2,h3,h4,by unfold fC;rw[if_neg h1,if_neg h2,if_neg h3,if_neg h4]⟩)))

abbrev u4 (n r s:Int) (p:ByteArray) (c:Int):Go.Value:= .tuple #[.int .i64 n,.agg #[.int .i64 r,.int .i64 s],.string p,.int .i64 c]

end Fr
end Go.Proofs.YtdcpjicgehdmfaaGreatDoor

/- The bound of what is unpacked, and of a frame's text. -/
namespace Go.Proofs.YtdcpjicgehdmfaaGreatDoor
namespace Fr
open Math (fixFrom symLen symAt p1 bk p2' dd nn unpC unpT body storedC storedT lowAt)
set_option linter.unusedVariables false

theorem fix_len (v:ByteArray) (f:Nat):∀(a:Nat) (out o:List UInt8) (z:Nat),out.length≤3000→fixFrom v f a out=(0,o,z)→o.length≤3000:=by
 induction f with
 |zero=>intro a out o z _ h;rw[fixFrom]at h;simp at h
 |succ f ih=>
  intro a out o z hout h
  by_cases h1:8*v.size<a+symLen v a
  ·rw[Math.fix_cut h1]at h;simp at h
  by_cases h2:symAt v a=256
  ·rw[Math.fix_end h1 h2]at h
   simp only[Prod.mk.injEq,true_and]at h
   obtain⟨rfl,rfl⟩:=h
   exact hout
  by_cases h3:symAt v a<256
  ·by_cases h4:3000<out.length+1
   ·rw[Math.fix_full h1 h3 h4]at h;simp at h
   ·rw[Math.fix_byte h1 h3 h4]at h
    exact ih _ _ _ _ (by rw[List.length_append,List.length_singleton];omega) h
  by_cases h4:285<symAt v a
  ·rw[Math.fix_sym h1 h4]at h;simp at h
  by_cases h5:8*v.size<p1 v a+5
  ·rw[Math.fix_cut2 h1 (by omega) (by omega) h5]at h;simp at h
  by_cases h6:29<bk v a
  ·rw[Math.fix_sym2 h1 (by omega) (by omega) h5 h6]at h;simp at h
  by_cases h7:8*v.size<p2' v a
  ·rw[Math.fix_cut3 h1 (by omega) (by omega) h5 h6 h7]at h;simp at h
  by_cases h8:out.length<dd v a
  ·rw[Math.fix_back h1 (by omega) (by omega) h5 h6 h7 h8]at h;simp at h
  by_cases h9:3000<out.length+nn v a
  ·rw[Math.fix_long h1 (by omega) (by omega) h5 h6 h7 h8 h9]at h;simp at h
  rw[Math.fix_copy h1 (by omega) (by omega) h5 h6 h7 h8 h9]at h
  exact ih _ _ _ _ (by rw[Math.copyN_length];omega) h

theorem unp_is (v:ByteArray) (h:unpC v=0):¬6000<v.size∧1≤v.size∧¬(Math.bitAt v 0=0∨1<lowAt v 1 2)∧(body v).1=0∧Math.rst v 8 (body v).2.2=0:=by
 unfold unpC at h
 by_cases h1:6000<v.size
 ·rw[if_pos h1]at h;omega
 rw[if_neg h1]at h
 by_cases h2:v.size=0
 ·rw[if_pos h2]at h;omega
 rw[if_neg h2]at h
 by_cases h3:Math.bitAt v 0=0∨1<lowAt v 1 2
 ·rw[if_pos h3]at h;omega
 rw[if_neg h3]at h
 by_cases h4:(body v).1≠0
 ·rw[if_pos h4]at h;omega
 rw[if_neg h4]at h
 exact⟨h1,by omega,h3,by omega,h⟩

theorem stored_ok (v:ByteArray) (h:storedC v=0):5≤v.size∧lowAt v 8 16+lowAt v 24 16=65535∧lowAt v 8 16≤3000∧lowAt v 8 16+5≤v.size:=by
 unfold storedC at h
 by_cases h1:v.size<5
 ·rw[if_pos h1]at h;omega
 rw[if_neg h1]at h
 by_cases h2:lowAt v 8 16+lowAt v 24 16≠65535
 ·rw[if_pos h2]at h;omega
 rw[if_neg h2]at h
 by_cases h3:3000<lowAt v 8 16
 ·rw[if_pos h3]at h;omega
 rw[if_neg h3]at h
 by_cases h4:v.size<lowAt v 8 16+5
 ·rw[if_pos h4]at h;omega
 omega

theorem unp_bound (u:ByteArray):(unpT u).size≤3000:=by
 by_cases h:unpC u=0
 ·obtain⟨-,-,-,h4,-⟩:=unp_is u h
  rw[Math.unpT_yes h]
  show(body u).2.1.toArray.size≤3000
  rw[List.size_toArray]
  by_cases hk:lowAt u 1 2=1
  ·have e:body u=fixFrom u (8*u.size+1) 3 []:=by unfold body;rw[if_pos hk]
   have ho:fixFrom u (8*u.size+1) 3 []=(0,(body u).2.1,(body u).2.2):=by rw[←e,←h4]
   exact fix_len u _ _ _ _ _ (by simp) ho
  ·have e:body u=(storedC u,(storedT u).data.toList,40+8*lowAt u 8 16):=by unfold body;rw[if_neg hk]
   have hc:storedC u=0:=by rw[e]at h4;exact h4
   obtain⟨s1,s2,s3,s4⟩:=stored_ok u hc
   rw[e]
   show(storedT u).data.toList.length≤3000
   unfold storedT
   rw[if_pos hc,Array.length_toList]
   show(u.extract 5 (5+lowAt u 8 16)).size≤3000
   rw[ByteArray.size_extract]
   omega
 ·rw[Math.unpT_no h]
  exact Nat.zero_le _

theorem fP_bound (s:ByteArray):(fP s).size≤3000:=by
 by_cases h:fC s=0
 ·rw[(f_yes h).2.2.2];exact unp_bound _
 ·rw[(f_no h).2.2.2];exact Nat.zero_le _

end Fr
end Go.Proofs.YtdcpjicgehdmfaaGreatDoor

/- What guessTicket guesses of a ticket's plain text is the ticket: the mathematics. -/
namespace Go.Proofs.YtdcpjicgehdmfaaGreatDoor
namespace Gt
open Go.ChangeShapes Go.WideShapes Go.ChangeAt Go.RowKit
open Tk (Lg Hd okB putT Nums okB_parts)
open Num (decS)
set_option linter.unusedSimpArgs false
set_option linter.unusedVariables false

theorem index_one (c:UInt8):∀(a r:List UInt8),c∉a→Lib.index (a++c::r) [c]=(a.length:Int)
 | [],r,_=>by
   rw[List.nil_append,Lib.index,if_pos (by simp[List.isPrefixOf])]
   rfl
 |x::a,r,h=>by
  rw[List.mem_cons,not_or]at h
  rw[List.cons_append,Lib.index,if_neg (by simp[List.isPrefixOf];exact h.1),index_one c a r h.2]
  rw[if_neg (by simp),List.length_cons]
  omega

theorem cut_at (a r:List UInt8) (h:(10:UInt8)∉a):Lib.cut (a++10::r) [10]=(a,r,true):=by
 unfold Lib.cut
 rw[index_one 10 a r h,if_pos (by omega),Int.toNat_natCast]
 have e:([10]:List UInt8).length=1:=rfl
 rw[e,List.take_left,List.drop_append,List.drop_eq_nil_of_le (by omega)]
 simp

theorem ct_at {s:ByteArray} {a r:List UInt8} (hs:bl s=a++10::r) (h:(10:UInt8)∉a):bl (ctA s)=a∧bl (ctR s)=r:=by
 unfold ctA ctR
 rw[show s.data.toList=a++10::r from hs,cut_at a r h]
 exact⟨rfl,rfl⟩

theorem splitK_words (a:List UInt8) (ds:List (List UInt8)) (ha:(32:UInt8)∉a) (hd:∀d∈ds,(32:UInt8)∉d):Lib.splitK [32] 0 ds.length (a++ds.flatMap fun d=>32::d)=a::ds:=by
 induction ds generalizing a with
 |nil=>simp[Lib.splitK]
 |cons d ds ih=>
  have e:a++(d::ds).flatMap (fun d=>32::d)=a++32::(d++ds.flatMap (fun d=>32::d)):=by simp
  rw[e,List.length_cons,Lib.splitK,index_one 32 a _ ha,if_neg (by simp),Int.toNat_natCast]
  have e1:([32]:List UInt8).length=1:=rfl
  rw[Nat.add_zero,List.take_left,e1,List.drop_append,List.drop_eq_nil_of_le (by omega)]
  have e2:a.length+1-a.length=1:=by omega
  rw[e2,List.nil_append,List.drop_succ_cons,List.drop_zero,ih d (hd d List.mem_cons_self) (fun b hb=>hd b (List.mem_cons_of_mem _ hb))]

theorem flat_length (zs:List Int):zs.length≤(zs.flatMap fun z=>32::bl (decS z)).length:=by
 induction zs with
 |nil=>simp
 |cons z zs ih=>
  rw[List.flatMap_cons,List.length_append,List.length_cons,List.length_cons]
  omega

theorem nAt_line {x wd:ByteArray} {zs:List Int} (hw:(32:UInt8)∉bl wd) (hz:Nums zs) (hx:bl x=lineL (bl wd) zs) (j:Nat) (hj:j<zs.length):(nAt x zs.length j:Int)=zs[j]:=by
 have hsz:zs.length≤x.size:=by
  rw[←bl_length,hx]
  unfold lineL
  rw[List.length_append]
  have:=flat_length zs
  omega
 have h1:(wordsN x zs.length).map bl=bl wd::zs.map (fun z=>bl (decS z)):=by
  have h2:=Lib.splitB_data ⟨#[32]⟩ 0 (min (zs.length+1) (x.size+1)-1) x
  have h3:(wordsN x zs.length).map bl=Lib.splitK [32] 0 (min (zs.length+1) (x.size+1)-1) (bl x):=h2
  rw[h3,show min (zs.length+1) (x.size+1)-1=(zs.map fun z=>bl (decS z)).length from by rw[List.length_map];omega,hx]
  unfold lineL
  have e:(zs.flatMap fun z=>32::bl (decS z))=(zs.map fun z=>bl (decS z)).flatMap fun d=>32::d:=by rw[List.flatMap_map]
  rw[e]
  refine splitK_words (bl wd) _ hw ?_
  intro d hd hm
  obtain⟨z,hz1,rfl⟩:=List.mem_map.1 hd
  rw[dec_bl z (hz z hz1).1]at hm
  exact dec_no _ 32 (by decide) hm
 have hlen:(wordsN x zs.length).length=zs.length+1:=by
  have:=congrArg List.length h1
  simpa using this
 have hw1:(wordsN x zs.length).getD (j+1) ⟨#[]⟩=decS zs[j]:=by
  apply bl_ext
  have h4:((wordsN x zs.length).map bl)[j+1]? =some (bl (decS zs[j])):=by
   rw[h1,List.getElem?_cons_succ,List.getElem?_map,List.getElem?_eq_getElem hj]
   rfl
  rw[List.getElem?_map]at h4
  rw[List.getD_eq_getElem?_getD]
  cases e:(wordsN x zs.length)[j+1]? with
  |none=>rw[e]at h4;cases h4
  |some y=>rw[e]at h4;exact Option.some.inj h4
 have hb:=hz zs[j] (List.getElem_mem hj)
 have hrd:Rd (decS zs[j])∧vl (decS zs[j])=zs[j].toNat:=by
  unfold Rd vl
  rw[show(decS zs[j]).data.toList=Lib.decDigits zs[j].toNat from dec_bl _ hb.1]
  exact⟨dec_read _ (by omega),dec_val' _⟩
 unfold nAt
 rw[if_pos (by omega),hw1,rv_yes hrd.1,hrd.2]
 omega

theorem lgI_line {x:ByteArray} {l:Lg} (hz:Nums (lZ l)) (hx:bl x=lLine l):lgI x=l:=by
 have h:=fun j (hj:j<6)=>nAt_line (wd:=legW) (zs:=lZ l) (by decide) hz hx j hj
 unfold lgI
 have h0:=h 0 (by omega)
 have h1:=h 1 (by omega)
 have h2:=h 2 (by omega)
 have h3:=h 3 (by omega)
 have h4:=h 4 (by omega)
 have h5:=h 5 (by omega)
 rw[show(lZ l).length=6 from rfl]at h0 h1 h2 h3 h4 h5
 rw[h0,h1,h2,h3,h4,h5]
 rfl

theorem gL_lines:∀(ls:List Lg) (n:Nat) (r:ByteArray),ls.length≤n→(∀l∈ls,Nums (lZ l))→bl r=(ls.map lLine).flatMap (fun a=>a++ [10])→gL n r=ls
 | [],n,r,_,_,hr=>gL_end (by rw[←bl_length,hr];rfl)
 |l::ls,n,r,hn,hz,hr=>by
  obtain⟨n',rfl⟩:∃n',n=n'+1:=⟨n-1,by simp at hn;omega⟩
  have hr2:bl r=lLine l++10::(ls.map lLine).flatMap (fun a=>a++ [10]):=by rw[hr];simp
  have hno:(10:UInt8)∉lLine l:=line_no _ _ (by decide) (hz l List.mem_cons_self)
  obtain⟨a1,a2⟩:=ct_at hr2 hno
  have hne:¬r.size=0:=by
   rw[←bl_length,hr2,List.length_append,List.length_cons]
   omega
  rw[gL_step hne,lgI_line (hz l List.mem_cons_self) a1,gL_lines ls n' (ctR r) (by simp at hn;omega) (fun x hx=>hz x (List.mem_cons_of_mem _ hx)) a2]

theorem guess_good {s:ByteArray} {t:Hd} {nm:ByteArray} {ls:List Lg} (h:Good s t nm ls):gHd s=t∧gNm s=nm∧gLs s=ls:=by
 obtain⟨hok,hput⟩:=h
 obtain⟨hn,hs40,hl6,hns⟩:=okB_parts t nm ls hok
 have hnm:=name_no (ok_name hok)
 have hb:bl s=hLine t++10::(nLine nm++10::(ls.map lLine).flatMap (fun a=>a++ [10])):=by
  rw[←hput,put_bl t nm ls ls.length (Nat.le_refl _),List.take_of_length_le (Nat.le_refl _)]
  simp
 obtain⟨a1,a2⟩:=ct_at hb (line_no _ _ (by decide) hn)
 obtain⟨b1,b2⟩:=ct_at a2 hnm
 refine⟨?_,?_,?_⟩
 ·have h:=fun j (hj:j<5)=>nAt_line (wd:=headW) (zs:=hZ t) (by decide) hn a1 j hj
  have h0:=h 0 (by omega)
  have h1:=h 1 (by omega)
  have h2:=h 2 (by omega)
  have h3:=h 3 (by omega)
  have h4:=h 4 (by omega)
  rw[show(hZ t).length=5 from rfl]at h0 h1 h2 h3 h4
  unfold gHd
  rw[h0,h1,h2,h3,h4]
  rfl
 ·apply bl_ext
  unfold gNm
  rw[show(ctA (ctR s)).data.toList=nLine nm from b1]
  unfold Lib.trimPrefix Lib.hasPrefix nLine
  rw[if_pos (by simp[List.isPrefixOf])]
  rfl
 ·exact gL_lines ls 7 _ (by omega) hns b2

end Gt
end Go.Proofs.YtdcpjicgehdmfaaGreatDoor

/- The program's GetTicket. -/
namespace Go.Proofs.YtdcpjicgehdmfaaGreatDoor
namespace Gt
open Go.ChangeShapes Go.WideShapes Go.ChangeAt Go.RowKit
open Pk (own_at own_ge own_below own_form info_of new_below join_below heap_new lt_of kept cell_at heap_old frozen_at)
open Tk (Lg Hd Legs lgV tkV tkB okB putT putS p2V)
set_option linter.unusedSimpArgs false
set_option linter.unusedVariables false

theorem clone_val (s:ByteArray) (w:World) (hs:s.size≤1048576):
 Calls Tryz.prog 104 #[.string s] w fun e w'=>e= .returned (.string s)∧Below w.heap.size w w':=by
 have HC:Hid (∀W,_):=fun W=>Tryz.stringslite_Clone s W (by omega)
 go_enter Tryz.func104,Tryz.ntmps104
 go_wp2_with fail
 refine(HC.out _).mono ?_
 rintro e w1 ⟨rfl,L1⟩
 go_wp2
 go_ret
 exact⟨rfl,L1⟩

theorem gNm_size (s:ByteArray):(gNm s).size≤s.size:=by
 have e:∀l:List UInt8,(⟨l.toArray⟩:ByteArray).size=l.length:=fun l=>by simp[ByteArray.size]
 obtain⟨-,c2,-⟩:=ct_size s
 obtain⟨d1,-,-⟩:=ct_size (ctR s)
 have hl:(ctA (ctR s)).data.toList.length=(ctA (ctR s)).size:=Array.length_toList
 unfold gNm
 rw[e]
 unfold Lib.trimPrefix
 split
 ·rw[List.length_drop]
  omega
 ·omega

theorem gL_length:∀n r,(gL n r).length≤n
 |0,_=>Nat.le_refl _
 |n+1,r=>by
  rw[gL]
  split
  ·simp
  ·have:=gL_length n (ctR r)
   rw[List.length_cons]
   omega

set_option maxRecDepth 100000 in
set_option maxHeartbeats 4000000 in
theorem implGet_val (s:ByteArray) (w:World) (hs:s.size≤1048576) (M:ML w) (Tn:Num.Tens w):
 Calls Tryz.prog 118 #[.string s] w fun e w'=>GetEnd s w.heap.size e w'∧Below w.heap.size w w':=by
 have N0:=new_below w (.cells #[.int .i64 0,.string ⟨#[]⟩,.int .i64 0,.int .i64 0,.int .i64 0,.int .i64 0,.slice none 0 0] 72)
 have m0:=heap_new w (.cells #[.int .i64 0,.string ⟨#[]⟩,.int .i64 0,.int .i64 0,.int .i64 0,.int .i64 0,.slice none 0 0] 72)
 have HGV:Hid (∀W,ML W→_):=fun W h=>guess_val s W hs h
 have HUN:Hid (∀t nm ls,Good s t nm ls→gHd s=t∧gNm s=nm∧gLs s=ls):=fun t nm ls h=>guess_good h
 have hnz:(gNm s).size≤1048576:=Nat.le_trans (gNm_size s) hs
 have hl7:(gLs s).length≤7:=gL_length 7 _
 have HPV:Hid (∀W (a:Option Addr) (lc:Nat),Legs W a (gLs s)→Num.Tens W→_):=fun W a lc h1 h2=>Tk.implPut_val (gHd s) (gNm s) a (gLs s) lc W (by unfold maxLen;omega) (by omega) h1 h2
 have HCL:Hid (∀W,_):=fun W=>clone_val (gNm s) W hnz
 generalize gHd s=t at*
 generalize gNm s=nm at*
 generalize gLs s=ls at*
 go_enter Tryz.func118,Tryz.ntmps118
 go_wp2_with fail
 generalize w.alloc (.cells #[.int .i64 0,.string ⟨#[]⟩,.int .i64 0,.int .i64 0,.int .i64 0,.int .i64 0,.slice none 0 0] 72)=w0 at*
 refine(HGV.out _ (M.on N0)).mono ?_
 rintro e w1 ⟨⟨a,lc,rfl,O1⟩,L1⟩
 have m1:=kept L1 (lt_of m0) m0
 have K1:=join_below N0 L1
 have NT:=new_below w1 (.cells #[.int .i64 t.id,.string nm,.int .i64 t.cl,.int .i64 t.pr,.int .i64 t.fi,.int .i64 t.la,.slice a ls.length lc] 72)
 have mT:=heap_new w1 (.cells #[.int .i64 t.id,.string nm,.int .i64 t.cl,.int .i64 t.pr,.int .i64 t.fi,.int .i64 t.la,.slice a ls.length lc] 72)
 have m2:=kept NT (lt_of m1) m1
 have K2:=join_below K1 NT
 have O2:=own_below O1 NT (Nat.le_refl _)
 have O3:=own_base O2 (show w.heap.size≤w0.heap.size from N0.size)
 have hTR:w1.heap.size≠w.heap.size:=by have:=lt_of m1;omega
 have hTge:w.heap.size≤w1.heap.size:=by have:=lt_of m1;omega
 obtain⟨a2,lc2,e2,I2⟩:=own_legs O3
 simp only[Value.slice.injEq,true_and]at e2
 obtain⟨rfl,rfl⟩:=e2
 clear N0 m0 L1 m1 K1 NT O1 O2 HGV
 unfold Tk.tkV at HPV
 have t0:(w1.alloc (.cells #[.int .i64 t.id,.string nm,.int .i64 t.cl,.int .i64 t.pr,.int .i64 t.fi,.int .i64 t.la,.slice a ls.length lc] 72)).cell? ⟨w1.heap.size,0,none⟩=some (.int .i64 t.id):=cell_at mT 0
 have t1:(w1.alloc (.cells #[.int .i64 t.id,.string nm,.int .i64 t.cl,.int .i64 t.pr,.int .i64 t.fi,.int .i64 t.la,.slice a ls.length lc] 72)).cell? ⟨w1.heap.size,1,none⟩=some (.string nm):=cell_at mT 1
 have t2:(w1.alloc (.cells #[.int .i64 t.id,.string nm,.int .i64 t.cl,.int .i64 t.pr,.int .i64 t.fi,.int .i64 t.la,.slice a ls.length lc] 72)).cell? ⟨w1.heap.size,2,none⟩=some (.int .i64 t.cl):=cell_at mT 2
 have t3:(w1.alloc (.cells #[.int .i64 t.id,.string nm,.int .i64 t.cl,.int .i64 t.pr,.int .i64 t.fi,.int .i64 t.la,.slice a ls.length lc] 72)).cell? ⟨w1.heap.size,3,none⟩=some (.int .i64 t.pr):=cell_at mT 3
 have t4:(w1.alloc (.cells #[.int .i64 t.id,.string nm,.int .i64 t.cl,.int .i64 t.pr,.int .i64 t.fi,.int .i64 t.la,.slice a ls.length lc] 72)).cell? ⟨w1.heap.size,4,none⟩=some (.int .i64 t.fi):=cell_at mT 4
 have t5:(w1.alloc (.cells #[.int .i64 t.id,.string nm,.int .i64 t.cl,.int .i64 t.pr,.int .i64 t.fi,.int .i64 t.la,.slice a ls.length lc] 72)).cell? ⟨w1.heap.size,5,none⟩=some (.int .i64 t.la):=cell_at mT 5
 have t6:(w1.alloc (.cells #[.int .i64 t.id,.string nm,.int .i64 t.cl,.int .i64 t.pr,.int .i64 t.fi,.int .i64 t.la,.slice a ls.length lc] 72)).cell? ⟨w1.heap.size,6,none⟩=some (.slice a ls.length lc):=cell_at mT 6
 go_wp2_with fail
 generalize w1.alloc (.cells #[.int .i64 t.id,.string nm,.int .i64 t.cl,.int .i64 t.pr,.int .i64 t.fi,.int .i64 t.la,.slice a ls.length lc] 72)=w2 at*
 generalize w1.heap.size=T at*
 have HPU:Hid (∀_:Unit,_):=fun _=>HPV.out w2 a lc I2 (Tn.on K2)
 by_cases hok:okB t nm ls=true
 ·by_cases hpt:putT t nm ls ls.length=s
  ·rw[Tk.putS_yes t nm ls hok,hpt,hok]at HPU
   have hg:Good s t nm ls:=⟨hok,hpt⟩
   have HG:Hid (Good s t nm ls):=hg
   refine(HPU.out ()).mono ?_
   rintro e w3 ⟨rfl,L3⟩
   have m3:=kept L3 (lt_of m2) m2
   have mT3:=kept L3 (lt_of mT) mT
   have O4:=own_below O3 L3 (Nat.le_refl _)
   have K3:=join_below K2 L3
   clear HPU HPV m2 mT O3 I2 K2 L3 hg hok hpt t0 t1 t2 t3 t4 t5 t6
   have n1:w3.cell? ⟨T,1,none⟩=some (.string nm):=cell_at mT3 1
   go_wp2_with fail
   refine(HCL.out _).mono ?_
   rintro e w4 ⟨rfl,L4⟩
   have m4:=kept L4 (lt_of m3) m3
   have mT4:=kept L4 (lt_of mT3) mT3
   have O5:=own_below O4 L4 (Nat.le_refl _)
   have K4:=join_below K3 L4
   have mT5:=Tk.h_set (i:=1) mT4 (.string nm)
   have m5:=Tk.h_other (i:=1) m4 (Ne.symm hTR) (.string nm)
   have f1:w4.frozen? ⟨T,1,none⟩=false:=frozen_at mT4 1
   have n2:w4.cell? ⟨T,1,none⟩=some (.string nm):=cell_at mT4 1
   have aT:(Value.slice a ls.length lc).ownBlock≠some T:=Pk.own_ne' O5 mT4 (by decide)
   have aR:(Value.slice a ls.length lc).ownBlock≠some w.heap.size:=Pk.own_ne' O5 m4 (by decide)
   have O6:(w4.setCell ⟨T,1,none⟩ (.string nm)).ownsRow w.heap.size 126 6 (.slice a ls.length lc) ls.length (lcells ls):=own_offv O5 aT _
   have K5:=K4.setCell (p:=⟨T,1,none⟩) (by show w.heap.size≤T;exact hTge) (.string nm)
   clear m3 mT3 O4 K3 L4 HCL n1
   have b0:(w4.setCell ⟨T,1,none⟩ (.string nm)).cell? ⟨T,0,none⟩=some (.int .i64 t.id):=cell_at mT5 0
   have b1:(w4.setCell ⟨T,1,none⟩ (.string nm)).cell? ⟨T,1,none⟩=some (.string nm):=cell_at mT5 1
   have b2:(w4.setCell ⟨T,1,none⟩ (.string nm)).cell? ⟨T,2,none⟩=some (.int .i64 t.cl):=cell_at mT5 2
   have b3:(w4.setCell ⟨T,1,none⟩ (.string nm)).cell? ⟨T,3,none⟩=some (.int .i64 t.pr):=cell_at mT5 3
   have b4:(w4.setCell ⟨T,1,none⟩ (.string nm)).cell? ⟨T,4,none⟩=some (.int .i64 t.fi):=cell_at mT5 4
   have b5:(w4.setCell ⟨T,1,none⟩ (.string nm)).cell? ⟨T,5,none⟩=some (.int .i64 t.la):=cell_at mT5 5
   have b6:(w4.setCell ⟨T,1,none⟩ (.string nm)).cell? ⟨T,6,none⟩=some (.slice a ls.length lc):=cell_at mT5 6
   have a0:(w4.setCell ⟨T,1,none⟩ (.string nm)).cell? ⟨w.heap.size,0,none⟩=some (.int .i64 0):=cell_at m5 0
   have a1:(w4.setCell ⟨T,1,none⟩ (.string nm)).cell? ⟨w.heap.size,1,none⟩=some (.string ⟨#[]⟩):=cell_at m5 1
   have a2:(w4.setCell ⟨T,1,none⟩ (.string nm)).cell? ⟨w.heap.size,2,none⟩=some (.int .i64 0):=cell_at m5 2
   have a3:(w4.setCell ⟨T,1,none⟩ (.string nm)).cell? ⟨w.heap.size,3,none⟩=some (.int .i64 0):=cell_at m5 3
   have a4:(w4.setCell ⟨T,1,none⟩ (.string nm)).cell? ⟨w.heap.size,4,none⟩=some (.int .i64 0):=cell_at m5 4
   have a5:(w4.setCell ⟨T,1,none⟩ (.string nm)).cell? ⟨w.heap.size,5,none⟩=some (.int .i64 0):=cell_at m5 5
   have a6:(w4.setCell ⟨T,1,none⟩ (.string nm)).cell? ⟨w.heap.size,6,none⟩=some (.slice none 0 0):=cell_at m5 6
   have r0:(w4.setCell ⟨T,1,none⟩ (.string nm)).frozen? ⟨w.heap.size,0,none⟩=false:=frozen_at m5 0
   have r1:(w4.setCell ⟨T,1,none⟩ (.string nm)).frozen? ⟨w.heap.size,1,none⟩=false:=frozen_at m5 1
   have r2:(w4.setCell ⟨T,1,none⟩ (.string nm)).frozen? ⟨w.heap.size,2,none⟩=false:=frozen_at m5 2
   have r3:(w4.setCell ⟨T,1,none⟩ (.string nm)).frozen? ⟨w.heap.size,3,none⟩=false:=frozen_at m5 3
   have r4:(w4.setCell ⟨T,1,none⟩ (.string nm)).frozen? ⟨w.heap.size,4,none⟩=false:=frozen_at m5 4
   have r5:(w4.setCell ⟨T,1,none⟩ (.string nm)).frozen? ⟨w.heap.size,5,none⟩=false:=frozen_at m5 5
   have r6:(w4.setCell ⟨T,1,none⟩ (.string nm)).frozen? ⟨w.heap.size,6,none⟩=false:=frozen_at m5 6
   go_wp2
   refine bodyPost_ret (v:= .tuple #[tkV t nm a ls.length lc,.bool true]) (by simp[results,Tryz.results118,go_sem,a0,a1,a2,a3,a4,a5,a6]) rfl ?_
   refine⟨Or.inl ⟨t,nm,ls,a,lc,HG.out,rfl,?_⟩,?_⟩
   ·exact own_offv (own_offv (own_offv (own_offv (own_offv (own_offv (own_offv O6 aR _) aR _) aR _) aR _) aR _) aR _) aR _
   ·(repeat' (first|apply Below.setCell|exact K4))<;>first|(simp;done)|(simp;omega)
  ·rw[Tk.putS_yes t nm ls hok,hok]at HPU
   have HNG:Hid (∀t2 nm2 ls2,¬Good s t2 nm2 ls2):=fun t2 nm2 ls2 h=>by obtain⟨rfl,rfl,rfl⟩:=HUN.out t2 nm2 ls2 h;exact hpt h.2
   generalize putT t nm ls ls.length=pt at*
   have z1:¬pt.toList=s.toList:=fun e=>hpt (Go.WideShapes.bytes_inj (by rw[←ByteArray.toList_eq,←ByteArray.toList_eq];exact e))
   have z2:(pt.toList==s.toList)=false:=beq_eq_false_iff_ne.2 z1
   refine(HPU.out ()).mono ?_
   rintro e w3 ⟨rfl,L3⟩
   have m3:=kept L3 (lt_of m2) m2
   have K3:=join_below K2 L3
   have a0:w3.cell? ⟨w.heap.size,0,none⟩=some (.int .i64 0):=cell_at m3 0
   have a1:w3.cell? ⟨w.heap.size,1,none⟩=some (.string ⟨#[]⟩):=cell_at m3 1
   have a2:w3.cell? ⟨w.heap.size,2,none⟩=some (.int .i64 0):=cell_at m3 2
   have a3:w3.cell? ⟨w.heap.size,3,none⟩=some (.int .i64 0):=cell_at m3 3
   have a4:w3.cell? ⟨w.heap.size,4,none⟩=some (.int .i64 0):=cell_at m3 4
   have a5:w3.cell? ⟨w.heap.size,5,none⟩=some (.int .i64 0):=cell_at m3 5
   have a6:w3.cell? ⟨w.heap.size,6,none⟩=some (.slice none 0 0):=cell_at m3 6
   have r0:w3.frozen? ⟨w.heap.size,0,none⟩=false:=frozen_at m3 0
   have r1:w3.frozen? ⟨w.heap.size,1,none⟩=false:=frozen_at m3 1
   have r2:w3.frozen? ⟨w.heap.size,2,none⟩=false:=frozen_at m3 2
   have r3:w3.frozen? ⟨w.heap.size,3,none⟩=false:=frozen_at m3 3
   have r4:w3.frozen? ⟨w.heap.size,4,none⟩=false:=frozen_at m3 4
   have r5:w3.frozen? ⟨w.heap.size,5,none⟩=false:=frozen_at m3 5
   have r6:w3.frozen? ⟨w.heap.size,6,none⟩=false:=frozen_at m3 6
   go_wp2
   refine bodyPost_ret (v:= .tuple #[tkV ⟨0,0,0,0,0⟩ ⟨#[]⟩ none 0 0,.bool false]) (by simp[results,Tryz.results118,go_sem,a0,a1,a2,a3,a4,a5,a6]) rfl ?_
   refine⟨Or.inr ⟨HNG.out,rfl⟩,?_⟩
   (repeat' (first|apply Below.setCell|exact K3))<;>first|(simp;done)|(simp;omega)
 ·have hok8:okB t nm ls=false:=Bool.eq_false_iff.2 hok
  rw[Tk.putS_no t nm ls hok8,hok8]at HPU
  have HNG:Hid (∀t2 nm2 ls2,¬Good s t2 nm2 ls2):=fun t2 nm2 ls2 h=>by obtain⟨rfl,rfl,rfl⟩:=HUN.out t2 nm2 ls2 h;exact hok h.1
  refine(HPU.out ()).mono ?_
  rintro e w3 ⟨rfl,L3⟩
  have m3:=kept L3 (lt_of m2) m2
  have K3:=join_below K2 L3
  have a0:w3.cell? ⟨w.heap.size,0,none⟩=some (.int .i64 0):=cell_at m3 0
  have a1:w3.cell? ⟨w.heap.size,1,none⟩=some (.string ⟨#[]⟩):=cell_at m3 1
  have a2:w3.cell? ⟨w.heap.size,2,none⟩=some (.int .i64 0):=cell_at m3 2
  have a3:w3.cell? ⟨w.heap.size,3,none⟩=some (.int .i64 0):=cell_at m3 3
  have a4:w3.cell? ⟨w.heap.size,4,none⟩=some (.int .i64 0):=cell_at m3 4
  have a5:w3.cell? ⟨w.heap.size,5,none⟩=some (.int .i64 0):=cell_at m3 5
  have a6:w3.cell? ⟨w.heap.size,6,none⟩=some (.slice none 0 0):=cell_at m3 6
  have r0:w3.frozen? ⟨w.heap.size,0,none⟩=false:=frozen_at m3 0
  have r1:w3.frozen? ⟨w.heap.size,1,none⟩=false:=frozen_at m3 1
  have r2:w3.frozen? ⟨w.heap.size,2,none⟩=false:=frozen_at m3 2
  have r3:w3.frozen? ⟨w.heap.size,3,none⟩=false:=frozen_at m3 3
  have r4:w3.frozen? ⟨w.heap.size,4,none⟩=false:=frozen_at m3 4
  have r5:w3.frozen? ⟨w.heap.size,5,none⟩=false:=frozen_at m3 5
  have r6:w3.frozen? ⟨w.heap.size,6,none⟩=false:=frozen_at m3 6
  go_wp2
  refine bodyPost_ret (v:= .tuple #[tkV ⟨0,0,0,0,0⟩ ⟨#[]⟩ none 0 0,.bool false]) (by simp[results,Tryz.results118,go_sem,a0,a1,a2,a3,a4,a5,a6]) rfl ?_
  refine⟨Or.inr ⟨HNG.out,rfl⟩,?_⟩
  (repeat' (first|apply Below.setCell|exact K3))<;>first|(simp;done)|(simp;omega)

end Gt
end Go.Proofs.YtdcpjicgehdmfaaGreatDoor

/- Contracts of the laws' own helpers over legs that a function has been given or has made: marked, held against the marks. -/
namespace Go.Proofs.YtdcpjicgehdmfaaGreatDoor
namespace Tk
open Go.ChangeShapes Go.WideShapes Go.ChangeAt Go.RowKit
open Pk (new_below join_below cell_at heap_new frozen_at lt_of kept heap_old Drawn info_of Room)
set_option linter.unusedSimpArgs false
set_option linter.unusedVariables false

structure Band (lo hi:Nat) (w w':World):Prop where
 os:w'.os=w.os
 tape:w'.tape=w.tape
 output:w'.output=w.output
 size:w'.heap.size=w.heap.size
 block:∀b,b<lo∨hi≤b→w'.heap[b]? =w.heap[b]?

theorem Band.refl (lo hi:Nat) (w:World):Band lo hi w w:=⟨rfl,rfl,rfl,rfl,fun _ _=>rfl⟩

theorem Band.trans {lo hi:Nat} {a b c:World} (h:Band lo hi a b) (k:Band lo hi b c):Band lo hi a c:=
 ⟨k.os.trans h.os,k.tape.trans h.tape,k.output.trans h.output,k.size.trans h.size,fun i hi=>(k.block i hi).trans (h.block i hi)⟩

theorem Band.set {lo hi:Nat} {a w:World} (h:Band lo hi a w) {g i:Nat} (h1:lo≤g) (h2:g<hi) (u:Value):Band lo hi a (w.setCell ⟨g,i,none⟩ u):=by
 have L:=(Below.refl 0 w).setCell (p:=⟨g,i,none⟩) (Nat.zero_le _) u
 refine⟨L.os.trans h.os,L.tape.trans h.tape,L.output.trans h.output,by rw[World.size_setCell];exact h.size,fun b hb=> ?_⟩
 rw[Below.heap_setCell w ⟨g,i,none⟩ u b (by show b≠g;omega)]
 exact h.block b hb

theorem Band.below {lo hi:Nat} {w w':World} (h:Band lo hi w w'):Below lo w w':=⟨h.os,h.tape,h.output,Nat.le_of_eq h.size.symm,fun k hk=>h.block k (Or.inl hk)⟩

theorem Legs.band {lo hi:Nat} {w w1:World} {a:Option Addr} {ps:List Lg} (h:Legs w a ps) (L:Band lo hi w w1) (ha:∀b o,a=some ⟨b,o,none⟩→ps≠ []→b<lo∨hi≤b):Legs w1 a ps:=by
 rcases h with h|⟨b,o,rfl,hlt,hc⟩
 ·exact Or.inl h
 ·by_cases hz:ps= []
  ·exact Or.inl hz
  ·have hb:=L.block b (ha b o rfl hz)
   exact Or.inr ⟨b,o,rfl,by rw[L.size];exact hlt,fun i hi=>by rw[World.cell?_of_block (a:=⟨b,o+i*6,none⟩) hb,World.cell?_of_block (a:=⟨b,o+i*6+1,none⟩) hb,World.cell?_of_block (a:=⟨b,o+i*6+2,none⟩) hb,World.cell?_of_block (a:=⟨b,o+i*6+3,none⟩) hb,World.cell?_of_block (a:=⟨b,o+i*6+4,none⟩) hb,World.cell?_of_block (a:=⟨b,o+i*6+5,none⟩) hb];exact hc i hi⟩

theorem Room.band {lo hi:Nat} {w w1:World} {g m:Nat} (h:Room w g m) (L:Band lo hi w w1) (hg:g<lo∨hi≤g):Room w1 g m:=by
 intro j hj
 rw[World.cell?_of_block (a:=⟨g,j,none⟩) (L.block g hg),World.frozen?_of_block (a:=⟨g,j,none⟩) (L.block g hg)]
 exact h j hj

def Marked (w:World) (g n:Nat):Prop:=∀i,i<n→w.cell? ⟨g,i*6,none⟩=some (.int .i64 (1+6*(i:Int)))∧w.cell? ⟨g,i*6+1,none⟩=some (.int .i64 (1+6*(i:Int)+1))∧w.cell? ⟨g,i*6+2,none⟩=some (.int .i64 (1+6*(i:Int)+2))∧w.cell? ⟨g,i*6+3,none⟩=some (.int .i64 (1+6*(i:Int)+3))∧w.cell? ⟨g,i*6+4,none⟩=some (.int .i64 (1+6*(i:Int)+4))∧w.cell? ⟨g,i*6+5,none⟩=some (.int .i64 (1+6*(i:Int)+5))

theorem Marked.on {w w1:World} {g n B:Nat} (h:Marked w g n) (L:Below B w w1) (hg:g<B):Marked w1 g n:=by
 intro i hi
 rw[L.cell (p:=⟨g,i*6,none⟩) hg,L.cell (p:=⟨g,i*6+1,none⟩) hg,L.cell (p:=⟨g,i*6+2,none⟩) hg,L.cell (p:=⟨g,i*6+3,none⟩) hg,L.cell (p:=⟨g,i*6+4,none⟩) hg,L.cell (p:=⟨g,i*6+5,none⟩) hg]
 exact h i hi

theorem Marked.step {w:World} {g n k:Nat} (h:Marked w g k) (R:Room w g (n*6)) (hk:k<n):Marked ((((((w.setCell ⟨g,k*6,none⟩ (.int .i64 (1+6*(k:Int)))).setCell ⟨g,k*6+1,none⟩ (.int .i64 (1+6*(k:Int)+1))).setCell ⟨g,k*6+2,none⟩ (.int .i64 (1+6*(k:Int)+2))).setCell ⟨g,k*6+3,none⟩ (.int .i64 (1+6*(k:Int)+3))).setCell ⟨g,k*6+4,none⟩ (.int .i64 (1+6*(k:Int)+4))).setCell ⟨g,k*6+5,none⟩ (.int .i64 (1+6*(k:Int)+5))) g (k+1):=by
 intro i hi
 by_cases e:i=k
 ·subst e
  obtain⟨⟨v0,e0⟩,-⟩:=R (i*6) (by omega)
  obtain⟨⟨v1,e1⟩,-⟩:=R (i*6+1) (by omega)
  obtain⟨⟨v2,e2⟩,-⟩:=R (i*6+2) (by omega)
  obtain⟨⟨v3,e3⟩,-⟩:=R (i*6+3) (by omega)
  obtain⟨⟨v4,e4⟩,-⟩:=R (i*6+4) (by omega)
  obtain⟨⟨v5,e5⟩,-⟩:=R (i*6+5) (by omega)
  rw[set_cell (set_cell (set_cell (set_cell (set_cell (set_cell e0))))),set_cell (set_cell (set_cell (set_cell (set_cell (set_cell e1))))),set_cell (set_cell (set_cell (set_cell (set_cell (set_cell e2))))),set_cell (set_cell (set_cell (set_cell (set_cell (set_cell e3))))),set_cell (set_cell (set_cell (set_cell (set_cell (set_cell e4))))),set_cell (set_cell (set_cell (set_cell (set_cell (set_cell e5)))))]
  simp
 ·obtain⟨e0,e1,e2,e3,e4,e5⟩:=h i (by omega)
  rw[set_cell (set_cell (set_cell (set_cell (set_cell (set_cell e0))))),set_cell (set_cell (set_cell (set_cell (set_cell (set_cell e1))))),set_cell (set_cell (set_cell (set_cell (set_cell (set_cell e2))))),set_cell (set_cell (set_cell (set_cell (set_cell (set_cell e3))))),set_cell (set_cell (set_cell (set_cell (set_cell (set_cell e4))))),set_cell (set_cell (set_cell (set_cell (set_cell (set_cell e5)))))]
  rw[if_neg (by omega),if_neg (by omega),if_neg (by omega),if_neg (by omega),if_neg (by omega),if_neg (by omega),if_neg (by omega),if_neg (by omega),if_neg (by omega),if_neg (by omega),if_neg (by omega),if_neg (by omega),if_neg (by omega),if_neg (by omega),if_neg (by omega),if_neg (by omega),if_neg (by omega),if_neg (by omega),if_neg (by omega),if_neg (by omega),if_neg (by omega),if_neg (by omega),if_neg (by omega),if_neg (by omega),if_neg (by omega),if_neg (by omega),if_neg (by omega),if_neg (by omega),if_neg (by omega),if_neg (by omega),if_neg (by omega),if_neg (by omega),if_neg (by omega),if_neg (by omega),if_neg (by omega),if_neg (by omega)]
  exact⟨rfl,rfl,rfl,rfl,rfl,rfl⟩

end Tk
end Go.Proofs.YtdcpjicgehdmfaaGreatDoor

/- A ticket that a function has made, marked and held against the marks. -/
namespace Go.Proofs.YtdcpjicgehdmfaaGreatDoor
namespace Gt
open Go.ChangeShapes Go.WideShapes Go.ChangeAt Go.RowKit
open Pk (own_at own_ge own_below own_form new_below join_below heap_new lt_of kept cell_at heap_old frozen_at Room)
open Tk (Lg Hd Legs tkV tkB Marked Band)
set_option linter.unusedSimpArgs false
set_option linter.unusedVariables false

structure But (g:Nat) (w w':World):Prop where
 os:w'.os=w.os
 tape:w'.tape=w.tape
 output:w'.output=w.output
 size:w.heap.size≤w'.heap.size
 block:∀b,b<w.heap.size→b≠g→w'.heap[b]? =w.heap[b]?

theorem But.below {g B:Nat} {a w w':World} (h:But g w w') (L:Below B a w) (hB:B≤w.heap.size) (hg:B≤g):Below B a w':=
 ⟨h.os.trans L.os,h.tape.trans L.tape,h.output.trans L.output,Nat.le_trans L.size h.size,fun k hk=>(h.block k (Nat.lt_of_lt_of_le hk hB) (by omega)).trans (L.block k hk)⟩

theorem But.keep {g b:Nat} {w w':World} {x:Obj} (h:But g w w') (m:w.heap[b]? =some x) (hne:b≠g):w'.heap[b]? =some x:=(h.block b (lt_of m) hne).trans m

theorem But.own {g:Nat} {w w':World} {base e z n:Nat} {v:Value} {xs:List Value} (h:But g w w') (O:w.ownsRow base e z v n xs) (hne:v.ownBlock≠some g):w'.ownsRow base e z v n xs:=by
 obtain⟨hl,h2⟩:=O
 refine⟨hl,?_⟩
 rcases h2 with h2|⟨g',cap',cur,hv,hg,hh,h1,h3,h4,h5⟩
 ·exact Or.inl h2
 ·subst hv
  have hne2:g'≠g:=fun e=>hne (by rw[e];rfl)
  exact Or.inr ⟨g',cap',cur,rfl,hg,h.keep hh hne2,h1,h3,h4,h5⟩

end Gt
end Go.Proofs.YtdcpjicgehdmfaaGreatDoor

/- What GetTicket answers, of the program and of its model, is one thing. -/
namespace Go.Proofs.YtdcpjicgehdmfaaGreatDoor
namespace Gt
open Go.ChangeShapes Go.WideShapes Go.ChangeAt Go.RowKit
open Pk (own_at own_ge own_below own_form new_below join_below heap_new lt_of kept cell_at heap_old frozen_at Room)
open Tk (Lg Hd Legs tkV tkB Marked okB_parts)
set_option linter.unusedSimpArgs false
set_option linter.unusedVariables false

def GetIs (t:Hd) (nm:ByteArray) (ls:List Lg) (ok:Bool) (base:Nat) (e:Ending) (w:World):Prop:=
 ∃a cap,e= .returned (.tuple #[tkV t nm a ls.length cap,.bool ok])∧w.ownsRow base 126 6 (.slice a ls.length cap) ls.length (lcells ls)

theorem get_one (s:ByteArray):∃t nm ls ok,ls.length≤6∧∀base e w,GetEnd s base e w→GetIs t nm ls ok base e w:=by
 by_cases h:∃t nm ls,Good s t nm ls
 ·obtain⟨t,nm,ls,hg⟩:=h
  refine⟨t,nm,ls,true,(okB_parts t nm ls hg.1).2.2.1.2,?_⟩
  rintro base e w (⟨t',nm',ls',a,cap,hg',rfl,O⟩|⟨hn,-⟩)
  ·obtain⟨rfl,rfl,rfl⟩:=good_one hg hg'
   exact⟨a,cap,rfl,O⟩
  ·exact absurd hg (hn t nm ls)
 ·refine⟨⟨0,0,0,0,0⟩,⟨#[]⟩,[],false,by simp,?_⟩
  rintro base e w (⟨t',nm',ls',a,cap,hg',rfl,O⟩|⟨-,rfl⟩)
  ·exact absurd ⟨t',nm',ls',hg'⟩ h
  ·exact⟨none,0,rfl,⟨rfl,Or.inl ⟨rfl,rfl⟩⟩⟩

theorem specGet_is {s:ByteArray} {t:Hd} {nm:ByteArray} {ls:List Lg} {ok:Bool} (hs:s.size≤1048576) (H:∀base e w,GetEnd s base e w→GetIs t nm ls ok base e w) (w:World):
 Calls Tryz.prog 62 #[.string s] w fun e w'=>GetIs t nm ls ok w.heap.size e w'∧Below w.heap.size w w':=
 (specGet_val s w hs (fun _ _ _ h=>shape h)).mono fun e w' h=>⟨H _ _ _ h.1,h.2⟩

theorem implGet_is {s:ByteArray} {t:Hd} {nm:ByteArray} {ls:List Lg} {ok:Bool} (hs:s.size≤1048576) (H:∀base e w,GetEnd s base e w→GetIs t nm ls ok base e w) (w:World) (M:ML w) (Tn:Num.Tens w):
 Calls Tryz.prog 118 #[.string s] w fun e w'=>GetIs t nm ls ok w.heap.size e w'∧Below w.heap.size w w':=
 (implGet_val s w hs M Tn).mono fun e w' h=>⟨H _ _ _ h.1,h.2⟩

theorem ml_of {w:World} (h:w.ShapedOpen Tryz.prog):ML w:=
 cell_of_shapedOpen_int (zero:= #[.int .i64 0]) (t:=3) h (of_decide_eq_true (by kernel_rfl)) (by kernel_rfl) rfl (by kernel_rfl) (by kernel_rfl) Tryz.underlying3

end Gt
end Go.Proofs.YtdcpjicgehdmfaaGreatDoor

/- What Read answers. -/
namespace Go.Proofs.YtdcpjicgehdmfaaGreatDoor
namespace Re
open Go.ChangeShapes Go.WideShapes Go.ChangeAt Go.RowKit
open Pk (own_at own_ge own_below own_form new_below join_below heap_new lt_of kept cell_at heap_old frozen_at Room)
open Tk (Lg Hd Legs tkV tkB)
open Gt (GetEnd GetIs ML lcells)
open Fr (fN fR fS fP fC)
open Num (verV pv mv)
set_option linter.unusedSimpArgs false
set_option linter.unusedVariables false

def rC (p q g o i:Int) (s:ByteArray) (ok:Bool):Nat:=if fC s≠0∨fN s≠i then 1 else if verV p q g o (fR s) (fS s) (fP s)=false then 2 else if ok=false then 3 else 0

def rT (c:Nat) (t:Hd):Hd:=if c=0 then t else⟨0,0,0,0,0⟩
def rN (c:Nat) (nm:ByteArray):ByteArray:=if c=0 then nm else⟨#[]⟩
def rL (c:Nat) (ls:List Lg):List Lg:=if c=0 then ls else[]

def ReadIs (t:Hd) (nm:ByteArray) (ls:List Lg) (c:Nat) (base:Nat) (e:Ending) (w:World):Prop:=
 ∃a cap,e= .returned (.tuple #[tkV t nm a ls.length cap,.int .i64 (c:Nat)])∧w.ownsRow base 126 6 (.slice a ls.length cap) ls.length (lcells ls)

theorem r_cases (p q g o i:Int) (s:ByteArray) (ok:Bool):(fC s≠0∧rC p q g o i s ok=1)∨(fC s=0∧fN s≠i∧rC p q g o i s ok=1)∨(fC s=0∧fN s=i∧verV p q g o (fR s) (fS s) (fP s)=false∧rC p q g o i s ok=2)∨(fC s=0∧fN s=i∧verV p q g o (fR s) (fS s) (fP s)=true∧ok=false∧rC p q g o i s ok=3)∨(fC s=0∧fN s=i∧verV p q g o (fR s) (fS s) (fP s)=true∧ok=true∧rC p q g o i s ok=0):=by
 by_cases h1:fC s=0
 ·by_cases h2:fN s=i
  ·cases h3:verV p q g o (fR s) (fS s) (fP s)
   ·exact Or.inr (Or.inr (Or.inl ⟨h1,h2,rfl,by unfold rC;rw[if_neg (by simp[h1,h2]),if_pos h3]⟩))
   ·cases ok
    ·exact Or.inr (Or.inr (Or.inr (Or.inl ⟨h1,h2,rfl,rfl,by unfold rC;rw[if_neg (by simp[h1,h2]),if_neg (by rw[h3];simp),if_pos rfl]⟩)))
    ·exact Or.inr (Or.inr (Or.inr (Or.inr ⟨h1,h2,rfl,rfl,by unfold rC;rw[if_neg (by simp[h1,h2]),if_neg (by rw[h3];simp),if_neg (by simp)]⟩)))
  ·exact Or.inr (Or.inl ⟨h1,h2,by unfold rC;rw[if_pos (Or.inr h2)]⟩)
 ·exact Or.inl ⟨h1,by unfold rC;rw[if_pos (Or.inl h1)]⟩

theorem zero_own (w:World) (base:Nat):w.ownsRow base 126 6 (.slice none ([]:List Lg).length 0) ([]:List Lg).length (lcells []):=⟨rfl,Or.inl ⟨rfl,rfl⟩⟩

theorem read_no {t:Hd} {nm:ByteArray} {ls:List Lg} {c:Nat} {base:Nat} {e:Ending} {w:World} (hc:c≠0) (he:e= .returned (.tuple #[tkV ⟨0,0,0,0,0⟩ ⟨#[]⟩ none 0 0,.int .i64 (c:Nat)])):ReadIs (rT c t) (rN c nm) (rL c ls) c base e w:=by
 unfold rT rN rL
 rw[if_neg hc,if_neg hc,if_neg hc]
 exact⟨none,0,he,zero_own w base⟩

theorem read_yes {t:Hd} {nm:ByteArray} {ls:List Lg} {base:Nat} {e:Ending} {w:World} {a:Option Addr} {cap:Nat} (he:e= .returned (.tuple #[tkV t nm a ls.length cap,.int .i64 (0:Nat)])) (O:w.ownsRow base 126 6 (.slice a ls.length cap) ls.length (lcells ls)):ReadIs (rT 0 t) (rN 0 nm) (rL 0 ls) 0 base e w:=⟨a,cap,he,O⟩

theorem rL_len {c:Nat} {ls:List Lg} (h:ls.length≤6):(rL c ls).length≤6:=by
 unfold rL
 split
 ·exact h
 ·simp

end Re
end Go.Proofs.YtdcpjicgehdmfaaGreatDoor

/- Contracts of four digits, of the program and of its model. -/
namespace Go.Proofs.YtdcpjicgehdmfaaGreatDoor
namespace Fr
open Go.ChangeShapes Go.WideShapes Go.ChangeAt Go.RowKit
set_option linter.unusedSimpArgs false
set_option linter.unusedVariables false

theorem pow_10 (k n:Nat) (hk:k≤4) (h:n<10^k):n<10000:=Nat.lt_of_lt_of_le h (Nat.pow_le_pow_right (by omega) hk)

set_option maxHeartbeats 1000000 in
theorem implCut_val (r:ByteArray) (w:World):
 Calls Tryz.prog 157 #[.string r] w fun e w'=>e= .returned (.tuple #[.int .i64 (cutN r:Nat),.string (cutR r),.bool (cutB r)])∧Num.Drawn w w':=by
 by_cases h4:4≤r.size
 ·have h4I:¬(r.size:Int)<4:=by omega
  have h4J:(4:Int)≤(r.size:Int):=by omega
  obtain⟨N,hN⟩:∃N,cutN r=N:=⟨_,rfl⟩
  obtain⟨R,hR⟩:∃R,cutR r=R:=⟨_,rfl⟩
  obtain⟨B,hB⟩:∃B,cutB r=B:=⟨_,rfl⟩
  rw[hN,hR,hB]
  have HN:Hid (cutN r=N):=hN
  have HR:Hid (cutR r=R):=hR
  have HBB:Hid (cutB r=B):=hB
  clear hN hR hB
  go_enter Tryz.func157,Tryz.ntmps157
  go_wp2
  go_loopw [5,10] (fun n i wr=>∃k m:Nat,k≤4∧i= .int .i64 k∧n= .int .i64 m∧Hid (dg r k=some m)∧m<10000∧Num.Drawn w wr) (fun _ i _=>4-(intOf i).toNat)
  case atStart=>exact⟨0,0,by omega,rfl,rfl,rfl,by omega,Num.Drawn.refl _⟩
  case round=>
   obtain⟨k,m,hk,rfl,rfl,HD,hm,DR⟩:=hrel
   by_cases hkn:k<4
   ·have hks:k<r.size:=by omega
    have hb:=r[k].toNat_lt
    have HA:Hid (_):=dg_at r k m hks HD.out
    have HP:=dg_lt r (k+1)
    by_cases hlo:48≤r[k].toNat
    ·by_cases hhi:r[k].toNat≤57
     ·have e:dg r (k+1)=some (10*m+(r[k].toNat-48)):=by rw[HA.out,if_pos ⟨hlo,hhi⟩]
      have hq:=pow_10 (k+1) _ (by omega) (HP _ e)
      have HE:Hid (_):=e
      have d1:¬(r[k].toNat:Int)<48:=by omega
      have d2:¬(57:Int)<(r[k].toNat:Int):=by omega
      have d3:IntKind.u8.wrap ((r[k].toNat:Int)-48)=((r[k].toNat-48:Nat):Int):=by rw[IntKind.wrap_u8];omega
      have d4:IntKind.i64.wrap ((r[k].toNat-48:Nat):Int)=((r[k].toNat-48:Nat):Int):=by rw[IntKind.wrap_i64];omega
      clear HP e
      obtain⟨q,hq2⟩:∃q,r[k].toNat-48=q:=⟨_,rfl⟩
      rw[hq2]at d3 d4 hq HE
      clear HA
      go_wp2
      go_roundw
      case rel=>exact⟨k+1,10*m+q,by omega,by go_num,by go_num,HE,hq,DR⟩
      case measure=>simp[intOf];omega
     ·have e:dg r (k+1)=none:=by rw[HA.out,if_neg (by omega)]
      obtain⟨e1,e2,e3⟩:=cut_no (r:=r) (Or.inr (dg_none r (k+1) 4 e (by omega)))
      have d1:¬(r[k].toNat:Int)<48:=by omega
      have d2:(57:Int)<(r[k].toNat:Int):=by omega
      clear HP e HA HD
      have HQ:Hid (N=0∧R=⟨#[]⟩∧B=false):=⟨by rw[←HN.out,e2],by rw[←HR.out,e3],by rw[←HBB.out,e1]⟩
      clear e1 e2 e3
      go_wp2
      go_ret3
      exact⟨by rw[HQ.out.1,HQ.out.2.1,HQ.out.2.2];rfl,DR⟩
    ·have e:dg r (k+1)=none:=by rw[HA.out,if_neg (by omega)]
     obtain⟨e1,e2,e3⟩:=cut_no (r:=r) (Or.inr (dg_none r (k+1) 4 e (by omega)))
     have d1:(r[k].toNat:Int)<48:=by omega
     clear HP e HA HD
     have HQ:Hid (N=0∧R=⟨#[]⟩∧B=false):=⟨by rw[←HN.out,e2],by rw[←HR.out,e3],by rw[←HBB.out,e1]⟩
     clear e1 e2 e3
     go_wp2
     go_ret3
     exact⟨by rw[HQ.out.1,HQ.out.2.1,HQ.out.2.2];rfl,DR⟩
   ·obtain rfl:k=4:=by omega
    obtain⟨e1,e2,e3⟩:=cut_yes h4 HD.out
    have HQ:Hid (N=m∧R=r.extract 4 r.size∧B=true):=⟨by rw[←HN.out,e2],by rw[←HR.out,e3],by rw[←HBB.out,e1]⟩
    clear HD e1 e2 e3
    go_wp2
    go_quiet (fail)
    go_wp2
    go_ret3
    exact⟨by rw[HQ.out.1,HQ.out.2.1,HQ.out.2.2];rfl,DR.more _⟩
 ·have h4I:(r.size:Int)<4:=by omega
  obtain⟨e1,e2,e3⟩:=cut_no (r:=r) (Or.inl h4)
  rw[e1,e2,e3]
  go_enter Tryz.func157,Tryz.ntmps157
  go_wp2
  go_ret3
  exact⟨rfl,Num.Drawn.refl _⟩

set_option maxHeartbeats 1000000 in
theorem specDig_val (t:ByteArray) (w:World) (h4:t.size=4):
 Calls Tryz.prog 90 #[.string t] w fun e w'=>e= .returned (.int .i64 (digI t))∧w'=w:=by
 obtain⟨X,hX⟩:∃X,digI t=X:=⟨_,rfl⟩
 rw[hX]
 have HX:Hid (digI t=X):=hX
 clear hX
 go_enter Tryz.func90,Tryz.ntmps90
 go_wp2
 go_loop [3,4] (fun n i=>∃k m:Nat,k≤4∧i= .int .i64 k∧n= .int .i64 m∧Hid (dg t k=some m)∧m<10000) (fun _ i=>4-(intOf i).toNat)
 case atStart=>exact⟨0,0,by omega,rfl,rfl,rfl,by omega⟩
 case round=>
  obtain⟨k,m,hk,rfl,rfl,HD,hm⟩:=hrel
  by_cases hkn:k<4
  ·have hks:k<t.size:=by omega
   have hb:=t[k].toNat_lt
   have HA:Hid (_):=dg_at t k m hks HD.out
   have HP:=dg_lt t (k+1)
   by_cases hin:48≤t[k].toNat∧t[k].toNat≤57
   ·have e:dg t (k+1)=some (10*m+(t[k].toNat-48)):=by rw[HA.out,if_pos hin]
    have hq:=pow_10 (k+1) _ (by omega) (HP _ e)
    have HE:Hid (_):=e
    have HI:Hid (∀W:World,_):=fun W=>Pk.in_is (t[k].toNat:Int) 48 57 true (decide_eq_true (by omega)) W
    have HQ:Hid (((10*m+(t[k].toNat-48):Nat):Int)=10*(m:Int)+(t[k].toNat:Int)-48):=by show _=_;omega
    clear HP e HA
    go_wp2_with fail
    refine(HI.out _).mono ?_
    rintro e w1 ⟨rfl,rfl⟩
    go_wp2
    go_round
    case rel=>exact⟨k+1,10*m+(t[k].toNat-48),by omega,by go_num,by rw[HQ.out],HE,hq⟩
    case measure=>simp[intOf];omega
   ·have e:dg t (k+1)=none:=by rw[HA.out,if_neg hin]
    have e1:=digI_none (dg_none t (k+1) 4 e (by omega))
    have HI:Hid (∀W:World,_):=fun W=>Pk.in_is (t[k].toNat:Int) 48 57 false (decide_eq_false (by omega)) W
    have HQ:Hid (X= -1):=by show X= -1;rw[←HX.out,e1]
    clear HP e HA HD e1
    go_wp2_with fail
    refine(HI.out _).mono ?_
    rintro e w1 ⟨rfl,rfl⟩
    go_wp2
    go_ret
    exact⟨by rw[HQ.out];rfl,rfl⟩
  ·obtain rfl:k=4:=by omega
   have HQ:Hid (X=(m:Int)):=by show X=_;rw[←HX.out,digI_some HD.out]
   clear HD
   go_wp2
   go_ret
   exact⟨by rw[HQ.out];rfl,rfl⟩

end Fr
end Go.Proofs.YtdcpjicgehdmfaaGreatDoor

/- The contract of the program's joinParts. -/
namespace Go.Proofs.YtdcpjicgehdmfaaGreatDoor
namespace Fr
open Go.ChangeShapes Go.WideShapes Go.ChangeAt Go.RowKit
open Pk (new_below join_below cell_at heap_new frozen_at lt_of kept heap_old)
set_option linter.unusedSimpArgs false
set_option linter.unusedVariables false

abbrev j3 (n r s:Int) (p:ByteArray):Value:= .tuple #[.int .i64 n,.agg #[.int .i64 r,.int .i64 s],.string p]

abbrev parts (n r s:Int) (p:ByteArray):Array Value:= #[.iface 179 (.int .i64 n),.iface 180 (.agg #[.int .i64 r,.int .i64 s]),.iface 181 (.string p)]

def Far (n r s:Int) (p:ByteArray) (m k:Nat) (n' r' s':Int) (p':ByteArray):Prop:=
 (k=0∧n'=0∧r'=0∧s'=0∧p'=⟨#[]⟩)∨(k=1∧n'=n∧r'=0∧s'=0∧p'=⟨#[]⟩)∨(k=2∧n'=n∧r'=r∧s'=s∧p'=⟨#[]⟩)∨(k=3∧n'=n∧r'=r∧s'=s∧p'=p)

theorem set_two (w:World) (P:Nat) (a b c d:Value) (t:TypeId) (h:w.heap[P]? =some (.cells #[a,b] t (0,0))):((w.setCell ⟨P,0,none⟩ c).setCell ⟨P,1,none⟩ d).heap[P]? =some (.cells #[c,d] t (0,0)):=by
 unfold World.setCell
 simp[Array.getElem?_modify,h]

theorem ta_yes1 (n:Int) (w:World):(Instr.typeAssert (.iface 179 (.int .i64 n)) 183 179 true).run Tryz.prog w= .ok (.tuple #[.int .i64 n,.bool true]) w:=by kernel_rfl

theorem ta_no1 (v:Value) (w:World):(Instr.typeAssert (.iface 180 v) 183 179 true).run Tryz.prog w= .ok (.tuple #[.int .i64 0,.bool false]) w:=by kernel_rfl

theorem ta_yes2 (v:Value) (w:World):(Instr.typeAssert (.iface 180 v) 183 180 true).run Tryz.prog w= .ok (.tuple #[v,.bool true]) w:=by kernel_rfl

theorem ta_no2 (v:Value) (w:World):(Instr.typeAssert (.iface 181 v) 183 179 true).run Tryz.prog w= .ok (.tuple #[.int .i64 0,.bool false]) w:=by kernel_rfl

theorem ta_no3 (v:Value) (w:World):(Instr.typeAssert (.iface 181 v) 183 180 true).run Tryz.prog w= .ok (.tuple #[.agg #[.int .i64 0,.int .i64 0],.bool false]) w:=by kernel_rfl

theorem ta_yes3 (v:Value) (w:World):(Instr.typeAssert (.iface 181 v) 183 181 true).run Tryz.prog w= .ok (.tuple #[v,.bool true]) w:=by kernel_rfl

set_option maxRecDepth 100000 in
set_option maxHeartbeats 4000000 in
theorem join_val (n r s:Int) (p:ByteArray) (m g cp:Nat) (a:Option Addr) (w:World) (hm:(m=0∧a=none∧cp=0)∨(m=3∧a=some ⟨g,0,none⟩∧g<w.heap.size∧w.heap[g]? =some (.cells (parts n r s p) 183 (0,0)))):
 Calls Tryz.prog 140 #[.slice a m cp] w fun e w'=>(∃n' r' s' p',e= .returned (j3 n' r' s' p')∧Far n r s p m m n' r' s' p')∧Below w.heap.size w w':=by
 have N:=new_below w (.cells #[.int .i64 0,.int .i64 0] 93)
 have m0:=heap_new w (.cells #[.int .i64 0,.int .i64 0] 93)
 have HM:Hid (_):=hm
 have hm3:m≤3:=by omega
 have y1:=ta_yes1 n
 have y2:=ta_yes2 (.agg #[.int .i64 r,.int .i64 s])
 have y3:=ta_yes3 (.string p)
 have x1:=ta_no1 (.agg #[.int .i64 r,.int .i64 s])
 have x2:=ta_no2 (.string p)
 have x3:=ta_no3 (.string p)
 go_enter Tryz.func140,Tryz.ntmps140
 go_wp2
 generalize w.alloc (.cells #[.int .i64 0,.int .i64 0] 93)=W at*
 go_loopw [2,4,12] (fun t2 t4 i wr=>∃(k:Nat) (n' r' s':Int) (p':ByteArray),k≤m∧i= .int .i64 k∧t2= .int .i64 n'∧t4= .string p'∧wr.heap[w.heap.size]? =some (.cells #[.int .i64 r',.int .i64 s'] 93 (0,0))∧Below w.heap.size w wr∧Hid (Far n r s p m k n' r' s' p')) (fun _ _ i _=>m-(intOf i).toNat)
 case atStart=>exact⟨0,0,0,0,⟨#[]⟩,by omega,rfl,rfl,rfl,m0,N,Or.inl ⟨rfl,rfl,rfl,rfl,rfl⟩⟩
 case round=>
  clear m0 N
  obtain⟨k,n',r',s',p',hk,rfl,rfl,rfl,mr,LR,HF⟩:=hrel
  by_cases hkn:k<m
  ·obtain⟨rfl,rfl,hg,hh⟩:m=3∧a=some ⟨g,0,none⟩∧g<w.heap.size∧w.heap[g]? =some (.cells (parts n r s p) 183 (0,0)):=by
    rcases HM.out with h|h
    ·omega
    ·exact h
   have hh2:wr.heap[g]? =some (.cells (parts n r s p) 183 (0,0)):=by rw[LR.block g hg];exact hh
   have c0:wr.cell? ⟨g,0,none⟩=some (.iface 179 (.int .i64 n)):=cell_at hh2 0
   have c1:wr.cell? ⟨g,1,none⟩=some (.iface 180 (.agg #[.int .i64 r,.int .i64 s])):=cell_at hh2 1
   have c2:wr.cell? ⟨g,2,none⟩=some (.iface 181 (.string p)):=cell_at hh2 2
   clear hh hh2 hm
   rcases HF.out with⟨rfl,rfl,rfl,rfl,rfl⟩|⟨rfl,rfl,rfl,rfl,rfl⟩|⟨rfl,rfl,rfl,rfl,rfl⟩|⟨rfl,-⟩
   ·go_wp2
    go_roundw
    case rel=>exact⟨1,n,0,0,⟨#[]⟩,by omega,rfl,rfl,rfl,mr,LR,Or.inr (Or.inl ⟨rfl,rfl,rfl,rfl,rfl⟩)⟩
    case measure=>simp[intOf]
   ·have mr2:=heap_old mr (.cells #[.int .i64 r,.int .i64 s] 180)
    have d0:=cell_at mr2 0
    have d1:=cell_at mr2 1
    have f0:=frozen_at mr2 0
    have f1:=frozen_at mr2 1
    have HS:Hid (_):=set_two _ w.heap.size _ _ (.int .i64 r) (.int .i64 s) _ mr2
    have HL:Hid (Below w.heap.size w (((wr.alloc (.cells #[.int .i64 r,.int .i64 s] 180)).setCell ⟨w.heap.size,0,none⟩ (.int .i64 r)).setCell ⟨w.heap.size,1,none⟩ (.int .i64 s))):=((LR.alloc LR.size _).setCell (p:=⟨w.heap.size,0,none⟩) (Nat.le_refl _) _).setCell (p:=⟨w.heap.size,1,none⟩) (Nat.le_refl _) _
    simp at d0 d1
    go_wp2
    go_roundw
    case rel=>exact⟨2,n',r,s,⟨#[]⟩,by omega,rfl,rfl,rfl,HS.out,HL.out,Or.inr (Or.inr (Or.inl ⟨rfl,rfl,rfl,rfl,rfl⟩))⟩
    case measure=>simp[intOf]
   ·go_wp2
    go_roundw
    case rel=>exact⟨3,n',r',s',p,by omega,rfl,rfl,rfl,mr,LR,Or.inr (Or.inr (Or.inr ⟨rfl,rfl,rfl,rfl,rfl⟩))⟩
    case measure=>simp[intOf]
   ·omega
  ·obtain rfl:k=m:=by omega
   have d0:wr.cell? ⟨w.heap.size,0,none⟩=some (.int .i64 r'):=cell_at mr 0
   have d1:wr.cell? ⟨w.heap.size,1,none⟩=some (.int .i64 s'):=cell_at mr 1
   have f0:=frozen_at mr 0
   have f1:=frozen_at mr 1
   have HS:Hid (_):=set_two _ w.heap.size _ _ (.int .i64 r') (.int .i64 s') _ mr
   have HL:Hid (Below w.heap.size w ((wr.setCell ⟨w.heap.size,0,none⟩ (.int .i64 r')).setCell ⟨w.heap.size,1,none⟩ (.int .i64 s'))):=(LR.setCell (p:=⟨w.heap.size,0,none⟩) (Nat.le_refl _) _).setCell (p:=⟨w.heap.size,1,none⟩) (Nat.le_refl _) _
   clear mr LR hm
   go_wp2
   go_region
   all_goals
    go_wp2
    have mE:=HS.out
    have HLD:=HL.out.drew
    generalize (wr.setCell ⟨w.heap.size,0,none⟩ (.int .i64 r')).setCell ⟨w.heap.size,1,none⟩ (.int .i64 s')=WE at*
    have q0:WE.drew.cell? ⟨w.heap.size,0,none⟩=some (.int .i64 r'):=cell_at (w:=WE.drew) mE 0
    have q1:WE.drew.cell? ⟨w.heap.size,1,none⟩=some (.int .i64 s'):=cell_at (w:=WE.drew) mE 1
    refine bodyPost_ret (v:=j3 n' r' s' p') (by simp[results,Tryz.results140,go_sem,q0,q1]) rfl ?_
    exact⟨⟨n',r',s',p',rfl,HF.out⟩,HLD⟩

end Fr
end Go.Proofs.YtdcpjicgehdmfaaGreatDoor

/- The contracts of the program's refuseIf: it answers, or it panics with its fault. -/
namespace Go.Proofs.YtdcpjicgehdmfaaGreatDoor
namespace Pk
open Go.ChangeShapes Go.WideShapes Go.ChangeAt Go.RowKit
set_option linter.unusedSimpArgs false
set_option linter.unusedVariables false

abbrev fault (k:Int):Ending:= .panicked [{ v:= .iface 191 (.int .i64 k),recovered:=false }]

theorem refuse_no (k:Int) (w:World):
 Calls Tryz.prog 193 #[.bool false,.int .i64 k] w fun e w'=>e= .returned (.tuple #[])∧w'=w:=by
 go_enter Tryz.func193,Tryz.ntmps193
 go_wp2
 exact⟨rfl,_,results_none rfl _ _ _,rfl,rfl⟩

theorem refuse_yes (k:Int) (w:World):
 Calls Tryz.prog 193 #[.bool true,.int .i64 k] w fun e w'=>e=fault k∧w'=w:=by
 go_enter Tryz.func193,Tryz.ntmps193
 go_wp2
 exact⟨rfl,rfl,rfl⟩

end Pk
end Go.Proofs.YtdcpjicgehdmfaaGreatDoor

/- The contracts of the program's reader of bits: it answers, or it panics with its fault. -/
namespace Go.Proofs.YtdcpjicgehdmfaaGreatDoor
namespace Pk
open Go.ChangeShapes Go.WideShapes Go.ChangeAt Go.RowKit
open Math (bitAt lowAt topAt symAt symLen)
set_option linter.unusedSimpArgs false
set_option linter.unusedVariables false

def RdI (c:Nat) (s:ByteArray) (a:Nat) (v:Value) (w:World):Prop:=w.heap[c]? =some (.cells #[.string s,.int .i64 (a:Int),v] 194)

theorem RdI.drewN {c:Nat} {s:ByteArray} {a:Nat} {v:Value} {w:World} (h:RdI c s a v w) (n:Nat):RdI c s a v (w.drewN n):=h

set_option maxRecDepth 100000 in
set_option maxHeartbeats 1000000 in
theorem bitI_ok (B c:Nat) (s:ByteArray) (a:Nat) (v:Value) (w:World) (hs:s.size≤100000) (hB:B≤c) (ha:a<8*s.size) (H:RdI c s a v w):
 Calls Tryz.prog 194 #[.pointer (some ⟨c,0,none⟩)] w fun e w'=>e= .returned (.int .i64 (bitAt s a:Nat))∧RdI c s (a+1) v w'∧Mv c w w'∧Below B w w':=by
 have m:w.heap[c]? =some (.cells #[.string s,.int .i64 (a:Int),v] 194):=H
 have f1:=frozen_at m 1
 have c0:w.cell? ⟨c,0,none⟩=some (.string s):=cell_at m 0
 have c1:w.cell? ⟨c,1,none⟩=some (.int .i64 (a:Int)):=cell_at m 1
 have hi:a/8<s.size:=by omega
 have HB:Hid (_):=Math.bitAt_in s a hi
 have hq:(a:Int)/8=((a/8:Nat):Int):=by omega
 have hr:(a:Int)%8=((a%8:Nat):Int):=by omega
 have hr8:a%8<8:=by omega
 have ht:Int.tmod (a:Int) 8=((a%8:Nat):Int):=by rw[Int.tmod_eq_emod_of_nonneg (by omega)];omega
 have htd:Int.tdiv (a:Int) 8=((a/8:Nat):Int):=by rw[Int.tdiv_eq_ediv_of_nonneg (by omega)];omega
 have hne:¬(a:Int)=(s.size:Int)*8:=by omega
 have hneb:((a:Int)==(s.size:Int)*8)=false:=beq_eq_false_iff_ne.2 hne
 have HRF:Hid (∀W,_):=fun W=>refuse_no 1 W
 have hw8:IntKind.i64.wrap ((s.size:Int)*8)=(s.size:Int)*8:=wrap_is _ (by omega)
 have HW:Hid (∀(w1:World),w1.heap[c]? =some (.cells #[.string s,.int .i64 (a:Int),v] 194)→RdI c s (a+1) v (w1.setCell ⟨c,1,none⟩ (.int .i64 ((a:Int)+1)))):=fun w1 m1=>hp_set (w:=w1) (i:=1) m1 (.int .i64 ((a:Int)+1))
 have hbt:=s[a/8].toNat_lt
 have hand:=Math.and_one_i64 (s[a/8].toNat/2^(a%8)) (by have:s[a/8].toNat/2^(a%8)≤s[a/8].toNat:=Nat.div_le_self _ _;omega)
 have hil:((a/8:Nat):Int)<(s.size:Int):=by omega
 have hdl:s[a/8].toNat/2^(a%8)≤s[a/8].toNat:=Nat.div_le_self _ _
 have hdv:=bit_quo s[a/8].toNat (a%8)
 have hdv2:((s[a/8].toNat:Nat):Int)/2^(a%8)=((s[a/8].toNat/2^(a%8):Nat):Int):=by rw[Int.natCast_ediv];simp
 rw[HB.out]
 have HM:Hid (_):=m
 clear m HB
 generalize a/8=i at*
 generalize a%8=r at*
 generalize s[i].toNat/2^r=Y at*
 have hi0:(0:Int)≤(i:Int):=by omega
 have hw1:IntKind.i64.wrap (i:Int)=i:=wrap_is _ (by omega)
 have hw2:IntKind.i64.wrap (r:Int)=r:=wrap_is _ (by omega)
 have hw5:IntKind.i64.wrap (s[i].toNat:Int)=s[i].toNat:=wrap_is _ (by omega)
 have hr0:(0:Int)≤(r:Int):=by omega
 have hr64:(r:Int)<64:=by omega
 have hrt:((r:Int)).toNat=r:=by omega
 go_enter Tryz.func194,Tryz.ntmps194
 go_wp2
 go_quiet ((go_at_call 193;exact Calls.quiet_of_same (HRF.out _)))
 have m9:(w.drewN nq).heap[c]? =some (.cells #[.string s,.int .i64 (a:Int),v] 194):=HM.out
 have M9:Mv c w (w.drewN nq):=(Mv.refl c w).drewN nq
 have L9:Below B w (w.drewN nq):=below_drewN (Below.refl B w) nq
 clear c0 c1 f1 HM H
 generalize w.drewN nq=w9 at m9 M9 L9⊢
 have c0:w9.cell? ⟨c,0,none⟩=some (.string s):=cell_at m9 0
 have c1:w9.cell? ⟨c,1,none⟩=some (.int .i64 (a:Int)):=cell_at m9 1
 have f1:=frozen_at m9 1
 have HM:Hid (_):=m9
 clear m9
 go_wp2_with fail
 go_quiet (fail)
 go_wp2
 go_ret
 exact⟨rfl,HW.out _ HM.out,(M9.drewN _).trans (Mv.set c 1 _ _),(below_drewN L9 _).setCell hB _⟩

set_option maxRecDepth 100000 in
set_option maxHeartbeats 1000000 in
theorem bitI_cut (B c:Nat) (s:ByteArray) (v:Value) (w:World) (hs:s.size≤100000) (hB:B≤c) (H:RdI c s (8*s.size) v w):
 Calls Tryz.prog 194 #[.pointer (some ⟨c,0,none⟩)] w fun e w'=>e=fault 1∧Mv c w w'∧Below B w w':=by
 have m:w.heap[c]? =some (.cells #[.string s,.int .i64 ((8*s.size:Nat):Int),v] 194):=H
 have c0:w.cell? ⟨c,0,none⟩=some (.string s):=cell_at m 0
 have c1:w.cell? ⟨c,1,none⟩=some (.int .i64 ((8*s.size:Nat):Int)):=cell_at m 1
 have e8:((8*s.size:Nat):Int)=(s.size:Int)*8:=by omega
 rw[e8]at c1
 have hneb:((s.size:Int)*8==(s.size:Int)*8)=true:=by simp
 have HRF:Hid (∀W,_):=fun W=>refuse_yes 1 W
 have hw8:IntKind.i64.wrap ((s.size:Int)*8)=(s.size:Int)*8:=wrap_is _ (by omega)
 clear e8
 go_enter Tryz.func194,Tryz.ntmps194
 go_wp2
 refine wp_region_held_drew (S:=(fun w'=>w'.cell? ⟨c,0,none⟩=some (.string s)∧w'.cell? ⟨c,1,none⟩=some (.int .i64 ((s.size:Int)*8)))) (by kernel_rfl) ?_ (fun hHeld=> ?_)
 ·exact⟨c0,c1⟩
 refine wpAnyH_take (i:=0) (oi:= { dst:=some 4,op:=Op.move (Operand.tmp 0),type:=201,pos:= "l03_pack.go:313",after:= #[],guard:=none }) (v:= ?_) rfl (by kernel_rfl) (by kernel_rfl) (by kernel_rfl) (fun _ _ _ h=>h) (Or.inl ⟨by rfl,?_⟩) (by assumption) ?_
 rotate_left 1
 ·(intro wS hSw;(try dsimp only at hSw);go_simp;try (with_reducible rfl))
 (try simp only[Act.put,List.setIfInBounds_toArray,List.set_cons_zero,List.set_cons_succ])
 refine wpAnyH_take (i:=1) (oi:= { dst:=some 5,op:=Op.nilCheck (Operand.tmp 4),type:=0,pos:= "l03_pack.go:313",after:= #[{ on:=0,ground:=Ground.data }],guard:=none }) (v:= ?_) rfl (by kernel_rfl) (by kernel_rfl) (by kernel_rfl) (fun _ _ _ h=>h) (Or.inl ⟨by rfl,?_⟩) (by assumption) ?_
 rotate_left 1
 ·(intro wS hSw;(try dsimp only at hSw);go_simp;try (with_reducible rfl))
 (try simp only[Act.put,List.setIfInBounds_toArray,List.set_cons_zero,List.set_cons_succ])
 refine wpAnyH_take (i:=2) (oi:= { dst:=some 6,op:=Op.fieldAddr 194 (Operand.tmp 5) 1,type:=0,pos:= "l03_pack.go:313",after:= #[{ on:=1,ground:=Ground.data }],guard:=none }) (v:= ?_) rfl (by kernel_rfl) (by kernel_rfl) (by kernel_rfl) (fun _ _ _ h=>h) (Or.inl ⟨by rfl,?_⟩) (by assumption) ?_
 rotate_left 1
 ·(intro wS hSw;(try dsimp only at hSw);go_simp;try (with_reducible rfl))
 (try simp only[Act.put,List.setIfInBounds_toArray,List.set_cons_zero,List.set_cons_succ])
 refine wpAnyH_take (i:=3) (oi:= { dst:=some 7,op:=Op.load 3 (Operand.tmp 6),type:=3,pos:= "l03_pack.go:313",after:= #[{ on:=2,ground:=Ground.data }],guard:=none }) (v:= ?_) rfl (by kernel_rfl) (by kernel_rfl) (by kernel_rfl) (fun _ _ _ h=>h) (Or.inl ⟨by rfl,?_⟩) (by assumption) ?_
 rotate_left 1
 ·(intro wS hSw;(try dsimp only at hSw);go_simp;try (with_reducible rfl))
 (try simp only[Act.put,List.setIfInBounds_toArray,List.set_cons_zero,List.set_cons_succ])
 refine wpAnyH_take (i:=4) (oi:= { dst:=some 8,op:=Op.move (Operand.tmp 0),type:=201,pos:= "l03_pack.go:313",after:= #[],guard:=none }) (v:= ?_) rfl (by kernel_rfl) (by kernel_rfl) (by kernel_rfl) (fun _ _ _ h=>h) (Or.inl ⟨by rfl,?_⟩) (by assumption) ?_
 rotate_left 1
 ·(intro wS hSw;(try dsimp only at hSw);go_simp;try (with_reducible rfl))
 (try simp only[Act.put,List.setIfInBounds_toArray,List.set_cons_zero,List.set_cons_succ])
 refine wpAnyH_take (i:=5) (oi:= { dst:=some 9,op:=Op.nilCheck (Operand.tmp 8),type:=0,pos:= "l03_pack.go:313",after:= #[{ on:=4,ground:=Ground.data }],guard:=none }) (v:= ?_) rfl (by kernel_rfl) (by kernel_rfl) (by kernel_rfl) (fun _ _ _ h=>h) (Or.inl ⟨by rfl,?_⟩) (by assumption) ?_
 rotate_left 1
 ·(intro wS hSw;(try dsimp only at hSw);go_simp;try (with_reducible rfl))
 (try simp only[Act.put,List.setIfInBounds_toArray,List.set_cons_zero,List.set_cons_succ])
 refine wpAnyH_take (i:=6) (oi:= { dst:=some 10,op:=Op.fieldAddr 194 (Operand.tmp 9) 0,type:=0,pos:= "l03_pack.go:313",after:= #[{ on:=5,ground:=Ground.data }],guard:=none }) (v:= ?_) rfl (by kernel_rfl) (by kernel_rfl) (by kernel_rfl) (fun _ _ _ h=>h) (Or.inl ⟨by rfl,?_⟩) (by assumption) ?_
 rotate_left 1
 ·(intro wS hSw;(try dsimp only at hSw);go_simp;try (with_reducible rfl))
 (try simp only[Act.put,List.setIfInBounds_toArray,List.set_cons_zero,List.set_cons_succ])
 refine wpAnyH_take (i:=7) (oi:= { dst:=some 11,op:=Op.load 9 (Operand.tmp 10),type:=9,pos:= "l03_pack.go:313",after:= #[{ on:=6,ground:=Ground.data }],guard:=none }) (v:= ?_) rfl (by kernel_rfl) (by kernel_rfl) (by kernel_rfl) (fun _ _ _ h=>h) (Or.inl ⟨by rfl,?_⟩) (by assumption) ?_
 rotate_left 1
 ·(intro wS hSw;(try dsimp only at hSw);go_simp;try (with_reducible rfl))
 (try simp only[Act.put,List.setIfInBounds_toArray,List.set_cons_zero,List.set_cons_succ])
 refine wpAnyH_take (i:=8) (oi:= { dst:=some 12,op:=Op.call { callee:=Callee.builtin Builtin.len,args:= #[Operand.tmp 11],argTypes:= #[9] },type:=3,pos:= "l03_pack.go:313",after:= #[{ on:=7,ground:=Ground.data }],guard:=none }) (v:= ?_) rfl (by kernel_rfl) (by kernel_rfl) (by kernel_rfl) (fun _ _ _ h=>h) (Or.inl ⟨by rfl,?_⟩) (by assumption) ?_
 rotate_left 1
 ·(intro wS hSw;(try dsimp only at hSw);go_simp;try (with_reducible rfl))
 (try simp only[Act.put,List.setIfInBounds_toArray,List.set_cons_zero,List.set_cons_succ])
 refine wpAnyH_take (i:=9) (oi:= { dst:=some 13,op:=Op.binOp BinOp.mul 3 (Operand.tmp 12) (Operand.const (Value.int IntKind.i64 8)) 3,type:=3,pos:= "l03_pack.go:313",after:= #[{ on:=8,ground:=Ground.data }],guard:=none }) (v:= ?_) rfl (by kernel_rfl) (by kernel_rfl) (by kernel_rfl) (fun _ _ _ h=>h) (Or.inl ⟨by rfl,?_⟩) (by assumption) ?_
 rotate_left 1
 ·(intro wS hSw;(try dsimp only at hSw);go_simp;try (with_reducible rfl))
 (try simp only[Act.put,List.setIfInBounds_toArray,List.set_cons_zero,List.set_cons_succ])
 refine wpAnyH_take (i:=10) (oi:= { dst:=some 14,op:=Op.binOp BinOp.eql 3 (Operand.tmp 7) (Operand.tmp 13) 3,type:=4,pos:= "l03_pack.go:313",after:= #[{ on:=3,ground:=Ground.data },{ on:=9,ground:=Ground.data }],guard:=none }) (v:= ?_) rfl (by kernel_rfl) (by kernel_rfl) (by kernel_rfl) (fun _ _ _ h=>h) (Or.inl ⟨by rfl,?_⟩) (by assumption) ?_
 rotate_left 1
 ·(intro wS hSw;(try dsimp only at hSw);go_simp;try (with_reducible rfl))
 (try simp only[Act.put,List.setIfInBounds_toArray,List.set_cons_zero,List.set_cons_succ])
 refine wpAnyH_ready (rs:= [11]) (by kernel_rfl) (by simp) ?_
 refine AllReadyH.cons (o:= { dst:=some 15,op:=Op.call { callee:=Callee.value (Operand.func 193),args:= #[Operand.tmp 14,Operand.const (Value.int IntKind.i64 1)],argTypes:= #[4,3] },type:=0,pos:= "l03_pack.go:313",after:= #[{ on:=10,ground:=Ground.data }],guard:=none }) rfl (fun K hK=> ?_) AllReadyH.nil
 go_simp
 refine(HRF.out _).mono ?_
 rintro e x1 ⟨rfl,hx1⟩
 subst hx1
 exact⟨rfl,rfl,⟨rfl,fun _ _=>rfl⟩,(Below.refl _ _).drew⟩

end Pk
end Go.Proofs.YtdcpjicgehdmfaaGreatDoor

/- Numbers that the program reads off bits, the lowest first or the highest first. -/
namespace Go.Proofs.YtdcpjicgehdmfaaGreatDoor
namespace Pk
open Go.ChangeShapes Go.WideShapes Go.ChangeAt Go.RowKit
open Math (bitAt lowAt topAt symAt symLen)
set_option linter.unusedSimpArgs false
set_option linter.unusedVariables false

theorem pow_30 (k:Nat) (h:k≤30):2^k≤1073741824:=Nat.le_trans (Nat.pow_le_pow_right (by omega) h) (by decide)

theorem wrap_pow (b k:Nat) (hb:b≤1) (h:k≤30):wrap64 ((b:Int)*2^k)=((b*2^k:Nat):Int):=by
 have hp:=pow_30 k h
 have e:((b:Int)*2^k)=((b*2^k:Nat):Int):=by rw[Int.natCast_mul,Int.natCast_pow];rfl
 have h2:b*2^k≤1*2^k:=Nat.mul_le_mul_right _ hb
 rw[e]
 generalize b*2^k=q at*
 unfold wrap64
 omega

theorem or_low (y b k:Nat) (hy:y<2^k) (hb:b≤1) (h:k≤30):bits .or .i64 (y:Int) (wrap64 ((b:Int)*2^k))=((y+b*2^k:Nat):Int):=by
 have hp:=pow_30 k h
 have h2:b*2^k≤1*2^k:=Nat.mul_le_mul_right _ hb
 rw[wrap_pow b k hb h,Math.bits_or_i64 y (b*2^k) (by omega) (by omega),Nat.or_comm,Nat.mul_comm b,←Nat.two_pow_add_eq_or_of_lt hy,Nat.add_comm]

theorem or_top (y b k:Nat) (hy:y<2^k) (hb:b≤1) (h:k≤30):bits .or .i64 (wrap64 ((y:Int)*2)) (b:Int)=((2*y+b:Nat):Int):=by
 have hp:=pow_30 k h
 have e:wrap64 ((y:Int)*2)=((2^1*y:Nat):Int):=by unfold wrap64;omega
 rw[e,Math.bits_or_i64 (2^1*y) b (by omega) (by omega),←Nat.two_pow_add_eq_or_of_lt (by omega)]

theorem low_lt (y b k:Nat) (hy:y<2^k) (hb:b≤1):y+b*2^k<2^(k+1):=by
 have h2:b*2^k≤1*2^k:=Nat.mul_le_mul_right _ hb
 rw[Nat.pow_succ]
 omega

set_option maxRecDepth 100000 in
set_option maxHeartbeats 1000000 in
theorem lowI_ok (B c:Nat) (s:ByteArray) (a n:Nat) (v:Value) (w:World) (hs:s.size≤100000) (hB:B≤c) (hn:n≤30) (ha:a+n≤8*s.size) (H:RdI c s a v w):
 Calls Tryz.prog 195 #[.pointer (some ⟨c,0,none⟩),.int .i64 n] w fun e w'=>e= .returned (.int .i64 (lowAt s a n:Nat))∧RdI c s (a+n) v w'∧Mv c w w'∧Below B w w':=by
 have hnI:(n:Int)≤30:=by omega
 go_enter Tryz.func195,Tryz.ntmps195
 go_wp2
 go_loopw [5,8] (fun x i wr=>∃(k y:Nat),k≤n∧y<2^k∧x= .int .i64 y∧i= .int .i64 k∧Hid (y=lowAt s a k)∧Hid (RdI c s (a+k) v wr)∧Hid (Mv c w wr)∧Hid (Below B w wr)) (fun _ i _=>n-(intOf i).toNat)
 case atStart=>exact⟨0,0,by omega,by simp,rfl,rfl,rfl,H,Mv.refl _ _,Below.refl _ _⟩
 case round=>
  obtain⟨k,y,hk,hy,rfl,rfl,HY,R,M,L⟩:=hrel
  by_cases hlt:k<n
  ·have hkI:(k:Int)<(n:Int):=by omega
   have HB:Hid (∀_:Unit,_):=fun _=>bitI_ok B c s (a+k) v wr hs hB (by omega) R.out
   have hb:=Math.bitAt_le s (a+k)
   have HYN:Hid (lowAt s a (k+1)=lowAt s a k+bitAt s (a+k)*2^k):=rfl
   generalize bitAt s (a+k)=b at*
   have HOR:Hid (_):=or_low y b k hy hb (by omega)
   have hk0:(0:Int)≤(k:Int):=by omega
   have hk64:(k:Int)<64:=by omega
   have hkt:((k:Int)).toNat=k:=by omega
   go_wp2_with fail
   refine(HB.out ()).mono ?_
   rintro e w2 ⟨rfl,R2,M2,L2⟩
   have R3:RdI c s (a+(k+1)) v w2:=R2
   have M3:=M.out.trans M2
   have L3:=L.out.trans L2
   have HYK:Hid ((y+b*2^k)<2^(k+1)):=low_lt y b k hy hb
   go_wp2
   go_roundw
   case rel=>exact⟨k+1,(y+b*2^k),by omega,HYK.out,by rw[HOR.out],by go_num,by show _=_;rw[HYN.out,←HY.out],R3,M3,L3⟩
   case measure=>simp[intOf];omega
  ·obtain rfl:k=n:=by omega
   have hkI:¬(k:Int)<(k:Int):=by omega
   go_wp2
   go_ret
   exact⟨by rw[←HY.out]<;>rfl,R.out,M.out,L.out⟩

set_option maxRecDepth 100000 in
set_option maxHeartbeats 1000000 in
theorem lowI_cut (B c:Nat) (s:ByteArray) (a n:Nat) (v:Value) (w:World) (hs:s.size≤100000) (hB:B≤c) (hn:n≤30) (ha0:a≤8*s.size) (ha:8*s.size<a+n) (H:RdI c s a v w):
 Calls Tryz.prog 195 #[.pointer (some ⟨c,0,none⟩),.int .i64 n] w fun e w'=>e=fault 1∧Mv c w w'∧Below B w w':=by
 have hnI:(n:Int)≤30:=by omega
 go_enter Tryz.func195,Tryz.ntmps195
 go_wp2
 go_loopw [5,8] (fun x i wr=>∃(k y:Nat),a+k≤8*s.size∧y<2^k∧x= .int .i64 y∧i= .int .i64 k∧Hid (y=lowAt s a k)∧Hid (RdI c s (a+k) v wr)∧Hid (Mv c w wr)∧Hid (Below B w wr)) (fun _ i _=>n-(intOf i).toNat)
 case atStart=>exact⟨0,0,by omega,by simp,rfl,rfl,rfl,H,Mv.refl _ _,Below.refl _ _⟩
 case round=>
  obtain⟨k,y,hk,hy,rfl,rfl,HY,R,M,L⟩:=hrel
  have hkI:(k:Int)<(n:Int):=by omega
  by_cases hlt:a+k<8*s.size
  ·skip
   have HB:Hid (∀_:Unit,_):=fun _=>bitI_ok B c s (a+k) v wr hs hB (by omega) R.out
   have hb:=Math.bitAt_le s (a+k)
   have HYN:Hid (lowAt s a (k+1)=lowAt s a k+bitAt s (a+k)*2^k):=rfl
   generalize bitAt s (a+k)=b at*
   have HOR:Hid (_):=or_low y b k hy hb (by omega)
   have hk0:(0:Int)≤(k:Int):=by omega
   have hk64:(k:Int)<64:=by omega
   have hkt:((k:Int)).toNat=k:=by omega
   go_wp2_with fail
   refine(HB.out ()).mono ?_
   rintro e w2 ⟨rfl,R2,M2,L2⟩
   have R3:RdI c s (a+(k+1)) v w2:=R2
   have M3:=M.out.trans M2
   have L3:=L.out.trans L2
   have HYK:Hid ((y+b*2^k)<2^(k+1)):=low_lt y b k hy hb
   go_wp2
   go_roundw
   case rel=>exact⟨k+1,(y+b*2^k),by omega,HYK.out,by rw[HOR.out],by go_num,by show _=_;rw[HYN.out,←HY.out],R3,M3,L3⟩
   case measure=>simp[intOf];omega
  ·have HB:Hid (∀_:Unit,_):=fun _=>bitI_cut B c s v wr hs hB (by have:=R.out;rw[show a+k=8*s.size from by omega]at this;exact this)
   go_wp2_with fail
   refine(HB.out ()).mono ?_
   rintro e w2 ⟨rfl,M2,L2⟩
   have M3:=M.out.trans M2
   have L3:=L.out.trans L2
   go_wp2
   exact⟨rfl,rfl,M3,L3⟩

set_option maxRecDepth 100000 in
set_option maxHeartbeats 1000000 in
theorem topI_ok (B c:Nat) (s:ByteArray) (a n:Nat) (v:Value) (w:World) (hs:s.size≤100000) (hB:B≤c) (hn:n≤30) (ha:a+n≤8*s.size) (H:RdI c s a v w):
 Calls Tryz.prog 208 #[.pointer (some ⟨c,0,none⟩),.int .i64 n] w fun e w'=>e= .returned (.int .i64 (topAt s a n:Nat))∧RdI c s (a+n) v w'∧Mv c w w'∧Below B w w':=by
 have hnI:(n:Int)≤30:=by omega
 go_enter Tryz.func208,Tryz.ntmps208
 go_wp2
 go_loopw [5,7] (fun x i wr=>∃(k y:Nat),k≤n∧y<2^k∧x= .int .i64 y∧i= .int .i64 k∧Hid (y=topAt s a k)∧Hid (RdI c s (a+k) v wr)∧Hid (Mv c w wr)∧Hid (Below B w wr)) (fun _ i _=>n-(intOf i).toNat)
 case atStart=>exact⟨0,0,by omega,by simp,rfl,rfl,rfl,H,Mv.refl _ _,Below.refl _ _⟩
 case round=>
  obtain⟨k,y,hk,hy,rfl,rfl,HY,R,M,L⟩:=hrel
  by_cases hlt:k<n
  ·have hkI:(k:Int)<(n:Int):=by omega
   have HB:Hid (∀_:Unit,_):=fun _=>bitI_ok B c s (a+k) v wr hs hB (by omega) R.out
   have hb:=Math.bitAt_le s (a+k)
   have HYN:Hid (topAt s a (k+1)=2*topAt s a k+bitAt s (a+k)):=rfl
   generalize bitAt s (a+k)=b at*
   have HOR:Hid (_):=or_top y b k hy hb (by omega)
   have hk0:(0:Int)≤(k:Int):=by omega
   have hk64:(k:Int)<64:=by omega
   have hkt:((k:Int)).toNat=k:=by omega
   go_wp2_with fail
   refine(HB.out ()).mono ?_
   rintro e w2 ⟨rfl,R2,M2,L2⟩
   have R3:RdI c s (a+(k+1)) v w2:=R2
   have M3:=M.out.trans M2
   have L3:=L.out.trans L2
   have HYK:Hid ((2*y+b)<2^(k+1)):=by show _<_;rw[Nat.pow_succ];omega
   go_wp2
   go_roundw
   case rel=>exact⟨k+1,(2*y+b),by omega,HYK.out,by rw[HOR.out],by go_num,by show _=_;rw[HYN.out,←HY.out],R3,M3,L3⟩
   case measure=>simp[intOf];omega
  ·obtain rfl:k=n:=by omega
   have hkI:¬(k:Int)<(k:Int):=by omega
   go_wp2
   go_ret
   exact⟨by rw[←HY.out]<;>rfl,R.out,M.out,L.out⟩

set_option maxRecDepth 100000 in
set_option maxHeartbeats 1000000 in
theorem topI_cut (B c:Nat) (s:ByteArray) (a n:Nat) (v:Value) (w:World) (hs:s.size≤100000) (hB:B≤c) (hn:n≤30) (ha0:a≤8*s.size) (ha:8*s.size<a+n) (H:RdI c s a v w):
 Calls Tryz.prog 208 #[.pointer (some ⟨c,0,none⟩),.int .i64 n] w fun e w'=>e=fault 1∧Mv c w w'∧Below B w w':=by
 have hnI:(n:Int)≤30:=by omega
 go_enter Tryz.func208,Tryz.ntmps208
 go_wp2
 go_loopw [5,7] (fun x i wr=>∃(k y:Nat),a+k≤8*s.size∧y<2^k∧x= .int .i64 y∧i= .int .i64 k∧Hid (y=topAt s a k)∧Hid (RdI c s (a+k) v wr)∧Hid (Mv c w wr)∧Hid (Below B w wr)) (fun _ i _=>n-(intOf i).toNat)
 case atStart=>exact⟨0,0,by omega,by simp,rfl,rfl,rfl,H,Mv.refl _ _,Below.refl _ _⟩
 case round=>
  obtain⟨k,y,hk,hy,rfl,rfl,HY,R,M,L⟩:=hrel
  have hkI:(k:Int)<(n:Int):=by omega
  by_cases hlt:a+k<8*s.size
  ·skip
   have HB:Hid (∀_:Unit,_):=fun _=>bitI_ok B c s (a+k) v wr hs hB (by omega) R.out
   have hb:=Math.bitAt_le s (a+k)
   have HYN:Hid (topAt s a (k+1)=2*topAt s a k+bitAt s (a+k)):=rfl
   generalize bitAt s (a+k)=b at*
   have HOR:Hid (_):=or_top y b k hy hb (by omega)
   have hk0:(0:Int)≤(k:Int):=by omega
   have hk64:(k:Int)<64:=by omega
   have hkt:((k:Int)).toNat=k:=by omega
   go_wp2_with fail
   refine(HB.out ()).mono ?_
   rintro e w2 ⟨rfl,R2,M2,L2⟩
   have R3:RdI c s (a+(k+1)) v w2:=R2
   have M3:=M.out.trans M2
   have L3:=L.out.trans L2
   have HYK:Hid ((2*y+b)<2^(k+1)):=by show _<_;rw[Nat.pow_succ];omega
   go_wp2
   go_roundw
   case rel=>exact⟨k+1,(2*y+b),by omega,HYK.out,by rw[HOR.out],by go_num,by show _=_;rw[HYN.out,←HY.out],R3,M3,L3⟩
   case measure=>simp[intOf];omega
  ·have HB:Hid (∀_:Unit,_):=fun _=>bitI_cut B c s v wr hs hB (by have:=R.out;rw[show a+k=8*s.size from by omega]at this;exact this)
   go_wp2_with fail
   refine(HB.out ()).mono ?_
   rintro e w2 ⟨rfl,M2,L2⟩
   have M3:=M.out.trans M2
   have L3:=L.out.trans L2
   go_wp2
   exact⟨rfl,rfl,M3,L3⟩

end Pk
end Go.Proofs.YtdcpjicgehdmfaaGreatDoor

/- All blocks that were there, but one, are as they were. -/
namespace Go.Proofs.YtdcpjicgehdmfaaGreatDoor
namespace Pk
open Go.ChangeShapes Go.WideShapes Go.ChangeAt Go.RowKit
set_option linter.unusedSimpArgs false
set_option linter.unusedVariables false

structure Bt (c:Nat) (w w':World):Prop where
 os:w'.os=w.os
 tape:w'.tape=w.tape
 output:w'.output=w.output
 size:w.heap.size≤w'.heap.size
 block:∀k,k<w.heap.size→k≠c→w'.heap[k]? =w.heap[k]?

theorem Bt.refl (c:Nat) (w:World):Bt c w w:=⟨rfl,rfl,rfl,Nat.le_refl _,fun _ _ _=>rfl⟩

theorem Bt.trans {c:Nat} {a b d:World} (h:Bt c a b) (g:Bt c b d):Bt c a d:=
 ⟨g.os.trans h.os,g.tape.trans h.tape,g.output.trans h.output,Nat.le_trans h.size g.size,fun k hk hc=>(g.block k (Nat.lt_of_lt_of_le hk h.size) hc).trans (h.block k hk hc)⟩

theorem Bt.of {c B:Nat} {w w':World} (M:Mv c w w') (L:Below B w w'):Bt c w w':=⟨L.os,L.tape,L.output,Nat.le_of_eq M.1.symm,fun k _ hc=>M.2 k hc⟩

theorem Bt.on {c:Nat} {w w':World} (L:Below w.heap.size w w'):Bt c w w':=⟨L.os,L.tape,L.output,L.size,fun k hk _=>L.block k hk⟩

theorem Bt.alloc {c:Nat} {a w:World} (h:Bt c a w) (o:Obj):Bt c a (w.alloc o):=h.trans (Bt.on (new_below w o))

theorem Bt.set {c:Nat} {a w:World} (h:Bt c a w) (i:Nat) (u:Value):Bt c a (w.setCell ⟨c,i,none⟩ u):=by
 have L:=(Below.refl 0 w).setCell (p:=⟨c,i,none⟩) (Nat.zero_le _) u
 refine h.trans ⟨L.os,L.tape,L.output,by rw[World.size_setCell];exact Nat.le_refl _,fun k _ hc=>Below.heap_setCell w ⟨c,i,none⟩ u k hc⟩

theorem Bt.below {c B:Nat} {w w':World} (h:Bt c w w') (hB:B≤c) (h2:B≤w.heap.size):Below B w w':=⟨h.os,h.tape,h.output,h.size,fun k hk=>h.block k (by omega) (by omega)⟩

theorem Bt.keep {c b:Nat} {w w':World} {x:Obj} (h:Bt c w w') (m:w.heap[b]? =some x) (hne:b≠c):w'.heap[b]? =some x:=(h.block b (lt_of m) hne).trans m

theorem Bt.own {c:Nat} {w w':World} {base e z n:Nat} {v:Value} {xs:List Value} (h:Bt c w w') (O:w.ownsRow base e z v n xs) (hne:v.ownBlock≠some c):w'.ownsRow base e z v n xs:=by
 obtain⟨hl,h2⟩:=O
 refine⟨hl,?_⟩
 rcases h2 with h2|⟨g',cap',cur,hv,hg,hh,h1,h3,h4,h5⟩
 ·exact Or.inl h2
 ·subst hv
  have hne2:g'≠c:=fun e=>hne (by rw[e];rfl)
  exact Or.inr ⟨g',cap',cur,rfl,hg,h.keep hh hne2,h1,h3,h4,h5⟩

theorem Bt.runs {c:Nat} {w w':World} (h:Bt c w w') (R:Runs w) (hne:5≠c):Runs w':=by
 intro i hi
 rw[World.cell?_of_block (a:=⟨5,i,none⟩) (h.block _ R.lt hne)]
 exact R i hi

theorem RdI.lt {c:Nat} {s:ByteArray} {a:Nat} {v:Value} {w:World} (h:RdI c s a v w):c<w.heap.size:=lt_of h

theorem RdI.alloc {c:Nat} {s:ByteArray} {a:Nat} {v:Value} {w:World} (h:RdI c s a v w) (o:Obj):RdI c s a v (w.alloc o):=heap_old h o

end Pk
end Go.Proofs.YtdcpjicgehdmfaaGreatDoor

/- The contract of the program's reader of a symbol. -/
namespace Go.Proofs.YtdcpjicgehdmfaaGreatDoor
namespace Pk
open Go.ChangeShapes Go.WideShapes Go.ChangeAt Go.RowKit
open Math (bitAt lowAt topAt symAt symLen)
set_option linter.unusedSimpArgs false
set_option linter.unusedVariables false

def SymEnd (s:ByteArray) (a c:Nat) (v:Value) (e:Ending) (w:World):Prop:=
 (8*s.size<a+symLen s a→e=fault 1)∧(¬8*s.size<a+symLen s a→285<symAt s a→e=fault 3)∧(¬8*s.size<a+symLen s a→¬285<symAt s a→e= .returned (.int .i64 (symAt s a:Nat))∧RdI c s (a+symLen s a) v w)

theorem Bt.drewN {c:Nat} {a w:World} (h:Bt c a w) (n:Nat):Bt c a (w.drewN n):=⟨h.os,h.tape,h.output,h.size,h.block⟩

theorem Bt.drew {c:Nat} {a w:World} (h:Bt c a w):Bt c a w.drew:=⟨h.os,h.tape,h.output,h.size,h.block⟩

theorem symLen_ge (s:ByteArray) (a:Nat):7≤symLen s a:=by unfold symLen;split<;>(try split)<;>omega

theorem sym_0 (s:ByteArray) (a:Nat) (h:topAt s a 7<24):symAt s a=256+topAt s a 7∧symLen s a=7:=by
 unfold symAt symLen
 rw[if_pos h,if_pos h]
 exact⟨rfl,rfl⟩

theorem sym_1 (s:ByteArray) (a:Nat) (h:24≤topAt s a 7) (h1:topAt s a 8<192):symAt s a=topAt s a 8-48∧symLen s a=8:=by
 unfold symAt symLen
 simp only[if_neg (show ¬topAt s a 7<24 by omega),if_pos h1,if_pos (show topAt s a 8<200 by omega)]
 exact⟨trivial,trivial⟩

theorem sym_2 (s:ByteArray) (a:Nat) (h:24≤topAt s a 7) (h1:192≤topAt s a 8) (h2:topAt s a 8<200):symAt s a=280+topAt s a 8-192∧symLen s a=8:=by
 unfold symAt symLen
 simp only[if_neg (show ¬topAt s a 7<24 by omega),if_neg (show ¬topAt s a 8<192 by omega),if_pos h2]
 exact⟨trivial,trivial⟩

theorem sym_3 (s:ByteArray) (a:Nat) (h:24≤topAt s a 7) (h2:200≤topAt s a 8):symAt s a=144+topAt s a 9-400∧symLen s a=9:=by
 unfold symAt symLen
 simp only[if_neg (show ¬topAt s a 7<24 by omega),if_neg (show ¬topAt s a 8<192 by omega),if_neg (show ¬topAt s a 8<200 by omega)]
 exact⟨trivial,trivial⟩

theorem len_8 (s:ByteArray) (a:Nat) (h:24≤topAt s a 7):8≤symLen s a:=by unfold symLen;rw[if_neg (by omega)];split<;>omega

theorem top_1 (s:ByteArray) (a:Nat):topAt s a 1=bitAt s a:=by show 2*0+bitAt s (a+0)=_;rw[Nat.add_zero];omega

theorem or_0 (x:Nat) (h:x<2^30):bits .or .i64 (IntKind.i64.wrap 0) (x:Int)=(x:Int):=by
 have e:IntKind.i64.wrap 0=((0:Nat):Int):=rfl
 rw[e,Math.bits_or_i64 0 x (by omega) (by omega),Nat.zero_or]

theorem or_s1 (s:ByteArray) (a n:Nat) (h:n≤20):bits .or .i64 (IntKind.i64.wrap ((topAt s a n:Nat)*2)) (topAt s (a+n) 1:Nat)=(topAt s a (n+1):Nat):=by
 have h2:=or_top (topAt s a n) (bitAt s (a+n)) n (Math.topAt_lt s a n) (Math.bitAt_le s (a+n)) (by omega)
 have hp:=pow_30 n (by omega)
 have hl:=Math.topAt_lt s a n
 have e:IntKind.i64.wrap (((topAt s a n:Nat):Int)*2)=((topAt s a n:Nat):Int)*2:=by rw[IntKind.wrap_i64];omega
 have e2:wrap64 (((topAt s a n:Nat):Int)*2)=((topAt s a n:Nat):Int)*2:=by unfold wrap64;omega
 rw[top_1,e,←e2,h2]
 rfl

theorem or_s2 (s:ByteArray) (a:Nat):bits .or .i64 (IntKind.i64.wrap (topAt s a 8:Nat)) (topAt s (a+8) 0:Nat)=(topAt s a 8:Nat):=by
 have h:=Math.topAt_lt s a 8
 have e:IntKind.i64.wrap (topAt s a 8:Nat)=(topAt s a 8:Nat):=by rw[IntKind.wrap_i64];omega
 rw[e,show topAt s (a+8) 0=0 from rfl,Math.bits_or_i64 _ 0 (by omega) (by omega),Nat.or_zero]

set_option maxRecDepth 100000 in
set_option maxHeartbeats 4000000 in
theorem symI_val (B c:Nat) (s:ByteArray) (a:Nat) (v:Value) (w:World) (hs:s.size≤100000) (hB:B≤c) (hB2:B≤w.heap.size) (ha:a≤8*s.size) (R:Runs w) (H:RdI c s a v w):
 Calls Tryz.prog 196 #[.pointer (some ⟨c,0,none⟩)] w fun e w'=>SymEnd s a c v e w'∧Bt c w w':=by
 have r0:=R 0 (by omega);have r1:=R 1 (by omega);have r2:=R 2 (by omega);have r3:=R 3 (by omega)
 have r4:=R 4 (by omega);have r5:=R 5 (by omega);have r6:=R 6 (by omega);have r7:=R 7 (by omega)
 have r8:=R 8 (by omega);have r9:=R 9 (by omega);have r10:=R 10 (by omega);have r11:=R 11 (by omega)
 have r12:=R 12 (by omega);have r13:=R 13 (by omega);have r14:=R 14 (by omega);have r15:=R 15 (by omega)
 simp[runVals]at r0 r1 r2 r3 r4 r5 r6 r7 r8 r9 r10 r11 r12 r13 r14 r15
 have HRF:Hid (∀W,_):=fun W=>refuse_no 3 W
 have HRY:Hid (∀W,_):=fun W=>refuse_yes 3 W
 go_enter Tryz.func196,Tryz.ntmps196
 go_wp2
 clear r0 r1 r2 r3 r4 r5 r6 r7 r8 r9 r10 r11 r12 r13 r14 r15
 go_loopw [3,4,5,10] (fun y t q i wr=>∃j:Nat,j≤3∧i= .int .i64 j∧(j=0→y= .int .i64 0∧t= .int .i64 0∧RdI c s a v wr)∧(j=1→y= .int .i64 (topAt s a 7:Nat)∧t= .int .i64 7∧RdI c s (a+7) v wr∧a+7≤8*s.size∧24≤topAt s a 7)∧(j=2→y= .int .i64 (topAt s a 8:Nat)∧t= .int .i64 8∧RdI c s (a+8) v wr∧a+8≤8*s.size∧24≤topAt s a 7∧192≤topAt s a 8)∧(j=3→y= .int .i64 (topAt s a 8:Nat)∧t= .int .i64 8∧RdI c s (a+8) v wr∧a+8≤8*s.size∧24≤topAt s a 7∧200≤topAt s a 8)∧Hid (Bt c w wr)) (fun _ _ _ i _=>4-(intOf i).toNat)
 case atStart=>exact⟨0,by omega,rfl,fun _=>⟨rfl,rfl,H⟩,fun h=>by omega,fun h=>by omega,fun h=>by omega,Bt.refl _ _⟩
 case round=>
  obtain⟨j,hj,rfl,h0,h1,h2,h3,L⟩:=hrel
  have hj4:j=0∨j=1∨j=2∨j=3:=by omega
  rcases hj4 with rfl|rfl|rfl|rfl
  ·obtain⟨rfl,rfl,R0⟩:=h0 rfl
   clear h0 h1 h2 h3
   rw[show((0:Nat):Int)=0 from rfl]
   have hix:=run_at0 wr
   have hne:wr.heap.size≠c:=fun h=>by have:=lt_of (show wr.heap[c]? =some _ from R0);omega
   have L1:=L.out.alloc (.cells #[.int .i64 256,.int .i64 279,.int .i64 7,.int .i64 0] 208)
   have mR:=heap_new wr (.cells #[.int .i64 256,.int .i64 279,.int .i64 7,.int .i64 0] 208)
   have R1:=R0.alloc (.cells #[.int .i64 256,.int .i64 279,.int .i64 7,.int .i64 0] 208)
   have HE8:Hid (topAt s a 8=2*topAt s a 7+bitAt s (a+7)):=rfl
   have HE9:Hid (topAt s a 9=2*topAt s a 8+bitAt s (a+8)):=rfl
   have hb7:=Math.bitAt_le s (a+7);have hb8:=Math.bitAt_le s (a+8)
   have hx7:=Math.topAt_lt s a 7;have hx8:=Math.topAt_lt s a 8;have hx9:=Math.topAt_lt s a 9
   have hc2:(wr.alloc (.cells #[.int .i64 256,.int .i64 279,.int .i64 7,.int .i64 0] 208)).cell? ⟨wr.heap.size,2,none⟩=some (.int .i64 7):=cell_at mR 2
   go_wp2
   generalize HW1:wr.alloc (.cells #[.int .i64 256,.int .i64 279,.int .i64 7,.int .i64 0] 208)=W1 at*
   by_cases hcut:8*s.size<a+7
   ·have HC:Hid (∀W:World,RdI c s a v W→Calls Tryz.prog 208 #[.pointer (some ⟨c,0,none⟩),.int .i64 7] W fun e w'=>e=fault 1∧Mv c W w'∧Below 0 W w'):=fun W h=>topI_cut 0 c s a 7 v W hs (Nat.zero_le _) (by omega) (by omega) hcut h
    refine wp_region_held_drew (S:=(fun w'=>w'.cell? ⟨wr.heap.size,2,none⟩=some (.int .i64 7))) (by kernel_rfl) ?_ (fun hHeld=> ?_)
    ·exact hc2
    refine wpAnyH_take (i:=0) (oi:= { dst:=some 17,op:=Op.move (Operand.tmp 3),type:=3,pos:= "l03_pack.go:340",after:= #[],guard:=none }) (v:= ?_) rfl (by kernel_rfl) (by kernel_rfl) (by kernel_rfl) (fun _ _ _ h=>h) (Or.inl ⟨by rfl,?_⟩) (by assumption) ?_
    rotate_left 1
    ·(intro wS hSw;(try dsimp only at hSw);go_simp;try (with_reducible rfl))
    (try simp only[Act.put,List.setIfInBounds_toArray,List.set_cons_zero,List.set_cons_succ])
    refine wpAnyH_take (i:=1) (oi:= { dst:=some 18,op:=Op.move (Operand.tmp 8),type:=3,pos:= "l03_pack.go:340",after:= #[],guard:=none }) (v:= ?_) rfl (by kernel_rfl) (by kernel_rfl) (by kernel_rfl) (fun _ _ _ h=>h) (Or.inl ⟨by rfl,?_⟩) (by assumption) ?_
    rotate_left 1
    ·(intro wS hSw;(try dsimp only at hSw);go_simp;try (with_reducible rfl))
    (try simp only[Act.put,List.setIfInBounds_toArray,List.set_cons_zero,List.set_cons_succ])
    refine wpAnyH_take (i:=2) (oi:= { dst:=some 19,op:=Op.binOp BinOp.shl 3 (Operand.tmp 17) (Operand.tmp 18) 3,type:=3,pos:= "l03_pack.go:340",after:= #[{ on:=0,ground:=Ground.data },{ on:=1,ground:=Ground.data }],guard:=none }) (v:= ?_) rfl (by kernel_rfl) (by kernel_rfl) (by kernel_rfl) (fun _ _ _ h=>h) (Or.inl ⟨by rfl,?_⟩) (by assumption) ?_
    rotate_left 1
    ·(intro wS hSw;(try dsimp only at hSw);go_simp;try (with_reducible rfl))
    (try simp only[Act.put,List.setIfInBounds_toArray,List.set_cons_zero,List.set_cons_succ])
    refine wpAnyH_take (i:=3) (oi:= { dst:=some 20,op:=Op.move (Operand.tmp 0),type:=201,pos:= "l03_pack.go:340",after:= #[],guard:=none }) (v:= ?_) rfl (by kernel_rfl) (by kernel_rfl) (by kernel_rfl) (fun _ _ _ h=>h) (Or.inl ⟨by rfl,?_⟩) (by assumption) ?_
    rotate_left 1
    ·(intro wS hSw;(try dsimp only at hSw);go_simp;try (with_reducible rfl))
    (try simp only[Act.put,List.setIfInBounds_toArray,List.set_cons_zero,List.set_cons_succ])
    refine wpAnyH_take (i:=4) (oi:= { dst:=some 21,op:=Op.move (Operand.tmp 8),type:=3,pos:= "l03_pack.go:340",after:= #[],guard:=none }) (v:= ?_) rfl (by kernel_rfl) (by kernel_rfl) (by kernel_rfl) (fun _ _ _ h=>h) (Or.inl ⟨by rfl,?_⟩) (by assumption) ?_
    rotate_left 1
    ·(intro wS hSw;(try dsimp only at hSw);go_simp;try (with_reducible rfl))
    (try simp only[Act.put,List.setIfInBounds_toArray,List.set_cons_zero,List.set_cons_succ])
    refine wpAnyH_take (i:=7) (oi:= { dst:=some 24,op:=Op.fieldAddr 208 (Operand.tmp 7) 2,type:=0,pos:= "l03_pack.go:340",after:= #[{ on:=9,ground:=Ground.gcOnly Departure.lateStores }],guard:=none }) (v:= ?_) rfl (by kernel_rfl) (by kernel_rfl) (by kernel_rfl) (fun _ _ _ h=>h) (Or.inl ⟨by rfl,?_⟩) (by assumption) ?_
    rotate_left 1
    ·(intro wS hSw;(try dsimp only at hSw);go_simp;try (with_reducible rfl))
    (try simp only[Act.put,List.setIfInBounds_toArray,List.set_cons_zero,List.set_cons_succ])
    refine wpAnyH_take (i:=8) (oi:= { dst:=some 25,op:=Op.load 3 (Operand.tmp 24),type:=3,pos:= "l03_pack.go:340",after:= #[{ on:=7,ground:=Ground.data },{ on:=9,ground:=Ground.gcOnly Departure.lateStores }],guard:=none }) (v:= ?_) rfl (by kernel_rfl) (by kernel_rfl) (by kernel_rfl) (fun _ _ _ h=>h) (Or.inl ⟨by rfl,?_⟩) (by assumption) ?_
    rotate_left 1
    ·(intro wS hSw;(try dsimp only at hSw);go_simp;try (with_reducible rfl))
    (try simp only[Act.put,List.setIfInBounds_toArray,List.set_cons_zero,List.set_cons_succ])
    refine wpAnyH_ready (rs:= [5]) (by kernel_rfl) (by simp) ?_
    refine AllReadyH.cons (o:= { dst:=some 22,op:=Op.call { callee:=Callee.value (Operand.func 208),args:= #[Operand.tmp 20,Operand.tmp 21],argTypes:= #[201,3] },type:=3,pos:= "l03_pack.go:340",after:= #[{ on:=3,ground:=Ground.data },{ on:=4,ground:=Ground.data }],guard:=none }) rfl (fun K hK=> ?_) AllReadyH.nil
    go_simp
    refine(HC.out W1.drew R1).mono ?_
    rintro e x1 ⟨rfl,M1,L2⟩
    have hl:=symLen_ge s a
    exact⟨rfl,⟨fun _=>rfl,fun h=>absurd (by omega) h,fun h=>absurd (by omega) h⟩,L1.drew.trans (Bt.of M1 L2)⟩
   ·have HT:Hid (∀W:World,RdI c s a v W→Calls Tryz.prog 208 #[.pointer (some ⟨c,0,none⟩),.int .i64 7] W fun e w'=>e= .returned (.int .i64 (topAt s a 7:Nat))∧RdI c s (a+7) v w'∧Mv c W w'∧Below 0 W w'):=fun W h=>topI_ok 0 c s a 7 v W hs (Nat.zero_le _) (by omega) (by omega) h
    go_region_held3 (fun w'=>w'.cell? ⟨wr.heap.size,2,none⟩=some (.int .i64 7)) (go_keep) (first
     |(go_at_call 208;refine(HT.out _ ?_).mono ?_;(first|exact R1|exact R1.drewN 1);rintro e x5 ⟨rfl,R5,M5,L5⟩;have B5:Bt c w x5:=(by first|exact L1.trans (Bt.of M5 L5)|exact L1.drew.trans (Bt.of M5 L5)|exact(L1.drewN _).trans (Bt.of M5 L5));have mR5:x5.heap[wr.heap.size]? =some (.cells #[.int .i64 256,.int .i64 279,.int .i64 7,.int .i64 0] 208):=(M5.2 _ hne).trans mR;have t5:x5.cell? ⟨wr.heap.size,2,none⟩=some (.int .i64 7):=cell_at mR5 2))
    all_goals
     have hor:=or_0 (topAt s a 7) (by omega)
     rw[hor]
     have g8:=HE8.out;have g9:=HE9.out
     have hw1:IntKind.i64.wrap ((256:Int)+(topAt s a 7:Nat))=(256:Int)+(topAt s a 7:Nat):=by rw[IntKind.wrap_i64];omega
     have hw2:IntKind.i64.wrap ((256:Int)+(topAt s a 7:Nat))=(256:Int)+(topAt s a 7:Nat):=by rw[IntKind.wrap_i64];omega
     have hen:(256:Int)+(topAt s a 7:Nat)=((256+topAt s a 7:Nat):Int):=by omega
     have HEN:Hid (_):=hen;clear hen
     have HG8:Hid (_):=g8;have HG9:Hid (_):=g9;clear g8 g9 HE8 HE9
     have c0:x5.cell? ⟨wr.heap.size,0,none⟩=some (.int .i64 256):=cell_at mR5 0
     have c1:x5.cell? ⟨wr.heap.size,1,none⟩=some (.int .i64 279):=cell_at mR5 1
     have c3:x5.cell? ⟨wr.heap.size,3,none⟩=some (.int .i64 0):=cell_at mR5 3
     have HR5:Hid (_):=R5;clear hor
     clear L1 mR R1 hc2 HT M5 L5 t5 mR5 R5 R0 hix L
     by_cases hbr:topAt s a 7<24
     ·skip
      have hsy:=sym_0 s a hbr
      have hd:((256:Int)+(topAt s a 7:Nat)≤279):=by omega
      have hq:¬((285:Int)<(256:Int)+(topAt s a 7:Nat)):=by omega
      go_wp2_with fail
      refine(HRF.out _).mono ?_
      rintro e x6 ⟨rfl,rfl⟩
      go_wp2
      go_ret
      exact⟨⟨fun h=>absurd h (by omega),fun _ h=>absurd h (by omega),fun _ _=>⟨by rw[hsy.1,←HEN.out];rfl,by rw[hsy.2];exact HR5.out⟩⟩,B5⟩
     ·have hd:¬((256:Int)+(topAt s a 7:Nat)≤279):=by omega
      go_wp2
      have R5:=HR5.out
      go_roundw
      case rel=>exact⟨1,by omega,by rfl,fun h=>by omega,fun _=>⟨rfl,rfl,R5,by omega,by omega⟩,fun h=>by omega,fun h=>by omega,B5⟩
      case measure=>simp[intOf]
  ·obtain⟨rfl,rfl,R0,ha7,h24⟩:=h1 rfl
   clear h0 h1 h2 h3
   rw[show((1:Nat):Int)=1 from rfl]
   have hix:=run_at1 wr
   have hne:wr.heap.size≠c:=fun h=>by have:=lt_of (show wr.heap[c]? =some _ from R0);omega
   have L1:=L.out.alloc (.cells #[.int .i64 0,.int .i64 143,.int .i64 8,.int .i64 48] 208)
   have mR:=heap_new wr (.cells #[.int .i64 0,.int .i64 143,.int .i64 8,.int .i64 48] 208)
   have R1:=R0.alloc (.cells #[.int .i64 0,.int .i64 143,.int .i64 8,.int .i64 48] 208)
   have HE8:Hid (topAt s a 8=2*topAt s a 7+bitAt s (a+7)):=rfl
   have HE9:Hid (topAt s a 9=2*topAt s a 8+bitAt s (a+8)):=rfl
   have hb7:=Math.bitAt_le s (a+7);have hb8:=Math.bitAt_le s (a+8)
   have hx7:=Math.topAt_lt s a 7;have hx8:=Math.topAt_lt s a 8;have hx9:=Math.topAt_lt s a 9
   have hc2:(wr.alloc (.cells #[.int .i64 0,.int .i64 143,.int .i64 8,.int .i64 48] 208)).cell? ⟨wr.heap.size,2,none⟩=some (.int .i64 8):=cell_at mR 2
   go_wp2
   generalize HW1:wr.alloc (.cells #[.int .i64 0,.int .i64 143,.int .i64 8,.int .i64 48] 208)=W1 at*
   by_cases hcut:8*s.size<(a+7)+1
   ·have HC:Hid (∀W:World,RdI c s (a+7) v W→Calls Tryz.prog 208 #[.pointer (some ⟨c,0,none⟩),.int .i64 1] W fun e w'=>e=fault 1∧Mv c W w'∧Below 0 W w'):=fun W h=>topI_cut 0 c s (a+7) 1 v W hs (Nat.zero_le _) (by omega) (by omega) hcut h
    refine wp_region_held_drew (S:=(fun w'=>w'.cell? ⟨wr.heap.size,2,none⟩=some (.int .i64 8))) (by kernel_rfl) ?_ (fun hHeld=> ?_)
    ·exact hc2
    refine wpAnyH_take (i:=0) (oi:= { dst:=some 17,op:=Op.move (Operand.tmp 3),type:=3,pos:= "l03_pack.go:340",after:= #[],guard:=none }) (v:= ?_) rfl (by kernel_rfl) (by kernel_rfl) (by kernel_rfl) (fun _ _ _ h=>h) (Or.inl ⟨by rfl,?_⟩) (by assumption) ?_
    rotate_left 1
    ·(intro wS hSw;(try dsimp only at hSw);go_simp;try (with_reducible rfl))
    (try simp only[Act.put,List.setIfInBounds_toArray,List.set_cons_zero,List.set_cons_succ])
    refine wpAnyH_take (i:=1) (oi:= { dst:=some 18,op:=Op.move (Operand.tmp 8),type:=3,pos:= "l03_pack.go:340",after:= #[],guard:=none }) (v:= ?_) rfl (by kernel_rfl) (by kernel_rfl) (by kernel_rfl) (fun _ _ _ h=>h) (Or.inl ⟨by rfl,?_⟩) (by assumption) ?_
    rotate_left 1
    ·(intro wS hSw;(try dsimp only at hSw);go_simp;try (with_reducible rfl))
    (try simp only[Act.put,List.setIfInBounds_toArray,List.set_cons_zero,List.set_cons_succ])
    refine wpAnyH_take (i:=2) (oi:= { dst:=some 19,op:=Op.binOp BinOp.shl 3 (Operand.tmp 17) (Operand.tmp 18) 3,type:=3,pos:= "l03_pack.go:340",after:= #[{ on:=0,ground:=Ground.data },{ on:=1,ground:=Ground.data }],guard:=none }) (v:= ?_) rfl (by kernel_rfl) (by kernel_rfl) (by kernel_rfl) (fun _ _ _ h=>h) (Or.inl ⟨by rfl,?_⟩) (by assumption) ?_
    rotate_left 1
    ·(intro wS hSw;(try dsimp only at hSw);go_simp;try (with_reducible rfl))
    (try simp only[Act.put,List.setIfInBounds_toArray,List.set_cons_zero,List.set_cons_succ])
    refine wpAnyH_take (i:=3) (oi:= { dst:=some 20,op:=Op.move (Operand.tmp 0),type:=201,pos:= "l03_pack.go:340",after:= #[],guard:=none }) (v:= ?_) rfl (by kernel_rfl) (by kernel_rfl) (by kernel_rfl) (fun _ _ _ h=>h) (Or.inl ⟨by rfl,?_⟩) (by assumption) ?_
    rotate_left 1
    ·(intro wS hSw;(try dsimp only at hSw);go_simp;try (with_reducible rfl))
    (try simp only[Act.put,List.setIfInBounds_toArray,List.set_cons_zero,List.set_cons_succ])
    refine wpAnyH_take (i:=4) (oi:= { dst:=some 21,op:=Op.move (Operand.tmp 8),type:=3,pos:= "l03_pack.go:340",after:= #[],guard:=none }) (v:= ?_) rfl (by kernel_rfl) (by kernel_rfl) (by kernel_rfl) (fun _ _ _ h=>h) (Or.inl ⟨by rfl,?_⟩) (by assumption) ?_
    rotate_left 1
    ·(intro wS hSw;(try dsimp only at hSw);go_simp;try (with_reducible rfl))
    (try simp only[Act.put,List.setIfInBounds_toArray,List.set_cons_zero,List.set_cons_succ])
    refine wpAnyH_take (i:=7) (oi:= { dst:=some 24,op:=Op.fieldAddr 208 (Operand.tmp 7) 2,type:=0,pos:= "l03_pack.go:340",after:= #[{ on:=9,ground:=Ground.gcOnly Departure.lateStores }],guard:=none }) (v:= ?_) rfl (by kernel_rfl) (by kernel_rfl) (by kernel_rfl) (fun _ _ _ h=>h) (Or.inl ⟨by rfl,?_⟩) (by assumption) ?_
    rotate_left 1
    ·(intro wS hSw;(try dsimp only at hSw);go_simp;try (with_reducible rfl))
    (try simp only[Act.put,List.setIfInBounds_toArray,List.set_cons_zero,List.set_cons_succ])
    refine wpAnyH_take (i:=8) (oi:= { dst:=some 25,op:=Op.load 3 (Operand.tmp 24),type:=3,pos:= "l03_pack.go:340",after:= #[{ on:=7,ground:=Ground.data },{ on:=9,ground:=Ground.gcOnly Departure.lateStores }],guard:=none }) (v:= ?_) rfl (by kernel_rfl) (by kernel_rfl) (by kernel_rfl) (fun _ _ _ h=>h) (Or.inl ⟨by rfl,?_⟩) (by assumption) ?_
    rotate_left 1
    ·(intro wS hSw;(try dsimp only at hSw);go_simp;try (with_reducible rfl))
    (try simp only[Act.put,List.setIfInBounds_toArray,List.set_cons_zero,List.set_cons_succ])
    refine wpAnyH_ready (rs:= [5]) (by kernel_rfl) (by simp) ?_
    refine AllReadyH.cons (o:= { dst:=some 22,op:=Op.call { callee:=Callee.value (Operand.func 208),args:= #[Operand.tmp 20,Operand.tmp 21],argTypes:= #[201,3] },type:=3,pos:= "l03_pack.go:340",after:= #[{ on:=3,ground:=Ground.data },{ on:=4,ground:=Ground.data }],guard:=none }) rfl (fun K hK=> ?_) AllReadyH.nil
    go_simp
    refine(HC.out W1.drew R1).mono ?_
    rintro e x1 ⟨rfl,M1,L2⟩
    have hl:=len_8 s a h24
    exact⟨rfl,⟨fun _=>rfl,fun h=>absurd (by omega) h,fun h=>absurd (by omega) h⟩,L1.drew.trans (Bt.of M1 L2)⟩
   ·have HT:Hid (∀W:World,RdI c s (a+7) v W→Calls Tryz.prog 208 #[.pointer (some ⟨c,0,none⟩),.int .i64 1] W fun e w'=>e= .returned (.int .i64 (topAt s (a+7) 1:Nat))∧RdI c s ((a+7)+1) v w'∧Mv c W w'∧Below 0 W w'):=fun W h=>topI_ok 0 c s (a+7) 1 v W hs (Nat.zero_le _) (by omega) (by omega) h
    go_region_held3 (fun w'=>w'.cell? ⟨wr.heap.size,2,none⟩=some (.int .i64 8)) (go_keep) (first
     |(go_at_call 208;refine(HT.out _ ?_).mono ?_;(first|exact R1|exact R1.drewN 1);rintro e x5 ⟨rfl,R5,M5,L5⟩;have B5:Bt c w x5:=(by first|exact L1.trans (Bt.of M5 L5)|exact L1.drew.trans (Bt.of M5 L5)|exact(L1.drewN _).trans (Bt.of M5 L5));have mR5:x5.heap[wr.heap.size]? =some (.cells #[.int .i64 0,.int .i64 143,.int .i64 8,.int .i64 48] 208):=(M5.2 _ hne).trans mR;have t5:x5.cell? ⟨wr.heap.size,2,none⟩=some (.int .i64 8):=cell_at mR5 2))
    all_goals
     have hor:=or_s1 s a 7 (by omega)
     rw[hor]
     rw[show topAt s a (7+1)=topAt s a 8 from rfl]
     have g8:=HE8.out;have g9:=HE9.out
     have hw1:IntKind.i64.wrap ((0:Int)+(topAt s a 8:Nat))=(0:Int)+(topAt s a 8:Nat):=by rw[IntKind.wrap_i64];omega
     have hw2:IntKind.i64.wrap (((topAt s a 8:Nat):Int)-48)=((topAt s a 8:Nat):Int)-48:=by rw[IntKind.wrap_i64];omega
     have hen:((topAt s a 8:Nat):Int)-48=((topAt s a 8-48:Nat):Int):=by omega
     have HEN:Hid (_):=hen;clear hen
     have HG8:Hid (_):=g8;have HG9:Hid (_):=g9;clear g8 g9 HE8 HE9
     have c0:x5.cell? ⟨wr.heap.size,0,none⟩=some (.int .i64 0):=cell_at mR5 0
     have c1:x5.cell? ⟨wr.heap.size,1,none⟩=some (.int .i64 143):=cell_at mR5 1
     have c3:x5.cell? ⟨wr.heap.size,3,none⟩=some (.int .i64 48):=cell_at mR5 3
     have HR5:Hid (_):=R5;clear hor
     clear L1 mR R1 hc2 HT M5 L5 t5 mR5 R5 R0 hix L
     by_cases hbr:topAt s a 8<192
     ·skip
      have hsy:=sym_1 s a h24 hbr
      have hd:(((topAt s a 8:Nat):Int)-48≤143):=by omega
      have hq:¬((285:Int)<((topAt s a 8:Nat):Int)-48):=by omega
      go_wp2_with fail
      refine(HRF.out _).mono ?_
      rintro e x6 ⟨rfl,rfl⟩
      go_wp2
      go_ret
      exact⟨⟨fun h=>absurd h (by omega),fun _ h=>absurd h (by omega),fun _ _=>⟨by rw[hsy.1,←HEN.out];rfl,by rw[hsy.2];exact HR5.out⟩⟩,B5⟩
     ·have hd:¬(((topAt s a 8:Nat):Int)-48≤143):=by omega
      go_wp2
      have R5:=HR5.out
      go_roundw
      case rel=>exact⟨2,by omega,by rfl,fun h=>by omega,fun h=>by omega,fun _=>⟨rfl,rfl,R5,by omega,h24,by omega⟩,fun h=>by omega,B5⟩
      case measure=>simp[intOf]
  ·obtain⟨rfl,rfl,R0,ha7,h24,h192⟩:=h2 rfl
   clear h0 h1 h2 h3
   rw[show((2:Nat):Int)=2 from rfl]
   have hix:=run_at2 wr
   have hne:wr.heap.size≠c:=fun h=>by have:=lt_of (show wr.heap[c]? =some _ from R0);omega
   have L1:=L.out.alloc (.cells #[.int .i64 280,.int .i64 287,.int .i64 8,.int .i64 192] 208)
   have mR:=heap_new wr (.cells #[.int .i64 280,.int .i64 287,.int .i64 8,.int .i64 192] 208)
   have R1:=R0.alloc (.cells #[.int .i64 280,.int .i64 287,.int .i64 8,.int .i64 192] 208)
   have HE8:Hid (topAt s a 8=2*topAt s a 7+bitAt s (a+7)):=rfl
   have HE9:Hid (topAt s a 9=2*topAt s a 8+bitAt s (a+8)):=rfl
   have hb7:=Math.bitAt_le s (a+7);have hb8:=Math.bitAt_le s (a+8)
   have hx7:=Math.topAt_lt s a 7;have hx8:=Math.topAt_lt s a 8;have hx9:=Math.topAt_lt s a 9
   have hc2:(wr.alloc (.cells #[.int .i64 280,.int .i64 287,.int .i64 8,.int .i64 192] 208)).cell? ⟨wr.heap.size,2,none⟩=some (.int .i64 8):=cell_at mR 2
   go_wp2
   generalize HW1:wr.alloc (.cells #[.int .i64 280,.int .i64 287,.int .i64 8,.int .i64 192] 208)=W1 at*
   ·have HT:Hid (∀W:World,RdI c s (a+8) v W→Calls Tryz.prog 208 #[.pointer (some ⟨c,0,none⟩),.int .i64 0] W fun e w'=>e= .returned (.int .i64 (topAt s (a+8) 0:Nat))∧RdI c s ((a+8)+0) v w'∧Mv c W w'∧Below 0 W w'):=fun W h=>topI_ok 0 c s (a+8) 0 v W hs (Nat.zero_le _) (by omega) (by omega) h
    go_region_held3 (fun w'=>w'.cell? ⟨wr.heap.size,2,none⟩=some (.int .i64 8)) (go_keep) (first
     |(go_at_call 208;refine(HT.out _ ?_).mono ?_;(first|exact R1|exact R1.drewN 1);rintro e x5 ⟨rfl,R5,M5,L5⟩;have B5:Bt c w x5:=(by first|exact L1.trans (Bt.of M5 L5)|exact L1.drew.trans (Bt.of M5 L5)|exact(L1.drewN _).trans (Bt.of M5 L5));have mR5:x5.heap[wr.heap.size]? =some (.cells #[.int .i64 280,.int .i64 287,.int .i64 8,.int .i64 192] 208):=(M5.2 _ hne).trans mR;have t5:x5.cell? ⟨wr.heap.size,2,none⟩=some (.int .i64 8):=cell_at mR5 2))
    all_goals
     have hor:=or_s2 s a
     rw[hor]
     have g8:=HE8.out;have g9:=HE9.out
     have hw1:IntKind.i64.wrap ((280:Int)+(topAt s a 8:Nat))=(280:Int)+(topAt s a 8:Nat):=by rw[IntKind.wrap_i64];omega
     have hw2:IntKind.i64.wrap ((280:Int)+(topAt s a 8:Nat)-192)=(280:Int)+(topAt s a 8:Nat)-192:=by rw[IntKind.wrap_i64];omega
     have hen:(280:Int)+(topAt s a 8:Nat)-192=((280+topAt s a 8-192:Nat):Int):=by omega
     have HEN:Hid (_):=hen;clear hen
     have HG8:Hid (_):=g8;have HG9:Hid (_):=g9;clear g8 g9 HE8 HE9
     have c0:x5.cell? ⟨wr.heap.size,0,none⟩=some (.int .i64 280):=cell_at mR5 0
     have c1:x5.cell? ⟨wr.heap.size,1,none⟩=some (.int .i64 287):=cell_at mR5 1
     have c3:x5.cell? ⟨wr.heap.size,3,none⟩=some (.int .i64 192):=cell_at mR5 3
     have HR5:Hid (_):=R5;clear hor
     clear L1 mR R1 hc2 HT M5 L5 t5 mR5 R5 R0 hix L
     by_cases hbr:topAt s a 8<200
     ·skip
      have hsy:=sym_2 s a h24 h192 hbr
      have hd:((280:Int)+(topAt s a 8:Nat)-192≤287):=by omega
      by_cases h285:285<280+topAt s a 8-192
      ·have hq:((285:Int)<(280:Int)+(topAt s a 8:Nat)-192):=by omega
       go_wp2_with fail
       refine(HRY.out _).mono ?_
       rintro e x6 ⟨rfl,rfl⟩
       exact⟨rfl,⟨fun h=>absurd h (by omega),fun _ _=>rfl,fun _ h=>absurd (by omega) h⟩,B5⟩
      ·skip
       have hq:¬((285:Int)<(280:Int)+(topAt s a 8:Nat)-192):=by omega
       go_wp2_with fail
       refine(HRF.out _).mono ?_
       rintro e x6 ⟨rfl,rfl⟩
       go_wp2
       go_ret
       exact⟨⟨fun h=>absurd h (by omega),fun _ h=>absurd h (by omega),fun _ _=>⟨by rw[hsy.1,←HEN.out];rfl,by rw[hsy.2];exact HR5.out⟩⟩,B5⟩
     ·have hd:¬((280:Int)+(topAt s a 8:Nat)-192≤287):=by omega
      go_wp2
      have R5:=HR5.out
      go_roundw
      case rel=>exact⟨3,by omega,by rfl,fun h=>by omega,fun h=>by omega,fun h=>by omega,fun _=>⟨rfl,rfl,R5,by omega,h24,by omega⟩,B5⟩
      case measure=>simp[intOf]
  ·obtain⟨rfl,rfl,R0,ha7,h24,h200⟩:=h3 rfl
   clear h0 h1 h2 h3
   rw[show((3:Nat):Int)=3 from rfl]
   have hix:=run_at3 wr
   have hne:wr.heap.size≠c:=fun h=>by have:=lt_of (show wr.heap[c]? =some _ from R0);omega
   have L1:=L.out.alloc (.cells #[.int .i64 144,.int .i64 255,.int .i64 9,.int .i64 400] 208)
   have mR:=heap_new wr (.cells #[.int .i64 144,.int .i64 255,.int .i64 9,.int .i64 400] 208)
   have R1:=R0.alloc (.cells #[.int .i64 144,.int .i64 255,.int .i64 9,.int .i64 400] 208)
   have HE8:Hid (topAt s a 8=2*topAt s a 7+bitAt s (a+7)):=rfl
   have HE9:Hid (topAt s a 9=2*topAt s a 8+bitAt s (a+8)):=rfl
   have hb7:=Math.bitAt_le s (a+7);have hb8:=Math.bitAt_le s (a+8)
   have hx7:=Math.topAt_lt s a 7;have hx8:=Math.topAt_lt s a 8;have hx9:=Math.topAt_lt s a 9
   have hc2:(wr.alloc (.cells #[.int .i64 144,.int .i64 255,.int .i64 9,.int .i64 400] 208)).cell? ⟨wr.heap.size,2,none⟩=some (.int .i64 9):=cell_at mR 2
   go_wp2
   generalize HW1:wr.alloc (.cells #[.int .i64 144,.int .i64 255,.int .i64 9,.int .i64 400] 208)=W1 at*
   by_cases hcut:8*s.size<(a+8)+1
   ·have HC:Hid (∀W:World,RdI c s (a+8) v W→Calls Tryz.prog 208 #[.pointer (some ⟨c,0,none⟩),.int .i64 1] W fun e w'=>e=fault 1∧Mv c W w'∧Below 0 W w'):=fun W h=>topI_cut 0 c s (a+8) 1 v W hs (Nat.zero_le _) (by omega) (by omega) hcut h
    refine wp_region_held_drew (S:=(fun w'=>w'.cell? ⟨wr.heap.size,2,none⟩=some (.int .i64 9))) (by kernel_rfl) ?_ (fun hHeld=> ?_)
    ·exact hc2
    refine wpAnyH_take (i:=0) (oi:= { dst:=some 17,op:=Op.move (Operand.tmp 3),type:=3,pos:= "l03_pack.go:340",after:= #[],guard:=none }) (v:= ?_) rfl (by kernel_rfl) (by kernel_rfl) (by kernel_rfl) (fun _ _ _ h=>h) (Or.inl ⟨by rfl,?_⟩) (by assumption) ?_
    rotate_left 1
    ·(intro wS hSw;(try dsimp only at hSw);go_simp;try (with_reducible rfl))
    (try simp only[Act.put,List.setIfInBounds_toArray,List.set_cons_zero,List.set_cons_succ])
    refine wpAnyH_take (i:=1) (oi:= { dst:=some 18,op:=Op.move (Operand.tmp 8),type:=3,pos:= "l03_pack.go:340",after:= #[],guard:=none }) (v:= ?_) rfl (by kernel_rfl) (by kernel_rfl) (by kernel_rfl) (fun _ _ _ h=>h) (Or.inl ⟨by rfl,?_⟩) (by assumption) ?_
    rotate_left 1
    ·(intro wS hSw;(try dsimp only at hSw);go_simp;try (with_reducible rfl))
    (try simp only[Act.put,List.setIfInBounds_toArray,List.set_cons_zero,List.set_cons_succ])
    refine wpAnyH_take (i:=2) (oi:= { dst:=some 19,op:=Op.binOp BinOp.shl 3 (Operand.tmp 17) (Operand.tmp 18) 3,type:=3,pos:= "l03_pack.go:340",after:= #[{ on:=0,ground:=Ground.data },{ on:=1,ground:=Ground.data }],guard:=none }) (v:= ?_) rfl (by kernel_rfl) (by kernel_rfl) (by kernel_rfl) (fun _ _ _ h=>h) (Or.inl ⟨by rfl,?_⟩) (by assumption) ?_
    rotate_left 1
    ·(intro wS hSw;(try dsimp only at hSw);go_simp;try (with_reducible rfl))
    (try simp only[Act.put,List.setIfInBounds_toArray,List.set_cons_zero,List.set_cons_succ])
    refine wpAnyH_take (i:=3) (oi:= { dst:=some 20,op:=Op.move (Operand.tmp 0),type:=201,pos:= "l03_pack.go:340",after:= #[],guard:=none }) (v:= ?_) rfl (by kernel_rfl) (by kernel_rfl) (by kernel_rfl) (fun _ _ _ h=>h) (Or.inl ⟨by rfl,?_⟩) (by assumption) ?_
    rotate_left 1
    ·(intro wS hSw;(try dsimp only at hSw);go_simp;try (with_reducible rfl))
    (try simp only[Act.put,List.setIfInBounds_toArray,List.set_cons_zero,List.set_cons_succ])
    refine wpAnyH_take (i:=4) (oi:= { dst:=some 21,op:=Op.move (Operand.tmp 8),type:=3,pos:= "l03_pack.go:340",after:= #[],guard:=none }) (v:= ?_) rfl (by kernel_rfl) (by kernel_rfl) (by kernel_rfl) (fun _ _ _ h=>h) (Or.inl ⟨by rfl,?_⟩) (by assumption) ?_
    rotate_left 1
    ·(intro wS hSw;(try dsimp only at hSw);go_simp;try (with_reducible rfl))
    (try simp only[Act.put,List.setIfInBounds_toArray,List.set_cons_zero,List.set_cons_succ])
    refine wpAnyH_take (i:=7) (oi:= { dst:=some 24,op:=Op.fieldAddr 208 (Operand.tmp 7) 2,type:=0,pos:= "l03_pack.go:340",after:= #[{ on:=9,ground:=Ground.gcOnly Departure.lateStores }],guard:=none }) (v:= ?_) rfl (by kernel_rfl) (by kernel_rfl) (by kernel_rfl) (fun _ _ _ h=>h) (Or.inl ⟨by rfl,?_⟩) (by assumption) ?_
    rotate_left 1
    ·(intro wS hSw;(try dsimp only at hSw);go_simp;try (with_reducible rfl))
    (try simp only[Act.put,List.setIfInBounds_toArray,List.set_cons_zero,List.set_cons_succ])
    refine wpAnyH_take (i:=8) (oi:= { dst:=some 25,op:=Op.load 3 (Operand.tmp 24),type:=3,pos:= "l03_pack.go:340",after:= #[{ on:=7,ground:=Ground.data },{ on:=9,ground:=Ground.gcOnly Departure.lateStores }],guard:=none }) (v:= ?_) rfl (by kernel_rfl) (by kernel_rfl) (by kernel_rfl) (fun _ _ _ h=>h) (Or.inl ⟨by rfl,?_⟩) (by assumption) ?_
    rotate_left 1
    ·(intro wS hSw;(try dsimp only at hSw);go_simp;try (with_reducible rfl))
    (try simp only[Act.put,List.setIfInBounds_toArray,List.set_cons_zero,List.set_cons_succ])
    refine wpAnyH_ready (rs:= [5]) (by kernel_rfl) (by simp) ?_
    refine AllReadyH.cons (o:= { dst:=some 22,op:=Op.call { callee:=Callee.value (Operand.func 208),args:= #[Operand.tmp 20,Operand.tmp 21],argTypes:= #[201,3] },type:=3,pos:= "l03_pack.go:340",after:= #[{ on:=3,ground:=Ground.data },{ on:=4,ground:=Ground.data }],guard:=none }) rfl (fun K hK=> ?_) AllReadyH.nil
    go_simp
    refine(HC.out W1.drew R1).mono ?_
    rintro e x1 ⟨rfl,M1,L2⟩
    have hl:=(sym_3 s a h24 h200).2
    exact⟨rfl,⟨fun _=>rfl,fun h=>absurd (by omega) h,fun h=>absurd (by omega) h⟩,L1.drew.trans (Bt.of M1 L2)⟩
   ·have HT:Hid (∀W:World,RdI c s (a+8) v W→Calls Tryz.prog 208 #[.pointer (some ⟨c,0,none⟩),.int .i64 1] W fun e w'=>e= .returned (.int .i64 (topAt s (a+8) 1:Nat))∧RdI c s ((a+8)+1) v w'∧Mv c W w'∧Below 0 W w'):=fun W h=>topI_ok 0 c s (a+8) 1 v W hs (Nat.zero_le _) (by omega) (by omega) h
    go_region_held3 (fun w'=>w'.cell? ⟨wr.heap.size,2,none⟩=some (.int .i64 9)) (go_keep) (first
     |(go_at_call 208;refine(HT.out _ ?_).mono ?_;(first|exact R1|exact R1.drewN 1);rintro e x5 ⟨rfl,R5,M5,L5⟩;have B5:Bt c w x5:=(by first|exact L1.trans (Bt.of M5 L5)|exact L1.drew.trans (Bt.of M5 L5)|exact(L1.drewN _).trans (Bt.of M5 L5));have mR5:x5.heap[wr.heap.size]? =some (.cells #[.int .i64 144,.int .i64 255,.int .i64 9,.int .i64 400] 208):=(M5.2 _ hne).trans mR;have t5:x5.cell? ⟨wr.heap.size,2,none⟩=some (.int .i64 9):=cell_at mR5 2))
    all_goals
     have hor:=or_s1 s a 8 (by omega)
     rw[hor]
     rw[show topAt s a (8+1)=topAt s a 9 from rfl]
     have g8:=HE8.out;have g9:=HE9.out
     have hw1:IntKind.i64.wrap ((144:Int)+(topAt s a 9:Nat))=(144:Int)+(topAt s a 9:Nat):=by rw[IntKind.wrap_i64];omega
     have hw2:IntKind.i64.wrap ((144:Int)+(topAt s a 9:Nat)-400)=(144:Int)+(topAt s a 9:Nat)-400:=by rw[IntKind.wrap_i64];omega
     have hen:(144:Int)+(topAt s a 9:Nat)-400=((144+topAt s a 9-400:Nat):Int):=by omega
     have HEN:Hid (_):=hen;clear hen
     have HG8:Hid (_):=g8;have HG9:Hid (_):=g9;clear g8 g9 HE8 HE9
     have c0:x5.cell? ⟨wr.heap.size,0,none⟩=some (.int .i64 144):=cell_at mR5 0
     have c1:x5.cell? ⟨wr.heap.size,1,none⟩=some (.int .i64 255):=cell_at mR5 1
     have c3:x5.cell? ⟨wr.heap.size,3,none⟩=some (.int .i64 400):=cell_at mR5 3
     have HR5:Hid (_):=R5;clear hor
     clear L1 mR R1 hc2 HT M5 L5 t5 mR5 R5 R0 hix L
     have hsy:=sym_3 s a h24 h200
     have hd:((144:Int)+(topAt s a 9:Nat)-400≤255):=by omega
     have hq:¬((285:Int)<(144:Int)+(topAt s a 9:Nat)-400):=by omega
     go_wp2_with fail
     refine(HRF.out _).mono ?_
     rintro e x6 ⟨rfl,rfl⟩
     go_wp2
     go_ret
     exact⟨⟨fun h=>absurd h (by omega),fun _ h=>absurd h (by omega),fun _ _=>⟨by rw[hsy.1,←HEN.out];rfl,by rw[hsy.2];exact HR5.out⟩⟩,B5⟩

end Pk
end Go.Proofs.YtdcpjicgehdmfaaGreatDoor

/- The contract of the program's leastOf. -/
namespace Go.Proofs.YtdcpjicgehdmfaaGreatDoor
namespace Pk
open Go.ChangeShapes Go.WideShapes Go.ChangeAt Go.RowKit
set_option linter.unusedSimpArgs false
set_option linter.unusedVariables false

set_option maxRecDepth 100000 in
set_option maxHeartbeats 4000000 in
theorem least1_val (k:Nat) (w:World) (hk:k<30):
 Calls Tryz.prog 209 #[.int .i64 k,.int .i64 1] w fun e w'=>e= .returned (ii2 (Math.cleast 2 k:Nat) (Math.cbits 2 k:Nat))∧w'=w:=by
 have h:k=0∨k=1∨k=2∨k=3∨k=4∨k=5∨k=6∨k=7∨k=8∨k=9∨k=10∨k=11∨k=12∨k=13∨k=14∨k=15∨k=16∨k=17∨k=18∨k=19∨k=20∨k=21∨k=22∨k=23∨k=24∨k=25∨k=26∨k=27∨k=28∨k=29:=by omega
 rcases h with rfl|rfl|rfl|rfl|rfl|rfl|rfl|rfl|rfl|rfl|rfl|rfl|rfl|rfl|rfl|rfl|rfl|rfl|rfl|rfl|rfl|rfl|rfl|rfl|rfl|rfl|rfl|rfl|rfl|rfl
 all_goals
  go_enter Tryz.func209,Tryz.ntmps209
  go_wp2
  go_ret2
  exact⟨by kernel_rfl,rfl⟩

set_option maxRecDepth 100000 in
set_option maxHeartbeats 4000000 in
theorem least2_val (k:Nat) (w:World) (hk:k<28):
 Calls Tryz.prog 209 #[.int .i64 k,.int .i64 2] w fun e w'=>e= .returned (ii2 (Math.cleast 4 k:Nat) (Math.cbits 4 k:Nat))∧w'=w:=by
 have h:k=0∨k=1∨k=2∨k=3∨k=4∨k=5∨k=6∨k=7∨k=8∨k=9∨k=10∨k=11∨k=12∨k=13∨k=14∨k=15∨k=16∨k=17∨k=18∨k=19∨k=20∨k=21∨k=22∨k=23∨k=24∨k=25∨k=26∨k=27:=by omega
 rcases h with rfl|rfl|rfl|rfl|rfl|rfl|rfl|rfl|rfl|rfl|rfl|rfl|rfl|rfl|rfl|rfl|rfl|rfl|rfl|rfl|rfl|rfl|rfl|rfl|rfl|rfl|rfl|rfl
 all_goals
  go_enter Tryz.func209,Tryz.ntmps209
  go_wp2
  go_ret2
  exact⟨by kernel_rfl,rfl⟩

end Pk
end Go.Proofs.YtdcpjicgehdmfaaGreatDoor

/- The program's readers of a copy's length and of its way back, of a stored block's length; its bound. -/
namespace Go.Proofs.YtdcpjicgehdmfaaGreatDoor
namespace Pk
open Go.ChangeShapes Go.WideShapes Go.ChangeAt Go.RowKit
open Math (bitAt lowAt topAt symAt symLen lenBits lenTold backTold cleast cbits storedC)
set_option linter.unusedSimpArgs false
set_option linter.unusedVariables false

set_option maxRecDepth 100000 in
set_option maxHeartbeats 1000000 in
theorem lenI_val (c:Nat) (s:ByteArray) (a y:Nat) (v:Value) (w:World) (hs:s.size≤100000) (ha:a≤8*s.size) (h1:257≤y) (h2:y≤285) (H:RdI c s a v w):
 Calls Tryz.prog 198 #[.pointer (some ⟨c,0,none⟩),.int .i64 y] w fun e w'=>((8*s.size<a+lenBits y→e=fault 1)∧(¬8*s.size<a+lenBits y→e= .returned (.int .i64 (lenTold s a y:Nat))∧RdI c s (a+lenBits y) v w'))∧Bt c w w':=by
 by_cases hy:y=285
 ·subst hy
  have e1:lenBits 285=0:=rfl
  have e2:lenTold s a 285=258:=if_pos rfl
  rw[e1,e2]
  go_enter Tryz.func198,Tryz.ntmps198
  go_wp2
  go_ret
  exact⟨⟨fun h=>absurd h (by omega),fun _=>⟨rfl,H⟩⟩,Bt.refl _ _⟩
 ·obtain⟨k,rfl⟩:∃k,y=257+k:=⟨y-257,by omega⟩
  have hk:k<28:=by omega
  have e1:lenBits (257+k)=cbits 4 k:=by unfold lenBits;rw[if_neg hy,Nat.add_sub_cancel_left]
  have e2:lenTold s a (257+k)=cleast 4 k+3+lowAt s a (cbits 4 k):=by unfold lenTold;rw[if_neg hy,Nat.add_sub_cancel_left]
  obtain⟨g1,_,_,g4⟩:=len_there k hk
  have HL:Hid (∀W:World,Calls Tryz.prog 209 #[.int .i64 k,.int .i64 2] W fun e w'=>e= .returned (.tuple #[.int .i64 (cleast 4 k:Nat),.int .i64 (cbits 4 k:Nat)])∧w'=W):=fun W=>least2_val k W hk
  rw[e1,e2]
  clear e1 e2
  have hb:=Math.lowAt_lt s a (cbits 4 k)
  have hp:2^cbits 4 k≤2^5:=Nat.pow_le_pow_right (by omega) g4
  generalize cleast 4 k=C at*
  generalize cbits 4 k=N at*
  have HC:Hid (8*s.size<a+N→_):=fun h=>lowI_cut 0 c s a N v w hs (Nat.zero_le _) (by omega) ha h H
  have HO:Hid (a+N≤8*s.size→_):=fun h=>lowI_ok 0 c s a N v w hs (Nat.zero_le _) (by omega) h H
  have hyi:¬((257+k:Nat):Int)=285:=by omega
  have hki:((257+k:Nat):Int)-257=(k:Int):=by omega
  generalize lowAt s a N=Z at*
  have hz:Z<32:=by omega
  clear hb hp hy
  generalize 257+k=y at*
  go_enter Tryz.func198,Tryz.ntmps198
  go_wp2_with fail
  refine(HL.out _).mono ?_
  rintro e x1 ⟨rfl,rfl⟩
  by_cases hcut:8*s.size<a+N
  ·have HX:Hid (_):=HC.out hcut
   clear HC HO
   go_wp2_with fail
   refine Calls.mono HX.out ?_
   rintro e x2 ⟨rfl,M,L⟩
   exact⟨rfl,⟨fun _=>rfl,fun h=>absurd hcut h⟩,Bt.of M L⟩
  ·have HX:Hid (_):=HO.out (by omega)
   clear HC HO
   go_wp2_with fail
   refine Calls.mono HX.out ?_
   rintro e x2 ⟨rfl,R,M,L⟩
   have hw:IntKind.i64.wrap (3+(C:Int)+(Z:Int))=((C+3+Z:Nat):Int):=by rw[IntKind.wrap_i64];omega
   have HR:Hid (_):=R
   clear R
   go_wp2
   go_ret
   exact⟨⟨fun h=>absurd h hcut,fun _=>⟨by go_num,HR.out⟩⟩,Bt.of M L⟩

set_option maxRecDepth 100000 in
set_option maxHeartbeats 1000000 in
theorem backI_val (c:Nat) (s:ByteArray) (a:Nat) (v:Value) (w:World) (hs:s.size≤100000) (ha:a≤8*s.size) (H:RdI c s a v w):
 Calls Tryz.prog 199 #[.pointer (some ⟨c,0,none⟩)] w fun e w'=>((8*s.size<a+5→e=fault 1)∧(¬8*s.size<a+5→29<topAt s a 5→e=fault 3)∧(¬8*s.size<a+5→¬29<topAt s a 5→8*s.size<a+5+cbits 2 (topAt s a 5)→e=fault 1)∧(¬8*s.size<a+5→¬29<topAt s a 5→¬8*s.size<a+5+cbits 2 (topAt s a 5)→e= .returned (.int .i64 (backTold s (a+5) (topAt s a 5):Nat))∧RdI c s (a+5+cbits 2 (topAt s a 5)) v w'))∧Bt c w w':=by
 have ht:=Math.topAt_lt s a 5
 have HRF:Hid (∀W:World,_):=fun W=>refuse_no 3 W
 have HRY:Hid (∀W:World,_):=fun W=>refuse_yes 3 W
 by_cases h5:8*s.size<a+5
 ·have HC:Hid (Calls Tryz.prog 208 #[.pointer (some ⟨c,0,none⟩),.int .i64 5] w fun e w'=>e=fault 1∧Mv c w w'∧Below 0 w w'):=topI_cut 0 c s a 5 v w hs (Nat.zero_le _) (by omega) ha h5 H
  go_enter Tryz.func199,Tryz.ntmps199
  go_wp2_with fail
  refine Calls.mono HC.out ?_
  rintro e x2 ⟨rfl,M,L⟩
  exact⟨rfl,⟨fun _=>rfl,fun h=>absurd h5 h,fun h=>absurd h5 h,fun h=>absurd h5 h⟩,Bt.of M L⟩
 ·have HT:Hid (Calls Tryz.prog 208 #[.pointer (some ⟨c,0,none⟩),.int .i64 5] w fun e w'=>e= .returned (.int .i64 (topAt s a 5:Nat))∧RdI c s (a+5) v w'∧Mv c w w'∧Below 0 w w'):=topI_ok 0 c s a 5 v w hs (Nat.zero_le _) (by omega) (by omega) H
  generalize topAt s a 5=k at*
  by_cases h29:29<k
  ·have hq:(29:Int)<(k:Int):=by omega
   go_enter Tryz.func199,Tryz.ntmps199
   go_wp2_with fail
   refine Calls.mono HT.out ?_
   rintro e w2 ⟨rfl,R2,M2,L2⟩
   have B2:=Bt.of M2 L2
   clear HT M2 L2
   go_wp2_with fail
   refine(HRY.out _).mono ?_
   rintro e x6 ⟨rfl,rfl⟩
   exact⟨rfl,⟨fun h=>absurd h h5,fun _ _=>rfl,fun _ h=>absurd h29 h,fun _ h=>absurd h29 h⟩,B2⟩
  ·have hq:¬(29:Int)<(k:Int):=by omega
   obtain⟨g1,g4⟩:=Math.back_bds k (by omega)
   have HL:Hid (∀W:World,Calls Tryz.prog 209 #[.int .i64 k,.int .i64 1] W fun e w'=>e= .returned (.tuple #[.int .i64 (cleast 2 k:Nat),.int .i64 (cbits 2 k:Nat)])∧w'=W):=fun W=>least1_val k W (by omega)
   have e2:backTold s (a+5) k=cleast 2 k+1+lowAt s (a+5) (cbits 2 k):=rfl
   rw[e2]
   clear e2
   have hb:=Math.lowAt_lt s (a+5) (cbits 2 k)
   have hp:2^cbits 2 k≤2^13:=Nat.pow_le_pow_right (by omega) g4
   generalize cleast 2 k=C at*
   generalize cbits 2 k=N at*
   have HC:Hid (∀W:World,RdI c s (a+5) v W→8*s.size<a+5+N→_):=fun W R h=>lowI_cut 0 c s (a+5) N v W hs (Nat.zero_le _) (by omega) (by omega) h R
   have HO:Hid (∀W:World,RdI c s (a+5) v W→a+5+N≤8*s.size→_):=fun W R h=>lowI_ok 0 c s (a+5) N v W hs (Nat.zero_le _) (by omega) h R
   generalize lowAt s (a+5) N=Z at*
   have hz:Z<8192:=by omega
   clear hb hp
   go_enter Tryz.func199,Tryz.ntmps199
   go_wp2_with fail
   refine Calls.mono HT.out ?_
   rintro e w2 ⟨rfl,R2,M2,L2⟩
   have B2:=Bt.of M2 L2
   clear HT M2 L2
   have hq2:decide ((29:Int)<(k:Int))=false:=decide_eq_false (by omega)
   clear hq
   go_wp2_with fail
   refine(HRF.out _).mono ?_
   rintro e x6 ⟨rfl,rfl⟩
   go_wp2_with fail
   refine(HL.out _).mono ?_
   rintro e x1 ⟨rfl,rfl⟩
   by_cases hcut:8*s.size<a+5+N
   ·have HX:Hid (_):=HC.out _ R2 hcut
    clear HC HO
    go_wp2_with fail
    refine Calls.mono HX.out ?_
    rintro e x2 ⟨rfl,M,L⟩
    exact⟨rfl,⟨fun h=>absurd h h5,fun _ h=>absurd h h29,fun _ _ _=>rfl,fun _ _ h=>absurd hcut h⟩,B2.trans (Bt.of M L)⟩
   ·have HX:Hid (_):=HO.out _ R2 (by omega)
    clear HC HO
    go_wp2_with fail
    refine Calls.mono HX.out ?_
    rintro e x2 ⟨rfl,R,M,L⟩
    have HR:Hid (_):=R
    have HB:Hid (_):=B2.trans (Bt.of M L)
    clear R R2 B2 M L
    go_wp2
    go_ret
    exact⟨⟨fun h=>absurd h h5,fun _ h=>absurd h h29,fun _ _ h=>absurd h hcut,fun _ _ _=>⟨by go_num,HR.out⟩⟩,HB.out⟩

set_option maxRecDepth 100000 in
set_option maxHeartbeats 1000000 in
theorem beyond_val (c:Nat) (s:ByteArray) (a L n:Nat) (p:Option Addr) (k:Nat) (w:World) (hL:L≤100000) (hn:n≤100000) (H:RdI c s a (.slice p L k) w):
 Calls Tryz.prog 197 #[.pointer (some ⟨c,0,none⟩),.int .i64 n] w fun e w'=>((3000<L+n→e=fault 5)∧(¬3000<L+n→e= .returned (.tuple #[])))∧w'=w:=by
 have m:w.heap[c]? =some (.cells #[.string s,.int .i64 (a:Int),.slice p L k] 194):=H
 have c2:w.cell? ⟨c,2,none⟩=some (.slice p L k):=cell_at m 2
 have HRF:Hid (∀W:World,_):=fun W=>refuse_no 5 W
 have HRY:Hid (∀W:World,_):=fun W=>refuse_yes 5 W
 have hw:IntKind.i64.wrap ((L:Int)+(n:Int))=(L:Int)+(n:Int):=by rw[IntKind.wrap_i64];omega
 clear m H
 by_cases h:3000<L+n
 ·have hq:(3000:Int)<(L:Int)+(n:Int):=by omega
  go_enter Tryz.func197,Tryz.ntmps197
  go_wp2_with fail
  refine(HRY.out _).mono ?_
  rintro e x6 ⟨rfl,rfl⟩
  exact⟨rfl,⟨fun _=>rfl,fun g=>absurd h g⟩,rfl⟩
 ·have hq:¬(3000:Int)<(L:Int)+(n:Int):=by omega
  go_enter Tryz.func197,Tryz.ntmps197
  go_wp2_with fail
  refine(HRF.out _).mono ?_
  rintro e x6 ⟨rfl,rfl⟩
  go_wp2
  exact⟨rfl,_,results_none rfl _ _ _,⟨fun g=>absurd g h,fun _=>rfl⟩,rfl⟩

theorem xor_all (n:Nat) (h:n<65536):n^^^65535=65535-n:=by
 have h1:(BitVec.ofNat 16 n^^^BitVec.allOnes 16).toNat=(~~~ BitVec.ofNat 16 n).toNat:=by rw[BitVec.xor_allOnes]
 rw[BitVec.toNat_xor,BitVec.toNat_not,BitVec.toNat_allOnes,BitVec.toNat_ofNat,Nat.mod_eq_of_lt (by omega)]at h1
 exact h1

theorem xor_i (n:Nat) (h:n<65536):bits BinOp.xor IntKind.i64 (n:Int) 65535=((65535-n:Nat):Int):=by
 have h2:=Math.bits_xor_i64 n 65535 (by omega) (by omega)
 rw[xor_all n h]at h2
 exact h2

def StoEnd (s:ByteArray) (c:Nat) (v:Value) (e:Ending) (w:World):Prop:=
 (s.size<5→e=fault 1)∧(¬s.size<5→lowAt s 8 16+lowAt s 24 16≠65535→e=fault 3)∧(¬s.size<5→¬lowAt s 8 16+lowAt s 24 16≠65535→3000<lowAt s 8 16→e=fault 5)∧(¬s.size<5→¬lowAt s 8 16+lowAt s 24 16≠65535→¬3000<lowAt s 8 16→e= .returned (.int .i64 (lowAt s 8 16:Nat))∧RdI c s 40 v w)

set_option maxRecDepth 100000 in
set_option maxHeartbeats 1000000 in
theorem stoI_val (c:Nat) (s:ByteArray) (a:Nat) (p:Option Addr) (k:Nat) (w:World) (hs1:1≤s.size) (hs:s.size≤100000) (H:RdI c s a (.slice p 0 k) w):
 Calls Tryz.prog 201 #[.pointer (some ⟨c,0,none⟩)] w fun e w'=>StoEnd s c (.slice p 0 k) e w'∧Bt c w w':=by
 unfold StoEnd
 have m:w.heap[c]? =some (.cells #[.string s,.int .i64 (a:Int),.slice p 0 k] 194):=H
 have f1:=frozen_at m 1
 have c1:w.cell? ⟨c,1,none⟩=some (.int .i64 (a:Int)):=cell_at m 1
 have HRF:Hid (∀W:World,_):=fun W=>refuse_no 3 W
 have HRY:Hid (∀W:World,_):=fun W=>refuse_yes 3 W
 have R1:RdI c s 8 (.slice p 0 k) (w.setCell ⟨c,1,none⟩ (.int .i64 8)):=hp_set (w:=w) (i:=1) m (.int .i64 8)
 have B1:=(Bt.refl c w).set 1 (.int .i64 8)
 have hl1:=Math.lowAt_lt s 8 16
 have hl2:=Math.lowAt_lt s 24 16
 have HC:Hid (∀(W:World) (b:Nat),RdI c s b (.slice p 0 k) W→b≤8*s.size→8*s.size<b+16→Calls Tryz.prog 195 #[.pointer (some ⟨c,0,none⟩),.int .i64 16] W fun e w'=>e=fault 1∧Mv c W w'∧Below 0 W w'):=fun W b R g h=>lowI_cut 0 c s b 16 _ W hs (Nat.zero_le _) (by omega) g h R
 have HO:Hid (∀(W:World) (b:Nat),RdI c s b (.slice p 0 k) W→b+16≤8*s.size→Calls Tryz.prog 195 #[.pointer (some ⟨c,0,none⟩),.int .i64 16] W fun e w'=>e= .returned (.int .i64 (lowAt s b 16:Nat))∧RdI c s (b+16) (.slice p 0 k) w'∧Mv c W w'∧Below 0 W w'):=fun W b R h=>lowI_ok 0 c s b 16 _ W hs (Nat.zero_le _) (by omega) h R
 by_cases h3:s.size<3
 ·have HX:Hid (_):=HC.out _ 8 R1 (by omega) (by omega)
  clear HC HO R1
  go_enter Tryz.func201,Tryz.ntmps201
  go_wp2_with fail
  refine Calls.mono HX.out ?_
  rintro e x2 ⟨rfl,M,L⟩
  exact⟨rfl,⟨fun _=>rfl,fun h=>absurd (by omega) h,fun h=>absurd (by omega) h,fun h=>absurd (by omega) h⟩,B1.trans (Bt.of M L)⟩
 ·have HX:Hid (_):=HO.out _ 8 R1 (by omega)
  have HBY:Hid (∀(W:World) (n:Nat),n≤100000→RdI c s 40 (.slice p 0 k) W→Calls Tryz.prog 197 #[.pointer (some ⟨c,0,none⟩),.int .i64 n] W fun e w'=>((3000<0+n→e=fault 5)∧(¬3000<0+n→e= .returned (.tuple #[])))∧w'=W):=fun W n hn R=>beyond_val c s 40 0 n p k W (by omega) hn R
  have HX2:Hid (∀W,_):=fun W=>HO.out W 24
  have HX3:Hid (∀W,_):=fun W=>HC.out W 24
  clear HC HO R1
  have hxo:=xor_i (lowAt s 24 16) (by omega)
  generalize lowAt s 8 16=n at*
  generalize lowAt s 24 16=z at*
  go_enter Tryz.func201,Tryz.ntmps201
  go_wp2_with fail
  refine Calls.mono HX.out ?_
  rintro e w2 ⟨rfl,R2,M2,L2⟩
  have B2:=B1.trans (Bt.of M2 L2)
  clear HX M2 L2 B1
  by_cases h5:s.size<5
  ·have HY:Hid (_):=HX3.out w2 R2 (by omega) (by omega)
   clear HX2 HX3 R2
   go_wp2_with fail
   refine Calls.mono HY.out ?_
   rintro e x2 ⟨rfl,M,L⟩
   exact⟨rfl,⟨fun _=>rfl,fun h=>absurd h5 h,fun h=>absurd h5 h,fun h=>absurd h5 h⟩,B2.trans (Bt.of M L)⟩
  ·have HY:Hid (_):=HX2.out w2 R2 (by omega)
   clear HX2 HX3 R2
   go_wp2_with fail
   refine Calls.mono HY.out ?_
   rintro e w3 ⟨rfl,R3,M,L⟩
   have HB3:Hid (_):=B2.trans (Bt.of M L)
   have HR3:Hid (_):=R3
   clear HY M L B2 R3
   by_cases hne:n+z≠65535
   ·have hq:¬(n:Int)=((65535-z:Nat):Int):=by omega
    have hq2:((n:Int) !=((65535-z:Nat):Int))=true:=bne_iff_ne.2 hq
    go_wp2_with fail
    refine(HRY.out _).mono ?_
    rintro e x6 ⟨rfl,rfl⟩
    exact⟨rfl,⟨fun h=>absurd h h5,fun _ _=>rfl,fun _ h=>absurd hne h,fun _ h=>absurd hne h⟩,HB3.out⟩
   ·have hz:((65535-z:Nat):Int)=(n:Int):=by omega
    rw[hz]at hxo
    go_wp2_with fail
    refine(HRF.out _).mono ?_
    rintro e x6 ⟨rfl,rfl⟩
    go_wp2_with fail
    refine(HBY.out _ n (by omega) HR3.out).mono ?_
    rintro e x6 ⟨⟨hy,hn⟩,rfl⟩
    by_cases h30:3000<n
    ·obtain rfl:=hy (by omega)
     exact⟨rfl,⟨fun h=>absurd h h5,fun _ h=>absurd h hne,fun _ _ _=>rfl,fun _ _ h=>absurd h30 h⟩,HB3.out⟩
    ·obtain rfl:=hn (by omega)
     go_wp2
     go_ret
     exact⟨⟨fun h=>absurd h h5,fun _ h=>absurd h hne,fun _ _ h=>absurd h h30,fun _ _ _=>⟨rfl,HR3.out⟩⟩,HB3.out⟩

end Pk
end Go.Proofs.YtdcpjicgehdmfaaGreatDoor

/- The program's look at what stands behind a block. -/
namespace Go.Proofs.YtdcpjicgehdmfaaGreatDoor
namespace Pk
open Go.ChangeShapes Go.WideShapes Go.ChangeAt Go.RowKit
open Math (bitAt lowAt topAt rst)
set_option linter.unusedSimpArgs false
set_option linter.unusedVariables false

set_option maxRecDepth 100000 in
set_option maxHeartbeats 1000000 in
theorem restI_val (c:Nat) (s:ByteArray) (a:Nat) (v:Value) (w:World) (hs:s.size≤100000) (ha:a≤8*s.size) (H:RdI c s a v w):
 Calls Tryz.prog 202 #[.pointer (some ⟨c,0,none⟩)] w fun e w'=>((rst s 8 a=0→e= .returned (.tuple #[])∧∃q,RdI c s q v w')∧(rst s 8 a≠0→rst s 8 a=6∧e=fault 6))∧Bt c w w':=by
 have HRF:Hid (∀W:World,_):=fun W=>refuse_no 6 W
 have HRY:Hid (∀W:World,_):=fun W=>refuse_yes 6 W
 go_enter Tryz.func202,Tryz.ntmps202
 go_wp2
 go_loopw [] (fun wr=>∃(q n:Nat),q≤8*s.size∧(q%8=0∨8≤n+q%8)∧Hid (rst s 8 a=rst s n q)∧Hid (RdI c s q v wr)∧Hid (Bt c w wr)) (fun wr=>8*s.size-(intOf ((wr.cell? ⟨c,1,none⟩).getD undef)).toNat)
 case atStart=>exact⟨a,8,ha,by omega,rfl,H,Bt.refl _ _⟩
 case round=>
  obtain⟨q,n,hq,hn,HE,HR,L⟩:=hrel
  have m:wr.heap[c]? =some (.cells #[.string s,.int .i64 (q:Int),v] 194):=HR.out
  have c0:wr.cell? ⟨c,0,none⟩=some (.string s):=cell_at m 0
  have c1:wr.cell? ⟨c,1,none⟩=some (.int .i64 (q:Int)):=cell_at m 1
  clear m
  have ht:Int.tmod (q:Int) 8=((q%8:Nat):Int):=by rw[Int.tmod_eq_emod_of_nonneg (by omega)];omega
  have hr:(q:Int)%8=((q%8:Nat):Int):=by omega
  by_cases h8:q%8=0
  ·have he:=HE.out
   rw[Math.rst_end s n q h8]at he
   rw[h8]at ht hr
   by_cases hend:q<8*s.size
   ·rw[if_pos hend]at he
    have HE6:Hid (_):=he
    have hneb:((q:Int) !=(s.size:Int)*8)=true:=by rw[bne_iff_ne];omega
    have hne:¬((q:Int)=(s.size:Int)*8):=by omega
    have hw8:IntKind.i64.wrap ((s.size:Int)*8)=(s.size:Int)*8:=wrap_is _ (by omega)
    clear he HE
    go_wp2
    refine wp_region_held_drew (S:=(fun w'=>w'.cell? ⟨c,0,none⟩=some (.string s)∧w'.cell? ⟨c,1,none⟩=some (.int .i64 (q:Int)))) (by kernel_rfl) ?_ (fun hHeld=> ?_)
    ·exact⟨c0,c1⟩
    refine wpAnyH_take (i:=0) (oi:= { dst:=some 12,op:=Op.move (Operand.tmp 0),type:=201,pos:= "l03_pack.go:381",after:= #[],guard:=none }) (v:= ?_) rfl (by kernel_rfl) (by kernel_rfl) (by kernel_rfl) (fun _ _ _ h=>h) (Or.inl ⟨by rfl,?_⟩) (by assumption) ?_
    rotate_left 1
    ·(intro wS hSw;(try dsimp only at hSw);go_simp;try (with_reducible rfl))
    (try simp only[Act.put,List.setIfInBounds_toArray,List.set_cons_zero,List.set_cons_succ])
    refine wpAnyH_take (i:=1) (oi:= { dst:=some 13,op:=Op.nilCheck (Operand.tmp 12),type:=0,pos:= "l03_pack.go:381",after:= #[{ on:=0,ground:=Ground.data }],guard:=none }) (v:= ?_) rfl (by kernel_rfl) (by kernel_rfl) (by kernel_rfl) (fun _ _ _ h=>h) (Or.inl ⟨by rfl,?_⟩) (by assumption) ?_
    rotate_left 1
    ·(intro wS hSw;(try dsimp only at hSw);go_simp;try (with_reducible rfl))
    (try simp only[Act.put,List.setIfInBounds_toArray,List.set_cons_zero,List.set_cons_succ])
    refine wpAnyH_take (i:=2) (oi:= { dst:=some 14,op:=Op.fieldAddr 194 (Operand.tmp 13) 1,type:=0,pos:= "l03_pack.go:381",after:= #[{ on:=1,ground:=Ground.data }],guard:=none }) (v:= ?_) rfl (by kernel_rfl) (by kernel_rfl) (by kernel_rfl) (fun _ _ _ h=>h) (Or.inl ⟨by rfl,?_⟩) (by assumption) ?_
    rotate_left 1
    ·(intro wS hSw;(try dsimp only at hSw);go_simp;try (with_reducible rfl))
    (try simp only[Act.put,List.setIfInBounds_toArray,List.set_cons_zero,List.set_cons_succ])
    refine wpAnyH_take (i:=3) (oi:= { dst:=some 15,op:=Op.load 3 (Operand.tmp 14),type:=3,pos:= "l03_pack.go:381",after:= #[{ on:=2,ground:=Ground.data }],guard:=none }) (v:= ?_) rfl (by kernel_rfl) (by kernel_rfl) (by kernel_rfl) (fun _ _ _ h=>h) (Or.inl ⟨by rfl,?_⟩) (by assumption) ?_
    rotate_left 1
    ·(intro wS hSw;(try dsimp only at hSw);go_simp;try (with_reducible rfl))
    (try simp only[Act.put,List.setIfInBounds_toArray,List.set_cons_zero,List.set_cons_succ])
    refine wpAnyH_take (i:=4) (oi:= { dst:=some 16,op:=Op.move (Operand.tmp 0),type:=201,pos:= "l03_pack.go:381",after:= #[],guard:=none }) (v:= ?_) rfl (by kernel_rfl) (by kernel_rfl) (by kernel_rfl) (fun _ _ _ h=>h) (Or.inl ⟨by rfl,?_⟩) (by assumption) ?_
    rotate_left 1
    ·(intro wS hSw;(try dsimp only at hSw);go_simp;try (with_reducible rfl))
    (try simp only[Act.put,List.setIfInBounds_toArray,List.set_cons_zero,List.set_cons_succ])
    refine wpAnyH_take (i:=5) (oi:= { dst:=some 17,op:=Op.nilCheck (Operand.tmp 16),type:=0,pos:= "l03_pack.go:381",after:= #[{ on:=4,ground:=Ground.data }],guard:=none }) (v:= ?_) rfl (by kernel_rfl) (by kernel_rfl) (by kernel_rfl) (fun _ _ _ h=>h) (Or.inl ⟨by rfl,?_⟩) (by assumption) ?_
    rotate_left 1
    ·(intro wS hSw;(try dsimp only at hSw);go_simp;try (with_reducible rfl))
    (try simp only[Act.put,List.setIfInBounds_toArray,List.set_cons_zero,List.set_cons_succ])
    refine wpAnyH_take (i:=6) (oi:= { dst:=some 18,op:=Op.fieldAddr 194 (Operand.tmp 17) 0,type:=0,pos:= "l03_pack.go:381",after:= #[{ on:=5,ground:=Ground.data }],guard:=none }) (v:= ?_) rfl (by kernel_rfl) (by kernel_rfl) (by kernel_rfl) (fun _ _ _ h=>h) (Or.inl ⟨by rfl,?_⟩) (by assumption) ?_
    rotate_left 1
    ·(intro wS hSw;(try dsimp only at hSw);go_simp;try (with_reducible rfl))
    (try simp only[Act.put,List.setIfInBounds_toArray,List.set_cons_zero,List.set_cons_succ])
    refine wpAnyH_take (i:=7) (oi:= { dst:=some 19,op:=Op.load 9 (Operand.tmp 18),type:=9,pos:= "l03_pack.go:381",after:= #[{ on:=6,ground:=Ground.data }],guard:=none }) (v:= ?_) rfl (by kernel_rfl) (by kernel_rfl) (by kernel_rfl) (fun _ _ _ h=>h) (Or.inl ⟨by rfl,?_⟩) (by assumption) ?_
    rotate_left 1
    ·(intro wS hSw;(try dsimp only at hSw);go_simp;try (with_reducible rfl))
    (try simp only[Act.put,List.setIfInBounds_toArray,List.set_cons_zero,List.set_cons_succ])
    refine wpAnyH_take (i:=8) (oi:= { dst:=some 20,op:=Op.call { callee:=Callee.builtin Builtin.len,args:= #[Operand.tmp 19],argTypes:= #[9] },type:=3,pos:= "l03_pack.go:381",after:= #[{ on:=7,ground:=Ground.data }],guard:=none }) (v:= ?_) rfl (by kernel_rfl) (by kernel_rfl) (by kernel_rfl) (fun _ _ _ h=>h) (Or.inl ⟨by rfl,?_⟩) (by assumption) ?_
    rotate_left 1
    ·(intro wS hSw;(try dsimp only at hSw);go_simp;try (with_reducible rfl))
    (try simp only[Act.put,List.setIfInBounds_toArray,List.set_cons_zero,List.set_cons_succ])
    refine wpAnyH_take (i:=9) (oi:= { dst:=some 21,op:=Op.binOp BinOp.mul 3 (Operand.tmp 20) (Operand.const (Value.int IntKind.i64 8)) 3,type:=3,pos:= "l03_pack.go:381",after:= #[{ on:=8,ground:=Ground.data }],guard:=none }) (v:= ?_) rfl (by kernel_rfl) (by kernel_rfl) (by kernel_rfl) (fun _ _ _ h=>h) (Or.inl ⟨by rfl,?_⟩) (by assumption) ?_
    rotate_left 1
    ·(intro wS hSw;(try dsimp only at hSw);go_simp;try (with_reducible rfl))
    (try simp only[Act.put,List.setIfInBounds_toArray,List.set_cons_zero,List.set_cons_succ])
    refine wpAnyH_take (i:=10) (oi:= { dst:=some 22,op:=Op.binOp BinOp.neq 3 (Operand.tmp 15) (Operand.tmp 21) 3,type:=4,pos:= "l03_pack.go:381",after:= #[{ on:=3,ground:=Ground.data },{ on:=9,ground:=Ground.data }],guard:=none }) (v:= ?_) rfl (by kernel_rfl) (by kernel_rfl) (by kernel_rfl) (fun _ _ _ h=>h) (Or.inl ⟨by rfl,?_⟩) (by assumption) ?_
    rotate_left 1
    ·(intro wS hSw;(try dsimp only at hSw);go_simp;try (with_reducible rfl))
    (try simp only[Act.put,List.setIfInBounds_toArray,List.set_cons_zero,List.set_cons_succ])
    refine wpAnyH_ready (rs:= [11]) (by kernel_rfl) (by simp) ?_
    refine AllReadyH.cons (o:= { dst:=some 23,op:=Op.call { callee:=Callee.value (Operand.func 193),args:= #[Operand.tmp 22,Operand.const (Value.int IntKind.i64 6)],argTypes:= #[4,3] },type:=0,pos:= "l03_pack.go:381",after:= #[{ on:=10,ground:=Ground.data }],guard:=none }) rfl (fun K hK=> ?_) AllReadyH.nil
    go_simp
    refine(HRY.out _).mono ?_
    rintro e x1 ⟨rfl,hx1⟩
    subst hx1
    exact⟨rfl,⟨fun h=>absurd (HE6.out.symm.trans h) (by omega),fun _=>⟨HE6.out,rfl⟩⟩,L.out.drew⟩
   ·rw[if_neg hend]at he
    have HE6:Hid (_):=he
    obtain rfl:q=8*s.size:=by omega
    have e8:((8*s.size:Nat):Int)=(s.size:Int)*8:=by omega
    rw[e8]at c1 ht hr
    have hneb:((s.size:Int)*8 !=(s.size:Int)*8)=false:=by simp
    have hw8:IntKind.i64.wrap ((s.size:Int)*8)=(s.size:Int)*8:=wrap_is _ (by omega)
    clear he HE e8
    go_wp2
    go_quiet ((go_at_call 193;exact Calls.quiet_of_same (HRF.out _)))
    go_wp2
    exact⟨rfl,_,results_none rfl _ _ _,⟨fun _=>⟨rfl,_,HR.out⟩,fun h=>absurd HE6.out h⟩,L.out.drewN _⟩
  ·have h80:¬((q%8:Nat):Int)=0:=by omega
   have hlt:q<8*s.size:=by omega
   obtain⟨k,rfl⟩:∃k,n=k+1:=⟨n-1,by omega⟩
   have HES:Hid (rst s (k+1) q=if q%8=0 then(if q<8*s.size then 6 else 0)else if bitAt s q=1 then 6 else rst s k (q+1)):=rfl
   have HB:Hid (∀_:Unit,_):=fun _=>bitI_ok 0 c s q v wr hs (Nat.zero_le _) hlt HR.out
   have hb:=Math.bitAt_le s q
   generalize hr8:q%8=r at*
   by_cases hb1:bitAt s q=1
   ·rw[hb1]at HB
    have he:=HE.out.trans (HES.out.trans (by rw[if_neg h8,if_pos hb1]))
    have HE6:Hid (_):=he
    clear he HE HES
    go_wp2_with fail
    refine(HB.out ()).mono ?_
    rintro e w2 ⟨rfl,R2,M2,L2⟩
    have HB2:Hid (_):=L.out.trans (Bt.of M2 L2)
    clear M2 L2 R2
    go_wp2_with fail
    refine(HRY.out _).mono ?_
    rintro e x6 ⟨rfl,rfl⟩
    exact⟨rfl,⟨fun h=>absurd (HE6.out.symm.trans h) (by omega),fun _=>⟨HE6.out,rfl⟩⟩,HB2.out⟩
   ·have hb0:bitAt s q=0:=by omega
    rw[hb0]at HB
    have he:=HE.out.trans (HES.out.trans (by rw[if_neg h8,if_neg hb1]))
    have HE6:Hid (_):=he
    clear he HE HES
    go_wp2_with fail
    refine(HB.out ()).mono ?_
    rintro e w2 ⟨rfl,R2,M2,L2⟩
    have HB2:Hid (_):=L.out.trans (Bt.of M2 L2)
    have HR2:Hid (_):=R2
    clear M2 L2 R2
    go_wp2_with fail
    refine(HRF.out _).mono ?_
    rintro e x6 ⟨rfl,rfl⟩
    go_wp2
    go_roundw
    case rel=>exact⟨q+1,k,by omega,by omega,HE6.out,HR2.out,HB2.out⟩
    case measure=>
     have h9:=cell_at HR2.out 1
     rw[c1]
     have h9':x6.cell? ⟨c,1,none⟩=some (.int .i64 ((q+1:Nat):Int)):=h9
     simp only[h9',Option.getD_some,intOf]
     omega

end Pk
end Go.Proofs.YtdcpjicgehdmfaaGreatDoor

/- A scope in which the run jumps to several labels, forward and back. -/
namespace Go.Proofs.YtdcpjicgehdmfaaGreatDoor
namespace Pk

def Jumps (J:Nat→Act→World→Prop) (Q:Exit→Act→World→Prop):Exit→Act→World→Prop
 | .goto l,a,w=>J l a w
 |e,a,w=>Q e a w

theorem Jumps.mono {J J':Nat→Act→World→Prop} {Q:Exit→Act→World→Prop} (h:∀l a w,J l a w→J' l a w):∀e a w,Jumps J Q e a w→Jumps J' Q e a w:=by
 intro e a w hj
 cases e with
 |goto l=>exact h l a w hj
 |normal=>exact hj
 |exit id=>exact hj
 |ret=>exact hj
 |panic ch=>exact hj
 |outgrown=>exact hj

theorem scope_many {P:Program} {c:Code} {a:Act} {w:World} {Q:Exit→Act→World→Prop} (J:Nat→Act→World→Prop) (μ:Nat→Act→World→Nat)
 (pass:∀l a w,J l a w→∃r,findLabel c l=some (Code.skip.seq r)∧r.wp P (Jumps (fun l' a' w'=>J l' a' w'∧μ l' a' w'<μ l a w) Q) a w)
 (first:(∀l r a w,findLabel c l=some (Code.skip.seq r)→J l a w→r.wp P (Jumps J Q) a w)→c.wp P (Jumps J Q) a w):(Code.scope c).wp P Q a w:=by
 have fall:∀l r a w,findLabel c l=some (Code.skip.seq r)→J l a w→r.wp P (Jumps J Q) a w:=by
  intro l r a w hr hJ
  obtain⟨r',hr',hp⟩:=pass l a w hJ
  cases hr.symm.trans hr'
  exact wp_mono hp (Jumps.mono fun _ _ _ h=>h.1)
 have pass:∀l a w,J l a w→∃r,findLabel c l=some r∧r.wp P (Jumps (fun l' a' w'=>J l' a' w'∧μ l' a' w'<μ l a w) Q) a w:=fun l a w h=>by
  obtain⟨r,hr,hp⟩:=pass l a w h
  exact⟨_,hr,wp_seq (wp_skip hp)⟩
 intro b k cs
 have key:∀n l r a w,μ l a w=n→J l a w→findLabel c l=some r→∃e a' w',Q e a' w'∧Arrives P (lone (b.at a (.code r:: .inScope c::k)) cs w) b k cs e a' w':=by
  intro n
  induction n using Nat.strongRecOn with
  |_ n ih=>
   intro l r a w hn hJ hr
   obtain⟨r',hr',hp⟩:=pass l a w hJ
   cases hr.symm.trans hr'
   obtain⟨e,a₁,w₁,hq,harr⟩:=hp b (.inScope c::k) cs
   cases e with
   |normal=>exact⟨.normal,a₁,w₁,hq,Steps.trans harr (.one step_inScope)⟩
   |exit id=>exact⟨.exit id,a₁,w₁,hq,fun k' hk=>harr k' (by simp[exitTo,hk])⟩
   |goto l'=>
    obtain⟨hJ',hlt⟩:=hq
    obtain⟨r2,hr2,_⟩:=pass l' a₁ w₁ hJ'
    obtain⟨e₂,a₂,w₂,hq₂,harr₂⟩:=ih _ (by omega) l' r2 a₁ w₁ rfl hJ' hr2
    have hg:gotoIn l' (.inScope c::k)=some (.code r2:: .inScope c::k):=by simp[gotoIn,hr2]
    exact⟨e₂,a₂,w₂,hq₂,.of_steps (harr _ hg) harr₂⟩
   |ret=>exact⟨_,a₁,w₁,hq,harr⟩
   |panic ch=>exact⟨_,a₁,w₁,hq,harr⟩
   |outgrown=>exact⟨_,a₁,w₁,hq,harr⟩
 obtain⟨e,a₁,w₁,hq,harr⟩:=first fall b (.inScope c::k) cs
 cases e with
 |normal=>exact⟨.normal,a₁,w₁,hq,.head step_scope (Steps.trans harr (.one step_inScope))⟩
 |exit id=>exact⟨.exit id,a₁,w₁,hq,fun k' hk=> .head step_scope (harr k' (by simp[exitTo,hk]))⟩
 |goto l'=>
  obtain⟨r2,hr2,_⟩:=pass l' a₁ w₁ hq
  obtain⟨e₂,a₂,w₂,hq₂,harr₂⟩:=key _ l' r2 a₁ w₁ rfl hq hr2
  have hg:gotoIn l' (.inScope c::k)=some (.code r2:: .inScope c::k):=by simp[gotoIn,hr2]
  exact⟨e₂,a₂,w₂,hq₂,.of_steps (.head step_scope (harr _ hg)) harr₂⟩
 |ret=>exact⟨_,a₁,w₁,hq,.of_steps (.one step_scope) harr⟩
 |panic ch=>exact⟨_,a₁,w₁,hq,.of_steps (.one step_scope) harr⟩
 |outgrown=>exact⟨_,a₁,w₁,hq,.of_steps (.one step_scope) harr⟩

end Pk
end Go.Proofs.YtdcpjicgehdmfaaGreatDoor

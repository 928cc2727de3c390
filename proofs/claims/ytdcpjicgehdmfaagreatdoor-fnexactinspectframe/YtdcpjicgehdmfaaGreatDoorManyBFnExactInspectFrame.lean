/- Texts laid into one, in their order: HnInsS, MathSq, SqF, SqWay, SqOk, SqIdx, SqTurnM, SqRun, SqTurn, SqTurnS, SqTurnBy, SqHeart, SqHeart2, SqScanI, MathPack, MathBit, PkCode, PkFix, SqBits, SqPaintM, SqPaintS, SqPaintI, SqSigns, SqRep, SqPaintP, SqPaintQ, SqDark, SqFour, SqNeq, SqScanM, SqScanP, SqScanS, SqScanV. -/
import Derived.Test.YtdcpjicgehdmfaaGreatDoorManyAFnExactInspectFrame
import Derived.Test.YtdcpjicgehdmfaaGreatDoorPkRow
import Derived.WalkLawsBesides
import Derived.BigRegion
import Derived.Test.YtdcpjicgehdmfaaGreatDoorSqRow
import Derived.Deep.RegionHeld3
import Derived.Test.YtdcpjicgehdmfaaGreatDoorShelf
import Derived.Test.YtdcpjicgehdmfaaGreatDoorNum
import Derived.Test.YtdcpjicgehdmfaaGreatDoorRows
import Derived.Handy
import Derived.Laws.Bits64
import Derived.Laws.BitsLemmas
import Derived.Lib.BitFns
import Derived.Test.YtdcpjicgehdmfaaGreatDoorMathSum
import Derived.Test.YtdcpjicgehdmfaaGreatDoorNumSum
import Derived.Test.YtdcpjicgehdmfaaGreatDoorNumWord
import Derived.Deep.Cut
import Derived.Lib.MakeNoZero
import Derived.Lib.SlBuf
import Derived.Laws.CopyOwn
import Derived.Laws.Bits64b
import Derived.Laws.Small
import Derived.Deep.RegionLaw
import Derived.Laws.CopyRow
import Derived.Laws.StructEq
/- Inspect of the model. -/
namespace Go.Proofs.YtdcpjicgehdmfaaGreatDoor
namespace Hn
open Go.ChangeShapes Go.WideShapes Go.ChangeAt Go.RowKit Go.Joins
open Pk (new_below join_below cell_at heap_new frozen_at lt_of kept heap_old Drawn info_of Room own_form own_below)
open Tk (Lg Legs tkV tkB)
set_option linter.unusedSimpArgs false
set_option linter.unusedVariables false

set_option maxRecDepth 100000 in
set_option maxHeartbeats 2000000 in
theorem specIns_val (x:Pl) (o:Hnd) (s:ByteArray) {RT:Tk.Hd} {RN:ByteArray} {RL:List Lg} {C:Nat} (HR:∀W:World,Calls Tryz.prog 39 #[.agg #[.int .i64 o.p,.int .i64 o.q,.int .i64 o.g],.int .i64 o.op,.int .i64 o.is,.string s] W fun e w'=>RdOk RT RN RL C W.heap.size e w'∧Below W.heap.size W w') (hC:C≠0→RT.id=0) (tr dy:Int) (w:World) (hz:o.ol.length≤1048576) (hz2:o.sl.length≤1048576) (hz3:RL.length≤1048576) (I:In w x o) (fl:Flat x):
 Calls Tryz.prog 16 #[hnV x o,.string s,.int .i64 tr,.int .i64 dy] w fun e w'=>∃y,e= .returned (.tuple #[hnV y (insO (insB o tr dy) o (ctlO o C RT RL tr dy)),.int .i64 (insC (insB o tr dy) (saidC o C RT RL tr dy):Nat)])∧Copied w.heap.size w' y (insO (insB o tr dy) o (ctlO o C RT RL tr dy))∧Below w.heap.size w w':=by
 obtain⟨k0,k1,hs⟩:=two_blocks w (hnB x o 35) (.cells #[.int .i64 0,.int .i64 0,.int .i64 0,.int .i64 0,.int .i64 0,.int .i64 0,.int .i64 0,.slice none 0 0,.slice none 0 0] 35)
 have L:Below w.heap.size w ((w.alloc (hnB x o 35)).alloc (.cells #[.int .i64 0,.int .i64 0,.int .i64 0,.int .i64 0,.int .i64 0,.int .i64 0,.int .i64 0,.slice none 0 0,.slice none 0 0] 35)):=join_below (new_below _ _) (new_below _ _)
 have HC:Hid (∀W:World,In W x o→_):=fun W h=>specCopy_val x o W hz hz2 h fl
 have HH:Hid (∀(y:Pl) (W:World),In W y o→_):=fun y W h=>specHand_val y o W hz hz2 h
 have HQ:Hid (∀W:World,_):=fun W=>specRide_val tr dy W
 have HRR:Hid (∀W:World,Calls Tryz.prog 39 #[.agg #[.int .i64 o.p,.int .i64 o.q,.int .i64 o.g],.int .i64 o.op,.int .i64 o.is,.string s] W fun e w'=>RdOk RT RN RL C W.heap.size e w'∧Below W.heap.size W w'):=HR
 have HK:Hid (∀(y:Pl) (W:World),In W y o→_):=fun y W h=>specCheck_val y o s HR tr dy W hz hz2 hz3 h
 clear hz hz2 hz3 HR hC fl
 cases h:handB o
 ·have HV:Hid (insB o tr dy=false):=ins_no1 (by unfold canB;rw[h];rfl)
  rw[h]at HH
  clear h
  go_enter Tryz.func16,Tryz.ntmps16
  go_wp2_with fail
  refine named fun V0 hV=> ?_
  rw[←hV]at k0 k1 L hs
  clear hV
  refine(HC.out _ (I.on L)).mono ?_
  rintro e v1 ⟨y,rfl,C1,L1⟩
  have n0:=kept L1 (lt_of k0) k0
  have n1:=kept L1 (lt_of k1) k1
  have B1:=join_below L L1
  have hg:w.heap.size+1+1≤V0.heap.size:=Nat.le_of_eq hs.symm
  have hl1:V0.heap.size≤v1.heap.size:=L1.size
  have a0:v1.cell? ⟨w.heap.size,0,none⟩=some (.int .i64 o.dv):=cell_at n0 0
  have a1:v1.cell? ⟨w.heap.size,1,none⟩=some (.int .i64 o.p):=cell_at n0 1
  have a2:v1.cell? ⟨w.heap.size,2,none⟩=some (.int .i64 o.q):=cell_at n0 2
  have a3:v1.cell? ⟨w.heap.size,3,none⟩=some (.int .i64 o.g):=cell_at n0 3
  have a4:v1.cell? ⟨w.heap.size,4,none⟩=some (.int .i64 o.op):=cell_at n0 4
  have a5:v1.cell? ⟨w.heap.size,5,none⟩=some (.int .i64 o.is):=cell_at n0 5
  have a6:v1.cell? ⟨w.heap.size,6,none⟩=some (.int .i64 o.ve):=cell_at n0 6
  have a7:v1.cell? ⟨w.heap.size,7,none⟩=some (.slice x.a o.ol.length x.c):=cell_at n0 7
  have a8:v1.cell? ⟨w.heap.size,8,none⟩=some (.slice x.b o.sl.length x.d):=cell_at n0 8
  have c0:v1.frozen? ⟨w.heap.size,0,none⟩=false:=frozen_at n0 0
  have c1:v1.frozen? ⟨w.heap.size,1,none⟩=false:=frozen_at n0 1
  have c2:v1.frozen? ⟨w.heap.size,2,none⟩=false:=frozen_at n0 2
  have c3:v1.frozen? ⟨w.heap.size,3,none⟩=false:=frozen_at n0 3
  have c4:v1.frozen? ⟨w.heap.size,4,none⟩=false:=frozen_at n0 4
  have c5:v1.frozen? ⟨w.heap.size,5,none⟩=false:=frozen_at n0 5
  have c6:v1.frozen? ⟨w.heap.size,6,none⟩=false:=frozen_at n0 6
  have c7:v1.frozen? ⟨w.heap.size,7,none⟩=false:=frozen_at n0 7
  have c8:v1.frozen? ⟨w.heap.size,8,none⟩=false:=frozen_at n0 8
  obtain⟨V1,hV⟩:∃V,V=(put9 v1 (w.heap.size) (.int .i64 o.dv) (.int .i64 o.p) (.int .i64 o.q) (.int .i64 o.g) (.int .i64 o.op) (.int .i64 o.is) (.int .i64 o.ve) (.slice y.a o.ol.length y.c) (.slice y.b o.sl.length y.d)):=⟨_,rfl⟩
  have q0:V1.heap[w.heap.size]? =some (hnB y o 35):=by rw[hV];exact put9_heap n0 ..
  have q1:V1.heap[w.heap.size+1]? =some (.cells #[.int .i64 0,.int .i64 0,.int .i64 0,.int .i64 0,.int .i64 0,.int .i64 0,.int .i64 0,.slice none 0 0,.slice none 0 0] 35):=by rw[hV,put9_other (by omega)];exact n1
  have SW:Sw (w.heap.size) (w.heap.size+1) v1 V1:=by rw[hV];exact⟨put9_size ..,fun b h1 _=>put9_other h1 ..⟩
  have C2:Copied V0.heap.size V1 y o:=⟨SW.own C1.off (by omega) (by omega),SW.own C1.seen (by omega) (by omega)⟩
  have B2:Below w.heap.size w V1:=by rw[hV];exact put9_below B1 (Nat.le_refl _) ..
  have hl2:V0.heap.size≤V1.heap.size:=by rw[SW.size];exact hl1
  have HV1:Hid (V1=(put9 v1 (w.heap.size) (.int .i64 o.dv) (.int .i64 o.p) (.int .i64 o.q) (.int .i64 o.g) (.int .i64 o.op) (.int .i64 o.is) (.int .i64 o.ve) (.slice y.a o.ol.length y.c) (.slice y.b o.sl.length y.d))):=hV
  clear k0 k1 L L1 hs n0 n1 C1 SW hl1 hV
  go_wp2_with fail
  refine named fun V hW=> ?_
  obtain rfl:V=V1:=hW.trans HV1.out.symm
  clear hW HV1 B1 a0 a1 a2 a3 a4 a5 a6 a7 a8 c0 c1 c2 c3 c4 c5 c6 c7 c8
  refine(HH.out y _ C2.in).mono ?_
  rintro e v2 ⟨rfl,L2⟩
  have m0:=kept L2 (lt_of q0) q0
  have m1:=kept L2 (lt_of q1) q1
  have C3:=C2.on L2
  have B3:=join_below B2 L2
  have hl3:V0.heap.size≤v2.heap.size:=Nat.le_trans hl2 L2.size
  clear q0 q1 C2 B2 L2 hl2
  have HL:Hid (True):=trivial
  have e0:v2.cell? ⟨w.heap.size+1,0,none⟩=some (.int .i64 0):=cell_at m1 0
  have e1:v2.cell? ⟨w.heap.size+1,1,none⟩=some (.int .i64 0):=cell_at m1 1
  have e2:v2.cell? ⟨w.heap.size+1,2,none⟩=some (.int .i64 0):=cell_at m1 2
  have e3:v2.cell? ⟨w.heap.size+1,3,none⟩=some (.int .i64 0):=cell_at m1 3
  have e4:v2.cell? ⟨w.heap.size+1,4,none⟩=some (.int .i64 0):=cell_at m1 4
  have e5:v2.cell? ⟨w.heap.size+1,5,none⟩=some (.int .i64 0):=cell_at m1 5
  have e6:v2.cell? ⟨w.heap.size+1,6,none⟩=some (.int .i64 0):=cell_at m1 6
  have e7:v2.cell? ⟨w.heap.size+1,7,none⟩=some (.slice none 0 0):=cell_at m1 7
  have e8:v2.cell? ⟨w.heap.size+1,8,none⟩=some (.slice none 0 0):=cell_at m1 8
  have f0:v2.frozen? ⟨w.heap.size+1,0,none⟩=false:=frozen_at m1 0
  have f1:v2.frozen? ⟨w.heap.size+1,1,none⟩=false:=frozen_at m1 1
  have f2:v2.frozen? ⟨w.heap.size+1,2,none⟩=false:=frozen_at m1 2
  have f3:v2.frozen? ⟨w.heap.size+1,3,none⟩=false:=frozen_at m1 3
  have f4:v2.frozen? ⟨w.heap.size+1,4,none⟩=false:=frozen_at m1 4
  have f5:v2.frozen? ⟨w.heap.size+1,5,none⟩=false:=frozen_at m1 5
  have f6:v2.frozen? ⟨w.heap.size+1,6,none⟩=false:=frozen_at m1 6
  have f7:v2.frozen? ⟨w.heap.size+1,7,none⟩=false:=frozen_at m1 7
  have f8:v2.frozen? ⟨w.heap.size+1,8,none⟩=false:=frozen_at m1 8
  have a0:v2.cell? ⟨w.heap.size,0,none⟩=some (.int .i64 o.dv):=cell_at m0 0
  have a1:v2.cell? ⟨w.heap.size,1,none⟩=some (.int .i64 o.p):=cell_at m0 1
  have a2:v2.cell? ⟨w.heap.size,2,none⟩=some (.int .i64 o.q):=cell_at m0 2
  have a3:v2.cell? ⟨w.heap.size,3,none⟩=some (.int .i64 o.g):=cell_at m0 3
  have a4:v2.cell? ⟨w.heap.size,4,none⟩=some (.int .i64 o.op):=cell_at m0 4
  have a5:v2.cell? ⟨w.heap.size,5,none⟩=some (.int .i64 o.is):=cell_at m0 5
  have a6:v2.cell? ⟨w.heap.size,6,none⟩=some (.int .i64 o.ve):=cell_at m0 6
  have a7:v2.cell? ⟨w.heap.size,7,none⟩=some (.slice y.a o.ol.length y.c):=cell_at m0 7
  have a8:v2.cell? ⟨w.heap.size,8,none⟩=some (.slice y.b o.sl.length y.d):=cell_at m0 8
  have HFIN:Hid (∀W,Sw (w.heap.size+1) (w.heap.size) v2 W→Copied w.heap.size W y (insO false o (ctlO o C RT RL tr dy))):=fun W s=>⟨own_lower (s.own C3.off (by omega) (by omega)) (by omega),own_lower (s.own C3.seen (by omega) (by omega)) (by omega)⟩
  have HB:Hid (∀W,Below w.heap.size v2 W→Below w.heap.size w W):=fun W l=>B3.trans l
  clear B3 C3 m0 m1 hl3 hg I HC HH HQ HRR HK
  go_wp2
  refine bodyPost_ret (v:= .tuple #[hnV y (o),.int .i64 (1)]) (by simp[results,Tryz.results16,go_sem,e0,e1,e2,e3,e4,e5,e6,e7,e8]) rfl ?_
  refine⟨y,by rw[HV.out]<;>rfl,?_,HB.out _ ?_⟩
  ·rw[HV.out]
   refine HFIN.out _ ?_
   (repeat' (first|with_reducible exact Sw.refl _ _ _|with_reducible apply Sw.one|with_reducible apply Sw.two))
  ·(repeat' (first|apply Below.setCell|exact Below.refl _ _))<;>first|(simp;done)|(have:=HL.out;simp;omega)
 ·rw[h]at HH
  cases h1:rideB tr dy
  ·have HV:Hid (insB o tr dy=false):=ins_no1 (by unfold canB;rw[h1,Bool.and_false])
   rw[h1]at HQ
   clear h h1
   go_enter Tryz.func16,Tryz.ntmps16
   go_wp2_with fail
   refine named fun V0 hV=> ?_
   rw[←hV]at k0 k1 L hs
   clear hV
   refine(HC.out _ (I.on L)).mono ?_
   rintro e v1 ⟨y,rfl,C1,L1⟩
   have n0:=kept L1 (lt_of k0) k0
   have n1:=kept L1 (lt_of k1) k1
   have B1:=join_below L L1
   have hg:w.heap.size+1+1≤V0.heap.size:=Nat.le_of_eq hs.symm
   have hl1:V0.heap.size≤v1.heap.size:=L1.size
   have a0:v1.cell? ⟨w.heap.size,0,none⟩=some (.int .i64 o.dv):=cell_at n0 0
   have a1:v1.cell? ⟨w.heap.size,1,none⟩=some (.int .i64 o.p):=cell_at n0 1
   have a2:v1.cell? ⟨w.heap.size,2,none⟩=some (.int .i64 o.q):=cell_at n0 2
   have a3:v1.cell? ⟨w.heap.size,3,none⟩=some (.int .i64 o.g):=cell_at n0 3
   have a4:v1.cell? ⟨w.heap.size,4,none⟩=some (.int .i64 o.op):=cell_at n0 4
   have a5:v1.cell? ⟨w.heap.size,5,none⟩=some (.int .i64 o.is):=cell_at n0 5
   have a6:v1.cell? ⟨w.heap.size,6,none⟩=some (.int .i64 o.ve):=cell_at n0 6
   have a7:v1.cell? ⟨w.heap.size,7,none⟩=some (.slice x.a o.ol.length x.c):=cell_at n0 7
   have a8:v1.cell? ⟨w.heap.size,8,none⟩=some (.slice x.b o.sl.length x.d):=cell_at n0 8
   have c0:v1.frozen? ⟨w.heap.size,0,none⟩=false:=frozen_at n0 0
   have c1:v1.frozen? ⟨w.heap.size,1,none⟩=false:=frozen_at n0 1
   have c2:v1.frozen? ⟨w.heap.size,2,none⟩=false:=frozen_at n0 2
   have c3:v1.frozen? ⟨w.heap.size,3,none⟩=false:=frozen_at n0 3
   have c4:v1.frozen? ⟨w.heap.size,4,none⟩=false:=frozen_at n0 4
   have c5:v1.frozen? ⟨w.heap.size,5,none⟩=false:=frozen_at n0 5
   have c6:v1.frozen? ⟨w.heap.size,6,none⟩=false:=frozen_at n0 6
   have c7:v1.frozen? ⟨w.heap.size,7,none⟩=false:=frozen_at n0 7
   have c8:v1.frozen? ⟨w.heap.size,8,none⟩=false:=frozen_at n0 8
   obtain⟨V1,hV⟩:∃V,V=(put9 v1 (w.heap.size) (.int .i64 o.dv) (.int .i64 o.p) (.int .i64 o.q) (.int .i64 o.g) (.int .i64 o.op) (.int .i64 o.is) (.int .i64 o.ve) (.slice y.a o.ol.length y.c) (.slice y.b o.sl.length y.d)):=⟨_,rfl⟩
   have q0:V1.heap[w.heap.size]? =some (hnB y o 35):=by rw[hV];exact put9_heap n0 ..
   have q1:V1.heap[w.heap.size+1]? =some (.cells #[.int .i64 0,.int .i64 0,.int .i64 0,.int .i64 0,.int .i64 0,.int .i64 0,.int .i64 0,.slice none 0 0,.slice none 0 0] 35):=by rw[hV,put9_other (by omega)];exact n1
   have SW:Sw (w.heap.size) (w.heap.size+1) v1 V1:=by rw[hV];exact⟨put9_size ..,fun b h1 _=>put9_other h1 ..⟩
   have C2:Copied V0.heap.size V1 y o:=⟨SW.own C1.off (by omega) (by omega),SW.own C1.seen (by omega) (by omega)⟩
   have B2:Below w.heap.size w V1:=by rw[hV];exact put9_below B1 (Nat.le_refl _) ..
   have hl2:V0.heap.size≤V1.heap.size:=by rw[SW.size];exact hl1
   have HV1:Hid (V1=(put9 v1 (w.heap.size) (.int .i64 o.dv) (.int .i64 o.p) (.int .i64 o.q) (.int .i64 o.g) (.int .i64 o.op) (.int .i64 o.is) (.int .i64 o.ve) (.slice y.a o.ol.length y.c) (.slice y.b o.sl.length y.d))):=hV
   clear k0 k1 L L1 hs n0 n1 C1 SW hl1 hV
   go_wp2_with fail
   refine named fun V hW=> ?_
   obtain rfl:V=V1:=hW.trans HV1.out.symm
   clear hW HV1 B1 a0 a1 a2 a3 a4 a5 a6 a7 a8 c0 c1 c2 c3 c4 c5 c6 c7 c8
   refine(HH.out y _ C2.in).mono ?_
   rintro e v2 ⟨rfl,L2⟩
   have m0:=kept L2 (lt_of q0) q0
   have m1:=kept L2 (lt_of q1) q1
   have C3:=C2.on L2
   have B3:=join_below B2 L2
   have hl3:V0.heap.size≤v2.heap.size:=Nat.le_trans hl2 L2.size
   clear q0 q1 C2 B2 L2 hl2
   have HL:Hid (True):=trivial
   have a8:v2.cell? ⟨w.heap.size,8,none⟩=some (.slice y.b o.sl.length y.d):=cell_at m0 8
   go_wp2_with fail
   refine(HQ.out _).mono ?_
   rintro e v3 ⟨rfl,rfl⟩
   clear a8
   have e0:v3.cell? ⟨w.heap.size+1,0,none⟩=some (.int .i64 0):=cell_at m1 0
   have e1:v3.cell? ⟨w.heap.size+1,1,none⟩=some (.int .i64 0):=cell_at m1 1
   have e2:v3.cell? ⟨w.heap.size+1,2,none⟩=some (.int .i64 0):=cell_at m1 2
   have e3:v3.cell? ⟨w.heap.size+1,3,none⟩=some (.int .i64 0):=cell_at m1 3
   have e4:v3.cell? ⟨w.heap.size+1,4,none⟩=some (.int .i64 0):=cell_at m1 4
   have e5:v3.cell? ⟨w.heap.size+1,5,none⟩=some (.int .i64 0):=cell_at m1 5
   have e6:v3.cell? ⟨w.heap.size+1,6,none⟩=some (.int .i64 0):=cell_at m1 6
   have e7:v3.cell? ⟨w.heap.size+1,7,none⟩=some (.slice none 0 0):=cell_at m1 7
   have e8:v3.cell? ⟨w.heap.size+1,8,none⟩=some (.slice none 0 0):=cell_at m1 8
   have f0:v3.frozen? ⟨w.heap.size+1,0,none⟩=false:=frozen_at m1 0
   have f1:v3.frozen? ⟨w.heap.size+1,1,none⟩=false:=frozen_at m1 1
   have f2:v3.frozen? ⟨w.heap.size+1,2,none⟩=false:=frozen_at m1 2
   have f3:v3.frozen? ⟨w.heap.size+1,3,none⟩=false:=frozen_at m1 3
   have f4:v3.frozen? ⟨w.heap.size+1,4,none⟩=false:=frozen_at m1 4
   have f5:v3.frozen? ⟨w.heap.size+1,5,none⟩=false:=frozen_at m1 5
   have f6:v3.frozen? ⟨w.heap.size+1,6,none⟩=false:=frozen_at m1 6
   have f7:v3.frozen? ⟨w.heap.size+1,7,none⟩=false:=frozen_at m1 7
   have f8:v3.frozen? ⟨w.heap.size+1,8,none⟩=false:=frozen_at m1 8
   have a0:v3.cell? ⟨w.heap.size,0,none⟩=some (.int .i64 o.dv):=cell_at m0 0
   have a1:v3.cell? ⟨w.heap.size,1,none⟩=some (.int .i64 o.p):=cell_at m0 1
   have a2:v3.cell? ⟨w.heap.size,2,none⟩=some (.int .i64 o.q):=cell_at m0 2
   have a3:v3.cell? ⟨w.heap.size,3,none⟩=some (.int .i64 o.g):=cell_at m0 3
   have a4:v3.cell? ⟨w.heap.size,4,none⟩=some (.int .i64 o.op):=cell_at m0 4
   have a5:v3.cell? ⟨w.heap.size,5,none⟩=some (.int .i64 o.is):=cell_at m0 5
   have a6:v3.cell? ⟨w.heap.size,6,none⟩=some (.int .i64 o.ve):=cell_at m0 6
   have a7:v3.cell? ⟨w.heap.size,7,none⟩=some (.slice y.a o.ol.length y.c):=cell_at m0 7
   have a8:v3.cell? ⟨w.heap.size,8,none⟩=some (.slice y.b o.sl.length y.d):=cell_at m0 8
   have HFIN:Hid (∀W,Sw (w.heap.size+1) (w.heap.size) v3 W→Copied w.heap.size W y (insO false o (ctlO o C RT RL tr dy))):=fun W s=>⟨own_lower (s.own C3.off (by omega) (by omega)) (by omega),own_lower (s.own C3.seen (by omega) (by omega)) (by omega)⟩
   have HB:Hid (∀W,Below w.heap.size v3 W→Below w.heap.size w W):=fun W l=>B3.trans l
   clear B3 C3 m0 m1 hl3 hg I HC HH HQ HRR HK
   go_wp2
   refine bodyPost_ret (v:= .tuple #[hnV y (o),.int .i64 (1)]) (by simp[results,Tryz.results16,go_sem,e0,e1,e2,e3,e4,e5,e6,e7,e8]) rfl ?_
   refine⟨y,by rw[HV.out]<;>rfl,?_,HB.out _ ?_⟩
   ·rw[HV.out]
    refine HFIN.out _ ?_
    (repeat' (first|with_reducible exact Sw.refl _ _ _|with_reducible apply Sw.one|with_reducible apply Sw.two))
   ·(repeat' (first|apply Below.setCell|exact Below.refl _ _))<;>first|(simp;done)|(have:=HL.out;simp;omega)
  ·rw[h1]at HQ
   by_cases h2:o.sl.length<300
   ·have HV:Hid (insB o tr dy=true):=ins_ok (by unfold canB;rw[h,h1];rfl) h2
    have HKY:Hid (ckC o C RT RL tr dy=saidC o C RT RL tr dy):=ck_yes (by unfold canB;rw[h,h1];rfl)
    have d2:decide ((300:Int)≤(o.sl.length:Int))=false:=decide_eq_false (by omega)
    clear h h1
    go_enter Tryz.func16,Tryz.ntmps16
    go_wp2_with fail
    refine named fun V0 hV=> ?_
    rw[←hV]at k0 k1 L hs
    clear hV
    refine(HC.out _ (I.on L)).mono ?_
    rintro e v1 ⟨y,rfl,C1,L1⟩
    have n0:=kept L1 (lt_of k0) k0
    have n1:=kept L1 (lt_of k1) k1
    have B1:=join_below L L1
    have hg:w.heap.size+1+1≤V0.heap.size:=Nat.le_of_eq hs.symm
    have hl1:V0.heap.size≤v1.heap.size:=L1.size
    have a0:v1.cell? ⟨w.heap.size,0,none⟩=some (.int .i64 o.dv):=cell_at n0 0
    have a1:v1.cell? ⟨w.heap.size,1,none⟩=some (.int .i64 o.p):=cell_at n0 1
    have a2:v1.cell? ⟨w.heap.size,2,none⟩=some (.int .i64 o.q):=cell_at n0 2
    have a3:v1.cell? ⟨w.heap.size,3,none⟩=some (.int .i64 o.g):=cell_at n0 3
    have a4:v1.cell? ⟨w.heap.size,4,none⟩=some (.int .i64 o.op):=cell_at n0 4
    have a5:v1.cell? ⟨w.heap.size,5,none⟩=some (.int .i64 o.is):=cell_at n0 5
    have a6:v1.cell? ⟨w.heap.size,6,none⟩=some (.int .i64 o.ve):=cell_at n0 6
    have a7:v1.cell? ⟨w.heap.size,7,none⟩=some (.slice x.a o.ol.length x.c):=cell_at n0 7
    have a8:v1.cell? ⟨w.heap.size,8,none⟩=some (.slice x.b o.sl.length x.d):=cell_at n0 8
    have c0:v1.frozen? ⟨w.heap.size,0,none⟩=false:=frozen_at n0 0
    have c1:v1.frozen? ⟨w.heap.size,1,none⟩=false:=frozen_at n0 1
    have c2:v1.frozen? ⟨w.heap.size,2,none⟩=false:=frozen_at n0 2
    have c3:v1.frozen? ⟨w.heap.size,3,none⟩=false:=frozen_at n0 3
    have c4:v1.frozen? ⟨w.heap.size,4,none⟩=false:=frozen_at n0 4
    have c5:v1.frozen? ⟨w.heap.size,5,none⟩=false:=frozen_at n0 5
    have c6:v1.frozen? ⟨w.heap.size,6,none⟩=false:=frozen_at n0 6
    have c7:v1.frozen? ⟨w.heap.size,7,none⟩=false:=frozen_at n0 7
    have c8:v1.frozen? ⟨w.heap.size,8,none⟩=false:=frozen_at n0 8
    obtain⟨V1,hV⟩:∃V,V=(put9 v1 (w.heap.size) (.int .i64 o.dv) (.int .i64 o.p) (.int .i64 o.q) (.int .i64 o.g) (.int .i64 o.op) (.int .i64 o.is) (.int .i64 o.ve) (.slice y.a o.ol.length y.c) (.slice y.b o.sl.length y.d)):=⟨_,rfl⟩
    have q0:V1.heap[w.heap.size]? =some (hnB y o 35):=by rw[hV];exact put9_heap n0 ..
    have q1:V1.heap[w.heap.size+1]? =some (.cells #[.int .i64 0,.int .i64 0,.int .i64 0,.int .i64 0,.int .i64 0,.int .i64 0,.int .i64 0,.slice none 0 0,.slice none 0 0] 35):=by rw[hV,put9_other (by omega)];exact n1
    have SW:Sw (w.heap.size) (w.heap.size+1) v1 V1:=by rw[hV];exact⟨put9_size ..,fun b h1 _=>put9_other h1 ..⟩
    have C2:Copied V0.heap.size V1 y o:=⟨SW.own C1.off (by omega) (by omega),SW.own C1.seen (by omega) (by omega)⟩
    have B2:Below w.heap.size w V1:=by rw[hV];exact put9_below B1 (Nat.le_refl _) ..
    have hl2:V0.heap.size≤V1.heap.size:=by rw[SW.size];exact hl1
    have HV1:Hid (V1=(put9 v1 (w.heap.size) (.int .i64 o.dv) (.int .i64 o.p) (.int .i64 o.q) (.int .i64 o.g) (.int .i64 o.op) (.int .i64 o.is) (.int .i64 o.ve) (.slice y.a o.ol.length y.c) (.slice y.b o.sl.length y.d))):=hV
    clear k0 k1 L L1 hs n0 n1 C1 SW hl1 hV
    go_wp2_with fail
    refine named fun V hW=> ?_
    obtain rfl:V=V1:=hW.trans HV1.out.symm
    clear hW HV1 B1 a0 a1 a2 a3 a4 a5 a6 a7 a8 c0 c1 c2 c3 c4 c5 c6 c7 c8
    refine(HH.out y _ C2.in).mono ?_
    rintro e v2 ⟨rfl,L2⟩
    have m0:=kept L2 (lt_of q0) q0
    have m1:=kept L2 (lt_of q1) q1
    have C3:=C2.on L2
    have B3:=join_below B2 L2
    have hl3:V0.heap.size≤v2.heap.size:=Nat.le_trans hl2 L2.size
    clear q0 q1 C2 B2 L2 hl2
    have HL:Hid (True):=trivial
    have a8:v2.cell? ⟨w.heap.size,8,none⟩=some (.slice y.b o.sl.length y.d):=cell_at m0 8
    go_wp2_with fail
    refine(HQ.out _).mono ?_
    rintro e v3 ⟨rfl,rfl⟩
    clear a8
    have a0:v3.cell? ⟨w.heap.size,0,none⟩=some (.int .i64 o.dv):=cell_at m0 0
    have a1:v3.cell? ⟨w.heap.size,1,none⟩=some (.int .i64 o.p):=cell_at m0 1
    have a2:v3.cell? ⟨w.heap.size,2,none⟩=some (.int .i64 o.q):=cell_at m0 2
    have a3:v3.cell? ⟨w.heap.size,3,none⟩=some (.int .i64 o.g):=cell_at m0 3
    have a4:v3.cell? ⟨w.heap.size,4,none⟩=some (.int .i64 o.op):=cell_at m0 4
    have a5:v3.cell? ⟨w.heap.size,5,none⟩=some (.int .i64 o.is):=cell_at m0 5
    have a6:v3.cell? ⟨w.heap.size,6,none⟩=some (.int .i64 o.ve):=cell_at m0 6
    have a7:v3.cell? ⟨w.heap.size,7,none⟩=some (.slice y.a o.ol.length y.c):=cell_at m0 7
    have a8:v3.cell? ⟨w.heap.size,8,none⟩=some (.slice y.b o.sl.length y.d):=cell_at m0 8
    go_wp2_with fail
    refine(HRR.out _).mono ?_
    rintro e v4 ⟨⟨ra,rc,rfl,-,-⟩,L4⟩
    have p0:=kept L4 (lt_of m0) m0
    have p1:=kept L4 (lt_of m1) m1
    have C4:=C3.on L4
    have B4:=join_below B3 L4
    have hl4:V0.heap.size≤v4.heap.size:=Nat.le_trans hl3 L4.size
    clear a0 a1 a2 a3 a4 a5 a6 a7 a8 m0 m1 C3 B3 hl3 L4
    have NT:=new_below v4 (tkB RT RN ra RL.length rc 72)
    have qT:=heap_new v4 (tkB RT RN ra RL.length rc 72)
    have q0:=heap_old p0 (tkB RT RN ra RL.length rc 72)
    have q1:=heap_old p1 (tkB RT RN ra RL.length rc 72)
    have C5:=C4.on NT
    have B5:=join_below B4 NT
    have a0:(v4.alloc (tkB RT RN ra RL.length rc 72)).cell? ⟨w.heap.size,0,none⟩=some (.int .i64 o.dv):=cell_at q0 0
    have a1:(v4.alloc (tkB RT RN ra RL.length rc 72)).cell? ⟨w.heap.size,1,none⟩=some (.int .i64 o.p):=cell_at q0 1
    have a2:(v4.alloc (tkB RT RN ra RL.length rc 72)).cell? ⟨w.heap.size,2,none⟩=some (.int .i64 o.q):=cell_at q0 2
    have a3:(v4.alloc (tkB RT RN ra RL.length rc 72)).cell? ⟨w.heap.size,3,none⟩=some (.int .i64 o.g):=cell_at q0 3
    have a4:(v4.alloc (tkB RT RN ra RL.length rc 72)).cell? ⟨w.heap.size,4,none⟩=some (.int .i64 o.op):=cell_at q0 4
    have a5:(v4.alloc (tkB RT RN ra RL.length rc 72)).cell? ⟨w.heap.size,5,none⟩=some (.int .i64 o.is):=cell_at q0 5
    have a6:(v4.alloc (tkB RT RN ra RL.length rc 72)).cell? ⟨w.heap.size,6,none⟩=some (.int .i64 o.ve):=cell_at q0 6
    have a7:(v4.alloc (tkB RT RN ra RL.length rc 72)).cell? ⟨w.heap.size,7,none⟩=some (.slice y.a o.ol.length y.c):=cell_at q0 7
    have a8:(v4.alloc (tkB RT RN ra RL.length rc 72)).cell? ⟨w.heap.size,8,none⟩=some (.slice y.b o.sl.length y.d):=cell_at q0 8
    clear p0 p1 C4 B4
    go_wp2_with fail
    refine named fun V5 hV=> ?_
    rw[←hV]at qT q0 q1 C5 B5 NT
    clear hV a0 a1 a2 a3 a4 a5 a6 a7 a8
    refine(HK.out y _ C5.in).mono ?_
    rintro e v6 ⟨rfl,L6⟩
    have r0:=kept L6 (lt_of q0) q0
    have r1:=kept L6 (lt_of q1) q1
    have rT:=kept L6 (lt_of qT) qT
    have C6:=C5.on L6
    have B6:=join_below B5 L6
    have hl6:V0.heap.size≤v6.heap.size:=by have:=NT.size;have:=L6.size;omega
    have HSL:Hid (V0.heap.size≤v4.heap.size):=hl4
    have hS6:v4.heap.size<v6.heap.size:=by have:=lt_of rT;omega
    clear q0 q1 qT C5 B5 L6 NT
    have HCE:Hid ((⟨o.dv,(o.sl.length:Int)+1,RT.id,tr,dy,(ckC o C RT RL tr dy:Nat)⟩:Ct)=ctlO o C RT RL tr dy):=by show _=_;unfold ctlO;rw[HKY.out]
    have HSE:Hid ((ckC o C RT RL tr dy:Nat)=saidC o C RT RL tr dy):=HKY.out
    generalize hk:ckC o C RT RL tr dy=kk at*
    have ND:=new_below v6 (.cells #[.int .i64 o.dv,.int .i64 ((o.sl.length:Int)+1),.int .i64 RT.id,.int .i64 tr,.int .i64 dy,.int .i64 (kk:Nat)] 77)
    have sD:=heap_new v6 (.cells #[.int .i64 o.dv,.int .i64 ((o.sl.length:Int)+1),.int .i64 RT.id,.int .i64 tr,.int .i64 dy,.int .i64 (kk:Nat)] 77)
    have s0:=heap_old r0 (.cells #[.int .i64 o.dv,.int .i64 ((o.sl.length:Int)+1),.int .i64 RT.id,.int .i64 tr,.int .i64 dy,.int .i64 (kk:Nat)] 77)
    have s1:=heap_old r1 (.cells #[.int .i64 o.dv,.int .i64 ((o.sl.length:Int)+1),.int .i64 RT.id,.int .i64 tr,.int .i64 dy,.int .i64 (kk:Nat)] 77)
    have OS:=own_below C6.seen ND (Nat.le_refl _)
    have OO:=own_below C6.off ND (Nat.le_refl _)
    have HOL:Hid (∀k,(Value.slice y.b o.sl.length y.d).ownBlock=some k→V0.heap.size≤k∧k<v6.heap.size):=fun k h=>C6.seen.lt k h
    have B7:Below w.heap.size w (v6.alloc (.cells #[.int .i64 o.dv,.int .i64 ((o.sl.length:Int)+1),.int .i64 RT.id,.int .i64 tr,.int .i64 dy,.int .i64 (kk:Nat)] 77)):=join_below B6 ND
    have hC5:V0.heap.size≤(v6.alloc (.cells #[.int .i64 o.dv,.int .i64 ((o.sl.length:Int)+1),.int .i64 RT.id,.int .i64 tr,.int .i64 dy,.int .i64 (kk:Nat)] 77)).heap.size:=Nat.le_trans hl6 ND.size
    have HG:Hid (∀j u,(cc1 (⟨o.dv,(o.sl.length:Int)+1,RT.id,tr,dy,(kk:Nat)⟩:Ct))[j]? =some u→(v6.alloc (.cells #[.int .i64 o.dv,.int .i64 ((o.sl.length:Int)+1),.int .i64 RT.id,.int .i64 tr,.int .i64 dy,.int .i64 (kk:Nat)] 77)).cell? (Addr.add ⟨v6.heap.size,0,none⟩ j)=some u):=by
     intro j u hu
     rw[add_plain,Nat.zero_add,cell_at sD j,←hu]
     simp[cc1]
    have HZ:Hid (o.sl.length<300):=h2
    obtain⟨i0,hi,hy0,hy1,hy2⟩:=info_of info_control
    have x0:v6.cell? ⟨w.heap.size,0,none⟩=some (.int .i64 o.dv):=cell_at r0 0
    have x8:v6.cell? ⟨w.heap.size,8,none⟩=some (.slice y.b o.sl.length y.d):=cell_at r0 8
    have t0:v6.cell? ⟨v4.heap.size,0,none⟩=some (.int .i64 RT.id):=cell_at rT 0
    go_wp2_with (at_builtin;refine wpList_append_own_at _ rfl _ _ 33 rfl V0.heap.size 77 i0 (lgV ⟨0,0,0,0,0,0⟩) 6 48 Tryz.underlying33 hi hy0 hy1 hy2 rfl (by decide) _ _ _ rfl OS ⟨v6.heap.size,0,none⟩ 1 1 (cc1 (⟨o.dv,(o.sl.length:Int)+1,RT.id,tr,dy,(kk:Nat)⟩:Ct)) rfl ?d0 ?d1 ?d2 ?d3 ?d4 ?d5 ?_)
    case d0=>rfl
    case d1=>exact HG.out
    case d2=>intro u hu;simp only[cc1,List.mem_cons,List.not_mem_nil,or_false]at hu;rcases hu with rfl|rfl|rfl|rfl|rfl|rfl<;>rfl
    case d3=>have:=HZ.out;unfold maxLen;omega
    case d4=>have:=HZ.out;omega
    case d5=>exact hC5
    intro v' w5 O5 G5 _ _
    rw[ccells_snoc]at O5
    obtain⟨sa,sc,rfl,-⟩:=own_form O5
    have O6:w5.ownsRow V0.heap.size 77 6 (.slice sa (o.sl++ [(⟨o.dv,(o.sl.length:Int)+1,RT.id,tr,dy,(kk:Nat)⟩:Ct)]).length sc) (o.sl++ [(⟨o.dv,(o.sl.length:Int)+1,RT.id,tr,dy,(kk:Nat)⟩:Ct)]).length (ccells (o.sl++ [(⟨o.dv,(o.sl.length:Int)+1,RT.id,tr,dy,(kk:Nat)⟩:Ct)])):=by rw[show(o.sl++ [(⟨o.dv,(o.sl.length:Int)+1,RT.id,tr,dy,(kk:Nat)⟩:Ct)]).length=o.sl.length+1 by simp];exact O5
    have OF:=off_grown OO OS G5
    have u0:=grown_at G5 s0 (fun e=>by have:=(HOL.out _ e.symm).1;omega)
    have u1:=grown_at G5 s1 (fun e=>by have:=(HOL.out _ e.symm).1;omega)
    have B8:Below w.heap.size w w5:=B7.grown G5 B7.size (fun k h=>by have:=(HOL.out k h).1;omega)
    clear G5 OS OO HG hi hy0 hy1 hy2 ND s0 s1 sD B7 hC5 B6 r0 r1 rT x0 x8 t0 C6 HOL
    have e0:w5.cell? ⟨w.heap.size+1,0,none⟩=some (.int .i64 0):=cell_at u1 0
    have e1:w5.cell? ⟨w.heap.size+1,1,none⟩=some (.int .i64 0):=cell_at u1 1
    have e2:w5.cell? ⟨w.heap.size+1,2,none⟩=some (.int .i64 0):=cell_at u1 2
    have e3:w5.cell? ⟨w.heap.size+1,3,none⟩=some (.int .i64 0):=cell_at u1 3
    have e4:w5.cell? ⟨w.heap.size+1,4,none⟩=some (.int .i64 0):=cell_at u1 4
    have e5:w5.cell? ⟨w.heap.size+1,5,none⟩=some (.int .i64 0):=cell_at u1 5
    have e6:w5.cell? ⟨w.heap.size+1,6,none⟩=some (.int .i64 0):=cell_at u1 6
    have e7:w5.cell? ⟨w.heap.size+1,7,none⟩=some (.slice none 0 0):=cell_at u1 7
    have e8:w5.cell? ⟨w.heap.size+1,8,none⟩=some (.slice none 0 0):=cell_at u1 8
    have f0:w5.frozen? ⟨w.heap.size+1,0,none⟩=false:=frozen_at u1 0
    have f1:w5.frozen? ⟨w.heap.size+1,1,none⟩=false:=frozen_at u1 1
    have f2:w5.frozen? ⟨w.heap.size+1,2,none⟩=false:=frozen_at u1 2
    have f3:w5.frozen? ⟨w.heap.size+1,3,none⟩=false:=frozen_at u1 3
    have f4:w5.frozen? ⟨w.heap.size+1,4,none⟩=false:=frozen_at u1 4
    have f5:w5.frozen? ⟨w.heap.size+1,5,none⟩=false:=frozen_at u1 5
    have f6:w5.frozen? ⟨w.heap.size+1,6,none⟩=false:=frozen_at u1 6
    have f7:w5.frozen? ⟨w.heap.size+1,7,none⟩=false:=frozen_at u1 7
    have f8:w5.frozen? ⟨w.heap.size+1,8,none⟩=false:=frozen_at u1 8
    have a0:w5.cell? ⟨w.heap.size,0,none⟩=some (.int .i64 o.dv):=cell_at u0 0
    have a1:w5.cell? ⟨w.heap.size,1,none⟩=some (.int .i64 o.p):=cell_at u0 1
    have a2:w5.cell? ⟨w.heap.size,2,none⟩=some (.int .i64 o.q):=cell_at u0 2
    have a3:w5.cell? ⟨w.heap.size,3,none⟩=some (.int .i64 o.g):=cell_at u0 3
    have a4:w5.cell? ⟨w.heap.size,4,none⟩=some (.int .i64 o.op):=cell_at u0 4
    have a5:w5.cell? ⟨w.heap.size,5,none⟩=some (.int .i64 o.is):=cell_at u0 5
    have a6:w5.cell? ⟨w.heap.size,6,none⟩=some (.int .i64 o.ve):=cell_at u0 6
    have a7:w5.cell? ⟨w.heap.size,7,none⟩=some (.slice y.a o.ol.length y.c):=cell_at u0 7
    have a8:w5.cell? ⟨w.heap.size,8,none⟩=some (.slice y.b o.sl.length y.d):=cell_at u0 8
    have c8:w5.frozen? ⟨w.heap.size,8,none⟩=false:=frozen_at u0 8
    have HNE:Hid (∀k,(Value.slice sa (o.sl++ [(⟨o.dv,(o.sl.length:Int)+1,RT.id,tr,dy,(kk:Nat)⟩:Ct)]).length sc).ownBlock=some k→k≠w.heap.size∧w.heap.size+1+1≤k):=fun k h=>by have:=(O6.lt k h).1;exact⟨by omega,by omega⟩
    have HNO:Hid (∀k,(Value.slice y.a o.ol.length y.c).ownBlock=some k→k≠w.heap.size∧w.heap.size+1+1≤k):=fun k h=>by have:=(OF.lt k h).1;exact⟨by omega,by omega⟩
    have HFIN:Hid (∀W,Sw (w.heap.size+1) (w.heap.size) w5 W→Copied w.heap.size W ⟨y.a,y.c,sa,sc⟩ (insO true o (⟨o.dv,(o.sl.length:Int)+1,RT.id,tr,dy,(kk:Nat)⟩:Ct))):=fun W s=>⟨own_lower (own_sw OF s HNO.out) (by omega),own_lower (own_sw O6 s HNE.out) (by omega)⟩
    have HB:Hid (∀W,Below w.heap.size w5 W→Below w.heap.size w W):=fun W l=>B8.trans l
    clear u0 u1 B8 O5 O6 OF HNE HNO hl4 hl6 hS6 hg HZ HSL I HC HH HQ HRR HK h2
    go_wp2
    refine bodyPost_ret (v:= .tuple #[hnV ⟨y.a,y.c,sa,sc⟩ { o with sl:=o.sl++ [(⟨o.dv,(o.sl.length:Int)+1,RT.id,tr,dy,(kk:Nat)⟩:Ct)] },.int .i64 (kk:Nat)]) (by simp[results,Tryz.results16,go_sem,e0,e1,e2,e3,e4,e5,e6,e7,e8]) rfl ?_
    refine⟨⟨y.a,y.c,sa,sc⟩,by rw[HV.out,←HCE.out,←HSE.out]<;>rfl,?_,HB.out _ ?_⟩
    ·rw[HV.out,←HCE.out]
     refine HFIN.out _ ?_
     (repeat' (first|with_reducible exact Sw.refl _ _ _|with_reducible apply Sw.one|with_reducible apply Sw.two))
    ·(repeat' (first|with_reducible exact Below.refl _ _|with_reducible apply Below.setCell))<;>first|(simp;done)|(simp;omega)
   ·have HV:Hid (insB o tr dy=false):=ins_no2 h2
    have d2:decide ((300:Int)≤(o.sl.length:Int))=true:=decide_eq_true (by omega)
    clear h h1 h2
    go_enter Tryz.func16,Tryz.ntmps16
    go_wp2_with fail
    refine named fun V0 hV=> ?_
    rw[←hV]at k0 k1 L hs
    clear hV
    refine(HC.out _ (I.on L)).mono ?_
    rintro e v1 ⟨y,rfl,C1,L1⟩
    have n0:=kept L1 (lt_of k0) k0
    have n1:=kept L1 (lt_of k1) k1
    have B1:=join_below L L1
    have hg:w.heap.size+1+1≤V0.heap.size:=Nat.le_of_eq hs.symm
    have hl1:V0.heap.size≤v1.heap.size:=L1.size
    have a0:v1.cell? ⟨w.heap.size,0,none⟩=some (.int .i64 o.dv):=cell_at n0 0
    have a1:v1.cell? ⟨w.heap.size,1,none⟩=some (.int .i64 o.p):=cell_at n0 1
    have a2:v1.cell? ⟨w.heap.size,2,none⟩=some (.int .i64 o.q):=cell_at n0 2
    have a3:v1.cell? ⟨w.heap.size,3,none⟩=some (.int .i64 o.g):=cell_at n0 3
    have a4:v1.cell? ⟨w.heap.size,4,none⟩=some (.int .i64 o.op):=cell_at n0 4
    have a5:v1.cell? ⟨w.heap.size,5,none⟩=some (.int .i64 o.is):=cell_at n0 5
    have a6:v1.cell? ⟨w.heap.size,6,none⟩=some (.int .i64 o.ve):=cell_at n0 6
    have a7:v1.cell? ⟨w.heap.size,7,none⟩=some (.slice x.a o.ol.length x.c):=cell_at n0 7
    have a8:v1.cell? ⟨w.heap.size,8,none⟩=some (.slice x.b o.sl.length x.d):=cell_at n0 8
    have c0:v1.frozen? ⟨w.heap.size,0,none⟩=false:=frozen_at n0 0
    have c1:v1.frozen? ⟨w.heap.size,1,none⟩=false:=frozen_at n0 1
    have c2:v1.frozen? ⟨w.heap.size,2,none⟩=false:=frozen_at n0 2
    have c3:v1.frozen? ⟨w.heap.size,3,none⟩=false:=frozen_at n0 3
    have c4:v1.frozen? ⟨w.heap.size,4,none⟩=false:=frozen_at n0 4
    have c5:v1.frozen? ⟨w.heap.size,5,none⟩=false:=frozen_at n0 5
    have c6:v1.frozen? ⟨w.heap.size,6,none⟩=false:=frozen_at n0 6
    have c7:v1.frozen? ⟨w.heap.size,7,none⟩=false:=frozen_at n0 7
    have c8:v1.frozen? ⟨w.heap.size,8,none⟩=false:=frozen_at n0 8
    obtain⟨V1,hV⟩:∃V,V=(put9 v1 (w.heap.size) (.int .i64 o.dv) (.int .i64 o.p) (.int .i64 o.q) (.int .i64 o.g) (.int .i64 o.op) (.int .i64 o.is) (.int .i64 o.ve) (.slice y.a o.ol.length y.c) (.slice y.b o.sl.length y.d)):=⟨_,rfl⟩
    have q0:V1.heap[w.heap.size]? =some (hnB y o 35):=by rw[hV];exact put9_heap n0 ..
    have q1:V1.heap[w.heap.size+1]? =some (.cells #[.int .i64 0,.int .i64 0,.int .i64 0,.int .i64 0,.int .i64 0,.int .i64 0,.int .i64 0,.slice none 0 0,.slice none 0 0] 35):=by rw[hV,put9_other (by omega)];exact n1
    have SW:Sw (w.heap.size) (w.heap.size+1) v1 V1:=by rw[hV];exact⟨put9_size ..,fun b h1 _=>put9_other h1 ..⟩
    have C2:Copied V0.heap.size V1 y o:=⟨SW.own C1.off (by omega) (by omega),SW.own C1.seen (by omega) (by omega)⟩
    have B2:Below w.heap.size w V1:=by rw[hV];exact put9_below B1 (Nat.le_refl _) ..
    have hl2:V0.heap.size≤V1.heap.size:=by rw[SW.size];exact hl1
    have HV1:Hid (V1=(put9 v1 (w.heap.size) (.int .i64 o.dv) (.int .i64 o.p) (.int .i64 o.q) (.int .i64 o.g) (.int .i64 o.op) (.int .i64 o.is) (.int .i64 o.ve) (.slice y.a o.ol.length y.c) (.slice y.b o.sl.length y.d))):=hV
    clear k0 k1 L L1 hs n0 n1 C1 SW hl1 hV
    go_wp2_with fail
    refine named fun V hW=> ?_
    obtain rfl:V=V1:=hW.trans HV1.out.symm
    clear hW HV1 B1 a0 a1 a2 a3 a4 a5 a6 a7 a8 c0 c1 c2 c3 c4 c5 c6 c7 c8
    refine(HH.out y _ C2.in).mono ?_
    rintro e v2 ⟨rfl,L2⟩
    have m0:=kept L2 (lt_of q0) q0
    have m1:=kept L2 (lt_of q1) q1
    have C3:=C2.on L2
    have B3:=join_below B2 L2
    have hl3:V0.heap.size≤v2.heap.size:=Nat.le_trans hl2 L2.size
    clear q0 q1 C2 B2 L2 hl2
    have HL:Hid (True):=trivial
    have a8:v2.cell? ⟨w.heap.size,8,none⟩=some (.slice y.b o.sl.length y.d):=cell_at m0 8
    go_wp2_with fail
    refine(HQ.out _).mono ?_
    rintro e v3 ⟨rfl,rfl⟩
    clear a8
    have e0:v3.cell? ⟨w.heap.size+1,0,none⟩=some (.int .i64 0):=cell_at m1 0
    have e1:v3.cell? ⟨w.heap.size+1,1,none⟩=some (.int .i64 0):=cell_at m1 1
    have e2:v3.cell? ⟨w.heap.size+1,2,none⟩=some (.int .i64 0):=cell_at m1 2
    have e3:v3.cell? ⟨w.heap.size+1,3,none⟩=some (.int .i64 0):=cell_at m1 3
    have e4:v3.cell? ⟨w.heap.size+1,4,none⟩=some (.int .i64 0):=cell_at m1 4
    have e5:v3.cell? ⟨w.heap.size+1,5,none⟩=some (.int .i64 0):=cell_at m1 5
    have e6:v3.cell? ⟨w.heap.size+1,6,none⟩=some (.int .i64 0):=cell_at m1 6
    have e7:v3.cell? ⟨w.heap.size+1,7,none⟩=some (.slice none 0 0):=cell_at m1 7
    have e8:v3.cell? ⟨w.heap.size+1,8,none⟩=some (.slice none 0 0):=cell_at m1 8
    have f0:v3.frozen? ⟨w.heap.size+1,0,none⟩=false:=frozen_at m1 0
    have f1:v3.frozen? ⟨w.heap.size+1,1,none⟩=false:=frozen_at m1 1
    have f2:v3.frozen? ⟨w.heap.size+1,2,none⟩=false:=frozen_at m1 2
    have f3:v3.frozen? ⟨w.heap.size+1,3,none⟩=false:=frozen_at m1 3
    have f4:v3.frozen? ⟨w.heap.size+1,4,none⟩=false:=frozen_at m1 4
    have f5:v3.frozen? ⟨w.heap.size+1,5,none⟩=false:=frozen_at m1 5
    have f6:v3.frozen? ⟨w.heap.size+1,6,none⟩=false:=frozen_at m1 6
    have f7:v3.frozen? ⟨w.heap.size+1,7,none⟩=false:=frozen_at m1 7
    have f8:v3.frozen? ⟨w.heap.size+1,8,none⟩=false:=frozen_at m1 8
    have a0:v3.cell? ⟨w.heap.size,0,none⟩=some (.int .i64 o.dv):=cell_at m0 0
    have a1:v3.cell? ⟨w.heap.size,1,none⟩=some (.int .i64 o.p):=cell_at m0 1
    have a2:v3.cell? ⟨w.heap.size,2,none⟩=some (.int .i64 o.q):=cell_at m0 2
    have a3:v3.cell? ⟨w.heap.size,3,none⟩=some (.int .i64 o.g):=cell_at m0 3
    have a4:v3.cell? ⟨w.heap.size,4,none⟩=some (.int .i64 o.op):=cell_at m0 4
    have a5:v3.cell? ⟨w.heap.size,5,none⟩=some (.int .i64 o.is):=cell_at m0 5
    have a6:v3.cell? ⟨w.heap.size,6,none⟩=some (.int .i64 o.ve):=cell_at m0 6
    have a7:v3.cell? ⟨w.heap.size,7,none⟩=some (.slice y.a o.ol.length y.c):=cell_at m0 7
    have a8:v3.cell? ⟨w.heap.size,8,none⟩=some (.slice y.b o.sl.length y.d):=cell_at m0 8
    have HFIN:Hid (∀W,Sw (w.heap.size+1) (w.heap.size) v3 W→Copied w.heap.size W y (insO false o (ctlO o C RT RL tr dy))):=fun W s=>⟨own_lower (s.own C3.off (by omega) (by omega)) (by omega),own_lower (s.own C3.seen (by omega) (by omega)) (by omega)⟩
    have HB:Hid (∀W,Below w.heap.size v3 W→Below w.heap.size w W):=fun W l=>B3.trans l
    clear B3 C3 m0 m1 hl3 hg I HC HH HQ HRR HK
    go_wp2
    refine bodyPost_ret (v:= .tuple #[hnV y (o),.int .i64 (1)]) (by simp[results,Tryz.results16,go_sem,e0,e1,e2,e3,e4,e5,e6,e7,e8]) rfl ?_
    refine⟨y,by rw[HV.out]<;>rfl,?_,HB.out _ ?_⟩
    ·rw[HV.out]
     refine HFIN.out _ ?_
     (repeat' (first|with_reducible exact Sw.refl _ _ _|with_reducible apply Sw.one|with_reducible apply Sw.two))
    ·(repeat' (first|apply Below.setCell|exact Below.refl _ _))<;>first|(simp;done)|(have:=HL.out;simp;omega)

end Hn
end Go.Proofs.YtdcpjicgehdmfaaGreatDoor

/- The way around the middle of a square, as plain mathematics: rings, places, steps, corners. -/
namespace Go.Proofs.YtdcpjicgehdmfaaGreatDoor
namespace Sq
set_option linter.unusedSimpArgs false
set_option linter.unusedVariables false

def ptX (d n:Int):Int:=if n<2*d then d else if n<4*d then d-1-(n-2*d)else if n<6*d then-d else-d+1+n-6*d

def ptY (d n:Int):Int:=if n<2*d then d-1-n else if n<4*d then-d else if n<6*d then-d+1+n-4*d else d

def ring:Nat→Nat×Nat
 |0=>(1,0)
 |k+1=>if(ring k).2+1<8*(ring k).1 then((ring k).1,(ring k).2+1)else((ring k).1+1,0)

theorem sq_step (d:Nat) (h:1≤d):4*((d+1)*d)=4*(d*(d-1))+8*d:=by
 obtain⟨e,rfl⟩:∃e,d=e+1:=⟨d-1,by omega⟩
 simp only[Nat.add_sub_cancel,Nat.add_mul,Nat.mul_add]
 omega

theorem ring_at (k:Nat):1≤(ring k).1∧(ring k).2<8*(ring k).1∧k=4*((ring k).1*((ring k).1-1))+(ring k).2:=by
 induction k with
 |zero=>simp[ring]
 |succ k ih=>
  obtain⟨h1,h2,h3⟩:=ih
  unfold ring
  by_cases h:(ring k).2+1<8*(ring k).1
  ·rw[if_pos h]
   exact⟨h1,h,by show k+1=4*((ring k).1*((ring k).1-1))+((ring k).2+1);omega⟩
  ·rw[if_neg h]
   refine⟨by show 1≤(ring k).1+1;omega,by show 0<8*((ring k).1+1);omega,?_⟩
   show k+1=4*(((ring k).1+1)*((ring k).1+1-1))+0
   have:=sq_step (ring k).1 h1
   rw[Nat.add_sub_cancel]
   omega

theorem sq_less {d e:Nat} (h1:1≤d) (h:d<e):4*(d*(d-1))+8*d≤4*(e*(e-1)):=by
 rw[←sq_step d h1]
 exact Nat.mul_le_mul_left 4 (Nat.mul_le_mul (by omega) (by omega))

theorem ring_one {d n k:Nat} (h1:1≤d) (h2:n<8*d) (h3:k=4*(d*(d-1))+n):ring k=(d,n):=by
 obtain⟨a1,a2,a3⟩:=ring_at k
 have e:(ring k).1=d:=by
  rcases Nat.lt_trichotomy (ring k).1 d with h|h|h
  ·have:=sq_less a1 h
   omega
  ·exact h
  ·have:=sq_less h1 h
   omega
 have e2:(ring k).2=n:=by rw[e]at a3;omega
 exact Prod.ext e e2

def wx:Nat→Int
 |0=>0
 |k+1=>ptX (ring k).1 (ring k).2

def wy:Nat→Int
 |0=>0
 |k+1=>ptY (ring k).1 (ring k).2

def dirOf (d n:Nat):Nat:=if n+1<2*d then 1 else if n+1<4*d then 2 else if n+1<6*d then 3 else 0

def dir:Nat→Nat
 |0=>0
 |k+1=>dirOf (ring k).1 (ring k).2

def sx (i:Nat):Int:=if i=0 then 1 else if i=2 then-1 else 0

def sy (i:Nat):Int:=if i=1 then-1 else if i=3 then 1 else 0

def cornerB (x y:Int):Bool:=if 0<x∧0≤y then decide (x=y+1)else decide (x=y)||decide (x= -y)

theorem dirOf_1 {d n:Nat} (h:n+1<2*d):dirOf d n=1:=by unfold dirOf;rw[if_pos h]

theorem dirOf_2 {d n:Nat} (h:2*d≤n+1) (h':n+1<4*d):dirOf d n=2:=by unfold dirOf;rw[if_neg (by omega),if_pos h']

theorem dirOf_3 {d n:Nat} (h:4*d≤n+1) (h':n+1<6*d):dirOf d n=3:=by unfold dirOf;rw[if_neg (by omega),if_neg (by omega),if_pos h']

theorem dirOf_0 {d n:Nat} (h:6*d≤n+1):dirOf d n=0:=by unfold dirOf;rw[if_neg (by omega),if_neg (by omega),if_neg (by omega)]

theorem pt_1 {d n:Int} (h:n<2*d):ptX d n=d∧ptY d n=d-1-n:=by unfold ptX ptY;rw[if_pos h,if_pos h];exact⟨rfl,rfl⟩

theorem pt_2 {d n:Int} (h0:2*d≤n) (h:n<4*d):ptX d n=d-1-(n-2*d)∧ptY d n= -d:=by
 unfold ptX ptY;exact⟨by rw[if_neg (by omega),if_pos h],by rw[if_neg (by omega),if_pos h]⟩

theorem pt_3 {d n:Int} (hd:1≤d) (h0:4*d≤n) (h:n<6*d):ptX d n= -d∧ptY d n= -d+1+n-4*d:=by
 unfold ptX ptY;exact⟨by rw[if_neg (by omega),if_neg (by omega),if_pos h],by rw[if_neg (by omega),if_neg (by omega),if_pos h]⟩

theorem pt_4 {d n:Int} (hd:1≤d) (h0:6*d≤n):ptX d n= -d+1+n-6*d∧ptY d n=d:=by
 unfold ptX ptY;exact⟨by rw[if_neg (by omega),if_neg (by omega),if_neg (by omega)],by rw[if_neg (by omega),if_neg (by omega),if_neg (by omega)]⟩

theorem sides {d n:Int} (hd:1≤d):(n<2*d∧ptX d n=d∧ptY d n=d-1-n)∨(2*d≤n∧n<4*d∧ptX d n=d-1-(n-2*d)∧ptY d n= -d)∨(4*d≤n∧n<6*d∧ptX d n= -d∧ptY d n= -d+1+n-4*d)∨(6*d≤n∧ptX d n= -d+1+n-6*d∧ptY d n=d):=by
 by_cases h1:n<2*d
 ·exact .inl ⟨h1,pt_1 h1⟩
 ·by_cases h2:n<4*d
  ·exact .inr (.inl ⟨by omega,h2,pt_2 (by omega) h2⟩)
  ·by_cases h3:n<6*d
   ·exact .inr (.inr (.inl ⟨by omega,h3,pt_3 hd (by omega) h3⟩))
   ·exact .inr (.inr (.inr ⟨by omega,pt_4 hd (by omega)⟩))

theorem dirs (d n:Nat):(n+1<2*d∧dirOf d n=1∧sx (dirOf d n)=0∧sy (dirOf d n)= -1)∨(2*d≤n+1∧n+1<4*d∧dirOf d n=2∧sx (dirOf d n)= -1∧sy (dirOf d n)=0)∨(4*d≤n+1∧n+1<6*d∧dirOf d n=3∧sx (dirOf d n)=0∧sy (dirOf d n)=1)∨(6*d≤n+1∧dirOf d n=0∧sx (dirOf d n)=1∧sy (dirOf d n)=0):=by
 by_cases h1:n+1<2*d
 ·have e:=dirOf_1 h1;rw[e];exact .inl ⟨h1,rfl,rfl,rfl⟩
 ·by_cases h2:n+1<4*d
  ·have e:=dirOf_2 (by omega) h2;rw[e];exact .inr (.inl ⟨by omega,h2,rfl,rfl,rfl⟩)
  ·by_cases h3:n+1<6*d
   ·have e:=dirOf_3 (by omega) h3;rw[e];exact .inr (.inr (.inl ⟨by omega,h3,rfl,rfl,rfl⟩))
   ·have e:=dirOf_0 (d:=d) (n:=n) (by omega);rw[e];exact .inr (.inr (.inr ⟨by omega,rfl,rfl,rfl⟩))

theorem pt_next (d n:Nat) (h1:1≤d) (h:n+1<8*d):ptX d (n+1:Nat)=ptX d n+sx (dirOf d n)∧ptY d (n+1:Nat)=ptY d n+sy (dirOf d n):=by
 have a:=sides (d:=d) (n:=(n+1:Nat)) (by omega)
 have b:=sides (d:=d) (n:=n) (by omega)
 have c:=dirs d n
 omega

theorem pt_ring (d n:Nat) (h1:1≤d) (h0:n<8*d) (h:¬n+1<8*d):ptX (d+1:Nat) (0:Nat)=ptX d n+sx (dirOf d n)∧ptY (d+1:Nat) (0:Nat)=ptY d n+sy (dirOf d n):=by
 have a:=sides (d:=(d+1:Nat)) (n:=(0:Nat)) (by omega)
 have b:=sides (d:=d) (n:=n) (by omega)
 have c:=dirs d n
 omega

theorem ring_up {k:Nat} (h:(ring k).2+1<8*(ring k).1):ring (k+1)=((ring k).1,(ring k).2+1):=if_pos h

theorem ring_new {k:Nat} (h:¬(ring k).2+1<8*(ring k).1):ring (k+1)=((ring k).1+1,0):=if_neg h

theorem way_step (k:Nat):wx (k+1)=wx k+sx (dir k)∧wy (k+1)=wy k+sy (dir k):=by
 cases k with
 |zero=>decide
 |succ k=>
  obtain⟨h1,h2,-⟩:=ring_at k
  show ptX (ring (k+1)).1 (ring (k+1)).2=ptX (ring k).1 (ring k).2+sx (dirOf (ring k).1 (ring k).2)∧ptY (ring (k+1)).1 (ring (k+1)).2=ptY (ring k).1 (ring k).2+sy (dirOf (ring k).1 (ring k).2)
  by_cases h:(ring k).2+1<8*(ring k).1
  ·rw[ring_up h]
   exact pt_next _ _ h1 h
  ·rw[ring_new h]
   exact pt_ring _ _ h1 h2 h

theorem corner_is (x y:Int):cornerB x y=true↔(0<x∧0≤y∧x=y+1)∨(¬(0<x∧0≤y)∧(x=y∨x= -y)):=by
 unfold cornerB
 by_cases h:0<x∧0≤y
 ·rw[if_pos h,decide_eq_true_eq];omega
 ·rw[if_neg h,Bool.or_eq_true,decide_eq_true_eq,decide_eq_true_eq];omega

theorem corner_next (d n:Nat) (h1:1≤d) (h:n+1<8*d):dirOf d (n+1)=if cornerB (ptX d (n+1:Nat)) (ptY d (n+1:Nat))=true then(dirOf d n+1)%4 else dirOf d n:=by
 have a:=sides (d:=d) (n:=(n+1:Nat)) (by omega)
 have c:=dirs d n
 have c':=dirs d (n+1)
 have k:=corner_is (ptX d (n+1:Nat)) (ptY d (n+1:Nat))
 by_cases hc:cornerB (ptX d (n+1:Nat)) (ptY d (n+1:Nat))=true
 ·rw[if_pos hc]
  have:=k.1 hc
  clear k hc
  omega
 ·rw[if_neg hc]
  have hn:¬((0<ptX d (n+1:Nat)∧0≤ptY d (n+1:Nat)∧ptX d (n+1:Nat)=ptY d (n+1:Nat)+1)∨(¬(0<ptX d (n+1:Nat)∧0≤ptY d (n+1:Nat))∧(ptX d (n+1:Nat)=ptY d (n+1:Nat)∨ptX d (n+1:Nat)= -ptY d (n+1:Nat)))):=fun h=>hc (k.2 h)
  clear k hc
  omega

theorem corner_ring (d n:Nat) (h1:1≤d) (h0:n<8*d) (h:¬n+1<8*d):dirOf (d+1) 0=if cornerB (ptX (d+1:Nat) (0:Nat)) (ptY (d+1:Nat) (0:Nat))=true then(dirOf d n+1)%4 else dirOf d n:=by
 have a:=sides (d:=(d+1:Nat)) (n:=(0:Nat)) (by omega)
 have c:=dirs d n
 have c':=dirs (d+1) 0
 have k:=corner_is (ptX (d+1:Nat) (0:Nat)) (ptY (d+1:Nat) (0:Nat))
 rw[if_pos (k.2 (by omega))]
 omega

theorem dir_step (k:Nat):dir (k+1)=if cornerB (wx (k+1)) (wy (k+1))=true then(dir k+1)%4 else dir k:=by
 cases k with
 |zero=>decide
 |succ k=>
  obtain⟨h1,h2,-⟩:=ring_at k
  show dirOf (ring (k+1)).1 (ring (k+1)).2=if cornerB (ptX (ring (k+1)).1 (ring (k+1)).2) (ptY (ring (k+1)).1 (ring (k+1)).2)=true then(dirOf (ring k).1 (ring k).2+1)%4 else dirOf (ring k).1 (ring k).2
  by_cases h:(ring k).2+1<8*(ring k).1
  ·rw[ring_up h]
   exact corner_next _ _ h1 h
  ·rw[ring_new h]
   exact corner_ring _ _ h1 h2 h

theorem dir_lt (k:Nat):dir k<4:=by
 cases k with
 |zero=>decide
 |succ k=>
  show dirOf _ _<4
  unfold dirOf
  repeat' split
  all_goals omega

def dist (x y:Int):Nat:=Nat.max x.natAbs y.natAbs

theorem pt_dist (d n:Nat) (h1:1≤d) (h:n<8*d):dist (ptX d n) (ptY d n)=d:=by
 have:(ptX d n).natAbs≤d∧(ptY d n).natAbs≤d∧((ptX d n).natAbs=d∨(ptY d n).natAbs=d):=by
  have a:=sides (d:=d) (n:=n) (by omega)
  omega
 unfold dist
 obtain⟨a,b,c⟩:=this
 rcases c with c|c
 ·rw[c];exact Nat.max_eq_left b
 ·rw[c];exact Nat.max_eq_right a

theorem side (h:Nat):(2*h+1)*(2*h+1)=4*((h+1)*h)+1:=by
 simp only[Nat.add_mul,Nat.mul_add,Nat.mul_one,Nat.one_mul]
 rw[Nat.mul_mul_mul_comm]
 omega

theorem way_dist (k h:Nat) (hk:k<(2*h+1)*(2*h+1)):dist (wx k) (wy k)≤h:=by
 cases k with
 |zero=>exact Nat.zero_le _
 |succ k=>
  obtain⟨h1,h2,h3⟩:=ring_at k
  show dist (ptX _ _) (ptY _ _)≤h
  rw[pt_dist _ _ h1 h2]
  rw[side]at hk
  by_cases hh:(ring k).1≤h
  ·exact hh
  ·have:4*((h+1)*h)≤4*((ring k).1*((ring k).1-1)):=Nat.mul_le_mul_left 4 (Nat.mul_le_mul (by omega) (by omega))
   omega

theorem dist_in {x y:Int} {h:Nat} (hd:dist x y≤h): -(h:Int)≤x∧x≤h∧ -(h:Int)≤y∧y≤h:=by
 have a:x.natAbs≤h:=Nat.le_trans (Nat.le_max_left _ _) hd
 have b:y.natAbs≤h:=Nat.le_trans (Nat.le_max_right _ _) hd
 omega

theorem in_dist {x y:Int} {h:Nat} (hx: -(h:Int)≤x∧x≤h) (hy: -(h:Int)≤y∧y≤h):dist x y≤h:=Nat.max_le.2 ⟨by omega,by omega⟩

def nOf (d x y:Int):Int:=if x=d∧y<d then d-1-y else if y= -d then d-1-x+2*d else if x= -d then y+d-1+4*d else x+d-1+6*d

def kOf (x y:Int):Nat:=if dist x y=0 then 0 else 1+4*(dist x y*(dist x y-1))+(nOf (dist x y) x y).toNat

theorem nOf_is (d x y:Int):(x=d∧y<d∧nOf d x y=d-1-y)∨(¬(x=d∧y<d)∧y= -d∧nOf d x y=d-1-x+2*d)∨(¬(x=d∧y<d)∧¬y= -d∧x= -d∧nOf d x y=y+d-1+4*d)∨(¬(x=d∧y<d)∧¬y= -d∧¬x= -d∧nOf d x y=x+d-1+6*d):=by
 unfold nOf
 by_cases h1:x=d∧y<d
 ·rw[if_pos h1];omega
 ·rw[if_neg h1]
  by_cases h2:y= -d
  ·rw[if_pos h2];omega
  ·rw[if_neg h2]
   by_cases h3:x= -d
   ·rw[if_pos h3];omega
   ·rw[if_neg h3];omega

theorem nOf_pt (d n:Nat) (h1:1≤d) (h:n<8*d):nOf d (ptX d n) (ptY d n)=n:=by
 have a:=sides (d:=d) (n:=n) (by omega)
 have b:=nOf_is d (ptX d n) (ptY d n)
 omega

theorem pt_nOf (d:Nat) (x y:Int) (h1:1≤d) (hx: -(d:Int)≤x∧x≤d) (hy: -(d:Int)≤y∧y≤d) (hm:x=d∨x= -d∨y=d∨y= -d):
 0≤nOf d x y∧nOf d x y<8*d∧ptX d (nOf d x y)=x∧ptY d (nOf d x y)=y:=by
 have b:=nOf_is d x y
 have a:=sides (d:=d) (n:=nOf d x y) (by omega)
 omega

theorem kOf_way (k:Nat):kOf (wx k) (wy k)=k:=by
 cases k with
 |zero=>rfl
 |succ k=>
  obtain⟨h1,h2,h3⟩:=ring_at k
  show kOf (ptX (ring k).1 (ring k).2) (ptY (ring k).1 (ring k).2)=k+1
  unfold kOf
  rw[pt_dist _ _ h1 h2,nOf_pt _ _ h1 h2,if_neg (by omega)]
  omega

theorem way_kOf (x y:Int):wx (kOf x y)=x∧wy (kOf x y)=y:=by
 by_cases h0:dist x y=0
 ·have e:kOf x y=0:=by unfold kOf;rw[if_pos h0]
  obtain⟨a,b,c,d⟩:=dist_in (Nat.le_of_eq h0)
  rw[e]
  show(0:Int)=x∧(0:Int)=y
  omega
 ·obtain⟨a1,a2,a3,a4⟩:=dist_in (Nat.le_refl (dist x y))
  have hm:x=dist x y∨x= -(dist x y:Int)∨y=dist x y∨y= -(dist x y:Int):=by
   have:dist x y=x.natAbs∨dist x y=y.natAbs:=by
    unfold dist
    rcases Nat.le_total x.natAbs y.natAbs with h|h
    ·exact .inr (Nat.max_eq_right h)
    ·exact .inl (Nat.max_eq_left h)
   omega
  obtain⟨b1,b2,b3,b4⟩:=pt_nOf (dist x y) x y (by omega) ⟨a1,a2⟩ ⟨a3,a4⟩ hm
  have e:kOf x y=(4*(dist x y*(dist x y-1))+(nOf (dist x y) x y).toNat)+1:=by unfold kOf;rw[if_neg h0];omega
  have r:=ring_one (d:=dist x y) (n:=(nOf (dist x y) x y).toNat) (by omega) (by omega) rfl
  rw[e]
  show ptX (ring _).1 (ring _).2=x∧ptY (ring _).1 (ring _).2=y
  rw[r]
  show ptX (dist x y) ((nOf (dist x y) x y).toNat:Int)=x∧ptY (dist x y) ((nOf (dist x y) x y).toNat:Int)=y
  rw[Int.toNat_of_nonneg b1]
  exact⟨b3,b4⟩

theorem kOf_lt {x y:Int} {h:Nat} (hd:dist x y≤h):kOf x y<(2*h+1)*(2*h+1):=by
 rw[side]
 unfold kOf
 by_cases h0:dist x y=0
 ·rw[if_pos h0];omega
 ·rw[if_neg h0]
  obtain⟨a1,a2,a3,a4⟩:=dist_in (Nat.le_refl (dist x y))
  have hm:x=dist x y∨x= -(dist x y:Int)∨y=dist x y∨y= -(dist x y:Int):=by
   have:dist x y=x.natAbs∨dist x y=y.natAbs:=by
    unfold dist
    rcases Nat.le_total x.natAbs y.natAbs with h|h
    ·exact .inr (Nat.max_eq_right h)
    ·exact .inl (Nat.max_eq_left h)
   omega
  obtain⟨b1,b2,-,-⟩:=pt_nOf (dist x y) x y (by omega) ⟨a1,a2⟩ ⟨a3,a4⟩ hm
  have s:=sq_step (dist x y) (by omega)
  have:4*((dist x y+1)*dist x y)≤4*((h+1)*h):=Nat.mul_le_mul_left 4 (Nat.mul_le_mul (by omega) hd)
  omega
end Sq
end Go.Proofs.YtdcpjicgehdmfaaGreatDoor

/- Places of a square as complex numbers: small whole numbers as floats, sums, quarters, corners. -/
namespace Go.Proofs.YtdcpjicgehdmfaaGreatDoor
namespace Sq
open Go.ChangeShapes Go.WideShapes Go.ChangeAt Go.RowKit
open Pk (Drawn)
set_option linter.unusedSimpArgs false
set_option linter.unusedVariables false

def E (n:Int):Nat:=floatOfInt .f64 n

def NZ:Nat:=9223372036854775808

theorem tab_int:((List.range 131).all fun m=>decide (floatToIntVal .f64 (E ((m:Int)-65)) .i64=some ((m:Int)-65)))=true:=by kernel_rfl

theorem of_tab {p:Int→Bool} (h:((List.range 131).all fun m=>p ((m:Int)-65))=true) {n:Int} (h1: -65≤n) (h2:n≤65):p n=true:=by
 have:=List.all_eq_true.1 h (n+65).toNat (List.mem_range.2 (by omega))
 rwa [Int.toNat_of_nonneg (by omega),Int.add_sub_cancel]at this

theorem E_int {n:Int} (h1: -65≤n) (h2:n≤65):floatToIntVal .f64 (E n) .i64=some n:=of_decide_eq_true (of_tab (p:=fun n=>decide (floatToIntVal .f64 (E n) .i64=some n)) tab_int h1 h2)

def stA (i:Nat):Nat:=if i=0 then 4607182418800017408 else if i=1 then 0 else if i=2 then 13830554455654793216 else NZ

def stB (i:Nat):Nat:=if i=0 then 0 else if i=1 then 13830554455654793216 else if i=2 then NZ else 4607182418800017408

theorem tab_add:((List.range 131).all fun m=>decide (floatBits .add .f64 (E ((m:Int)-65)) 0=some (E ((m:Int)-65+0))∧floatBits .add .f64 (E ((m:Int)-65)) NZ=some (E ((m:Int)-65+0))∧floatBits .add .f64 (E ((m:Int)-65)) 4607182418800017408=some (E ((m:Int)-65+1))∧floatBits .add .f64 (E ((m:Int)-65)) 13830554455654793216=some (E ((m:Int)-65+ -1))))=true:=by kernel_rfl

theorem E_add {n:Int} (h1: -65≤n) (h2:n≤65):floatBits .add .f64 (E n) 0=some (E (n+0))∧floatBits .add .f64 (E n) NZ=some (E (n+0))∧floatBits .add .f64 (E n) 4607182418800017408=some (E (n+1))∧floatBits .add .f64 (E n) 13830554455654793216=some (E (n+ -1)):=
 of_decide_eq_true (of_tab (p:=fun n=>decide (floatBits .add .f64 (E n) 0=some (E (n+0))∧floatBits .add .f64 (E n) NZ=some (E (n+0))∧floatBits .add .f64 (E n) 4607182418800017408=some (E (n+1))∧floatBits .add .f64 (E n) 13830554455654793216=some (E (n+ -1)))) tab_add h1 h2)

theorem sum_bits {x y:Int} {i:Nat} (hx1: -65≤x) (hx2:x≤65) (hy1: -65≤y) (hy2:y≤65) (hi:i<4):cSumBits .add .f64 (E x) (E y) (stA i) (stB i)=some (E (x+sx i),E (y+sy i)):=by
 obtain⟨a1,a2,a3,a4⟩:=E_add hx1 hx2
 obtain⟨b1,b2,b3,b4⟩:=E_add hy1 hy2
 obtain rfl|rfl|rfl|rfl:i=0∨i=1∨i=2∨i=3:=by omega
 ·show cSumBits .add .f64 (E x) (E y) 4607182418800017408 0=some (E (x+1),E (y+0))
  unfold cSumBits;rw[a3,b1];rfl
 ·show cSumBits .add .f64 (E x) (E y) 0 13830554455654793216=some (E (x+0),E (y+ -1))
  unfold cSumBits;rw[a1,b4];rfl
 ·show cSumBits .add .f64 (E x) (E y) 13830554455654793216 NZ=some (E (x+ -1),E (y+0))
  unfold cSumBits;rw[a4,b2];rfl
 ·show cSumBits .add .f64 (E x) (E y) NZ 4607182418800017408=some (E (x+0),E (y+1))
  unfold cSumBits;rw[a2,b3];rfl

theorem left_bits {i:Nat} (hi:i<4):cMulBits (stA i) (stB i) 0 13830554455654793216=some (stA ((i+1)%4),stB ((i+1)%4)):=by
 obtain rfl|rfl|rfl|rfl:i=0∨i=1∨i=2∨i=3:=by omega
 ·kernel_rfl
 ·kernel_rfl
 ·kernel_rfl
 ·kernel_rfl

def zs (n:Int):Nat:=if n<0 then NZ else 0

def sr (z:Nat) (n:Int):Nat:=(floatBits .sub .f64 z (E n)).getD 0

def rightOk (n:Int):Bool:=decide (floatBits .mul .f64 (E n) 0=some (zs n)∧floatBits .mul .f64 (E n) 4607182418800017408=some (E n)∧floatBits .sub .f64 0 (E n)=some (sr 0 n)∧floatBits .sub .f64 NZ (E n)=some (sr NZ n)∧floatToIntVal .f64 (sr 0 n) .i64=some (-n)∧floatToIntVal .f64 (sr NZ n) .i64=some (-n)∧floatBits .add .f64 (E n) 0=some (E n)∧floatBits .add .f64 (E n) NZ=some (E n))

theorem tab_right:((List.range 131).all fun m=>rightOk ((m:Int)-65))=true:=by kernel_rfl

theorem zs_or (n:Int):zs n=0∨zs n=NZ:=by
 unfold zs
 by_cases h:n<0
 ·rw[if_pos h];exact .inr rfl
 ·rw[if_neg h];exact .inl rfl

theorem right_bits {x y:Int} (hx1: -65≤x) (hx2:x≤65) (hy1: -65≤y) (hy2:y≤65):cMulBits (E x) (E y) 0 4607182418800017408=some (sr (zs x) y,E x)∧floatToIntVal .f64 (sr (zs x) y) .i64=some (-y):=by
 obtain⟨a1,a2,a3,a4,a5,a6,a7,a8⟩:=of_decide_eq_true (of_tab tab_right hx1 hx2)
 obtain⟨b1,b2,b3,b4,b5,b6,b7,b8⟩:=of_decide_eq_true (of_tab tab_right hy1 hy2)
 unfold cMulBits
 rw[a1,b2,a2,b1]
 rcases zs_or x with e|e<;>rcases zs_or y with f|f<;>rw[e,f]
 ·simp only[Option.bind_some,b3,a7];exact⟨trivial,b5⟩
 ·simp only[Option.bind_some,b3,a8];exact⟨trivial,b5⟩
 ·simp only[Option.bind_some,b4,a7];exact⟨trivial,b6⟩
 ·simp only[Option.bind_some,b4,a8];exact⟨trivial,b6⟩

theorem placeOf_val (x y:Int) (w:World):
 Calls Tryz.prog 107 #[.int .i64 x,.int .i64 y] w fun e w'=>e= .returned (.complex .f64 (E x) (E y))∧w'=w:=by
 go_enter Tryz.func107,Tryz.ntmps107
 go_wp2
 go_ret
 exact⟨rfl,rfl⟩

theorem x_val (a b:Nat) (n:Int) (w:World) (h:floatToIntVal .f64 a .i64=some n):
 Calls Tryz.prog 111 #[.complex .f64 a b] w fun e w'=>e= .returned (.int .i64 n)∧w'=w:=by
 have hc:∀w,(convert 153 3 (.float .f64 a)).run Tryz.prog w= .ok (.int .i64 n) w:=fun w=>run_convert_float_int w _ _ .f64 .i64 a n (by kernel_rfl) Tryz.underlying3 h
 go_enter Tryz.func111,Tryz.ntmps111
 go_wp2
 go_ret
 exact⟨rfl,rfl⟩

theorem y_val (a b:Nat) (n:Int) (w:World) (h:floatToIntVal .f64 b .i64=some n):
 Calls Tryz.prog 110 #[.complex .f64 a b] w fun e w'=>e= .returned (.int .i64 n)∧w'=w:=by
 have hc:∀w,(convert 153 3 (.float .f64 b)).run Tryz.prog w= .ok (.int .i64 n) w:=fun w=>run_convert_float_int w _ _ .f64 .i64 b n (by kernel_rfl) Tryz.underlying3 h
 go_enter Tryz.func110,Tryz.ntmps110
 go_wp2
 go_ret
 exact⟨rfl,rfl⟩

theorem toLeft_val (i:Nat) (w:World) (hi:i<4):
 Calls Tryz.prog 109 #[.complex .f64 (stA i) (stB i)] w fun e w'=>e= .returned (.complex .f64 (stA ((i+1)%4)) (stB ((i+1)%4)))∧w'=w:=by
 have hop:=fun t w=>run_complex_mul (P:=Tryz.prog) w t _ _ _ _ _ _ (left_bits hi)
 generalize stA ((i+1)%4)=c at*
 generalize stB ((i+1)%4)=d at*
 generalize stA i=a at*
 generalize stB i=b at*
 go_enter Tryz.func109,Tryz.ntmps109
 go_wp2
 go_ret
 exact⟨rfl,rfl⟩

theorem toRight_val (x y:Int) (w:World) (hx1: -65≤x) (hx2:x≤65) (hy1: -65≤y) (hy2:y≤65):
 Calls Tryz.prog 103 #[.complex .f64 (E x) (E y)] w fun e w'=>e= .returned (.complex .f64 (sr (zs x) y) (E x))∧w'=w:=by
 have hop:=fun t w=>run_complex_mul (P:=Tryz.prog) w t _ _ _ _ _ _ (right_bits hx1 hx2 hy1 hy2).1
 generalize sr (zs x) y=c at*
 generalize E x=a at*
 generalize E y=b at*
 go_enter Tryz.func103,Tryz.ntmps103
 go_wp2
 go_ret
 exact⟨rfl,rfl⟩

theorem corner_val (a b:Nat) (x y:Int) (w:World) (ha:floatToIntVal .f64 a .i64=some x) (hb:floatToIntVal .f64 b .i64=some y) (hx1: -65≤x) (hx2:x≤65) (hy1: -65≤y) (hy2:y≤65):
 Calls Tryz.prog 108 #[.complex .f64 a b] w fun e w'=>e= .returned (.bool (cornerB x y))∧w'=w:=by
 have HC:Hid (_):=corner_is x y
 generalize cornerB x y=c at*
 go_enter Tryz.func108,Tryz.ntmps108
 go_wp2_with fail
 refine(x_val _ _ _ _ ha).mono ?_
 rintro e w1 ⟨rfl,rfl⟩
 go_wp2_with fail
 refine(y_val _ _ _ _ hb).mono ?_
 rintro e w1 ⟨rfl,rfl⟩
 by_cases h1:0<x
 ·by_cases h2:0≤y
  ·by_cases h3:x=y+1
   ·have hc:c=true:=HC.out.2 (.inl ⟨h1,h2,h3⟩)
    clear HC
    subst hc h3
    go_wp2
    go_ret
    exact⟨rfl,rfl⟩
   ·have hc:c=false:=by rw[←Bool.not_eq_true];intro hc;have:=HC.out.1 hc;omega
    have he:(x==y+1)=false:=by simp[h3]
    clear HC
    subst hc
    go_wp2
    go_ret
    exact⟨rfl,rfl⟩
  ·by_cases h3:x= -y
   ·have hc:c=true:=HC.out.2 (.inr ⟨by omega,.inr h3⟩)
    have he:(x== -y)=true:=by simp[h3]
    have hf:(x==y)=false:=by simp;omega
    clear HC
    subst hc
    go_wp2
    go_ret
    exact⟨rfl,rfl⟩
   ·have hc:c=false:=by rw[←Bool.not_eq_true];intro hc;have:=HC.out.1 hc;omega
    have he:(x== -y)=false:=by simp[h3]
    have hf:(x==y)=false:=by simp;omega
    clear HC
    subst hc
    go_wp2
    go_ret
    exact⟨rfl,rfl⟩
 ·by_cases h4:x=y
  ·have hc:c=true:=HC.out.2 (.inr ⟨by omega,.inl h4⟩)
   have he:(x==y)=true:=by simp[h4]
   clear HC h4
   subst hc
   go_wp2
   go_ret
   exact⟨rfl,rfl⟩
  ·by_cases h3:x= -y
   ·have hc:c=true:=HC.out.2 (.inr ⟨by omega,.inr h3⟩)
    have he:(x== -y)=true:=by simp[h3]
    have hf:(x==y)=false:=by simp[h4]
    clear HC h3 h4
    subst hc
    go_wp2
    go_ret
    exact⟨rfl,rfl⟩
   ·have hc:c=false:=by rw[←Bool.not_eq_true];intro hc;have:=HC.out.1 hc;omega
    have he:(x== -y)=false:=by simp[h3]
    have hf:(x==y)=false:=by simp[h4]
    clear HC h3 h4
    subst hc
    go_wp2
    go_ret
    exact⟨rfl,rfl⟩

end Sq
end Go.Proofs.YtdcpjicgehdmfaaGreatDoor

/- Contracts of the program's way around the middle, and of Spiral, of the program and of its model. -/
namespace Go.Proofs.YtdcpjicgehdmfaaGreatDoor
namespace Sq
open Go.ChangeShapes Go.WideShapes Go.ChangeAt Go.RowKit
open Pk (Drawn)
set_option linter.unusedSimpArgs false
set_option linter.unusedVariables false

def plV (k:Nat):Value:= .complex .f64 (E (wx k)) (E (wy k))

def soFar (k j:Nat):Value:=if j≤k then plV j else .complex .f64 0 0

theorem soFar_step (k j:Nat):soFar (k+1) j=if j=k+1 then plV (k+1)else soFar k j:=by
 unfold soFar
 by_cases e:j=k+1
 ·rw[if_pos e,if_pos (by omega),e]
 ·rw[if_neg e]
  by_cases h:j≤k
  ·rw[if_pos h,if_pos (by omega)]
  ·rw[if_neg h,if_neg (by omega)]

theorem soFar_zero (j:Nat):soFar 0 j= .complex .f64 0 0:=by
 unfold soFar
 by_cases h:j≤0
 ·rw[if_pos h]
  obtain rfl:j=0:=by omega
  kernel_rfl
 ·rw[if_neg h]

theorem info_place:(Tryz.prog.info? 104).map (fun i=>(i.zero,i.size,i.bytes))=some (some (.complex .f64 0 0),1,16):=by kernel_rfl

theorem way_bd (k:Nat) (h:k≤3720): -30≤wx k∧wx k≤30∧ -30≤wy k∧wy k≤30:=dist_in (h:=30) (way_dist k 30 (by omega))

set_option maxRecDepth 100000 in
theorem wayOf_val (c:Nat) (w:World) (h1:1≤c) (h2:c≤3721):
 Calls Tryz.prog 68 #[.int .i64 c] w fun e w'=>e= .returned (.slice (some ⟨w.heap.size,0,none⟩) c c)∧w'.heap[w.heap.size]? =some (.cells (tab c plV) 104)∧Below w.heap.size w w':=by
 have hmk:=make_run 101 104 _ 16 c Tryz.underlying101 info_place rfl (by omega) (by omega)
 have m0:=Pk.heap_new w (.cells (tab c (fun _=> .complex .f64 0 0)) 104)
 have N:=Pk.new_below w (.cells (tab c (fun _=> .complex .f64 0 0)) 104)
 rw[tab_congr (fun j _=>(soFar_zero j).symm)]at m0 N hmk
 generalize hg:w.heap.size=g at*
 go_enter Tryz.func68,Tryz.ntmps68
 go_wp2_with fail
 refine(placeOf_val _ _ _).mono ?_
 rintro e w1 ⟨rfl,rfl⟩
 have e1:E 1=stA (dir 0):=by kernel_rfl
 have e0:E 0=stB (dir 0):=by kernel_rfl
 rw[e1,e0]
 clear e1 e0
 go_wp2
 go_loopw [4,5] (fun s i wr=>∃k:Nat,k+1≤c∧i= .int .i64 ((k:Int)+1)∧s= .complex .f64 (stA (dir k)) (stB (dir k))∧wr.heap[g]? =some (.cells (tab c (soFar k)) 104)∧Hid (Below g w wr)) (fun _ i _=>c-(intOf i).toNat)
 case atStart=>exact⟨0,by omega,rfl,rfl,m0,N⟩
 case round=>
  obtain⟨k,hk,rfl,rfl,m,L⟩:=hrel
  by_cases hlt:k+1<c
  ·obtain⟨hx1,hx2,hy1,hy2⟩:=way_bd k (by omega)
   obtain⟨ux1,ux2,uy1,uy2⟩:=way_bd (k+1) (by omega)
   have hd4:=dir_lt k
   have hop:=fun t w=>run_complex_sum (P:=Tryz.prog) w .add (Or.inl rfl) t .f64 _ _ _ _ _ _ (sum_bits (x:=wx k) (y:=wy k) (i:=dir k) (by omega) (by omega) (by omega) (by omega) hd4)
   rw[←(way_step k).1,←(way_step k).2]at hop
   have hc1:wr.cell? ⟨g,k,none⟩=some (.complex .f64 (E (wx k)) (E (wy k))):=by
    rw[row_at m k (by omega)];unfold soFar;rw[if_pos (Nat.le_refl k)];rfl
   have hc2:wr.cell? ⟨g,k+1,none⟩=some (.complex .f64 0 0):=by
    rw[row_at m (k+1) hlt];unfold soFar;rw[if_neg (by omega)]
   have hfr:wr.frozen? ⟨g,k+1,none⟩=false:=Pk.frozen_at m (k+1)
   have m':=row_set m (k+1) (plV (k+1)) (f':=soFar (k+1)) (fun j _=>soFar_step k j)
   have L':Below g w (wr.setCell ⟨g,k+1,none⟩ (plV (k+1))):=L.out.setCell (Nat.le_refl g) _
   have HS:Hid (_):=dir_step k
   have HC:Hid (∀w,_):=fun w=>corner_val _ _ _ _ w (E_int (n:=wx (k+1)) (by omega) (by omega)) (E_int (n:=wy (k+1)) (by omega) (by omega)) (by omega) (by omega) (by omega) (by omega)
   have HL:Hid (∀w,_):=fun w=>toLeft_val (dir k) w hd4
   unfold plV at m' L'
   clear hx1 hx2 hy1 hy2 ux1 ux2 uy1 uy2
   generalize E (wx (k+1))=a1 at*
   generalize E (wy (k+1))=b1 at*
   generalize E (wx k)=a0 at*
   generalize E (wy k)=b0 at*
   generalize cornerB (wx (k+1)) (wy (k+1))=cb at*
   have hst:=fun w a m=>run_store Tryz.prog w a (.complex .f64 a1 b1) m rfl
   go_wp2_with fail
   refine(HC.out _).mono ?_
   rintro e w2 ⟨rfl,rfl⟩
   cases cb
   ·have HD:Hid (dir (k+1)=dir k):=by show _=_;rw[HS.out,if_neg (by decide)]
    go_wp2
    go_roundw
    case rel=>exact⟨k+1,by omega,by go_num,by rw[HD.out],m',L'⟩
    case measure=>simp[intOf];omega
   ·have HD:Hid (dir (k+1)=(dir k+1)%4):=by show _=_;rw[HS.out,if_pos rfl]
    go_wp2_with fail
    refine(HL.out _).mono ?_
    rintro e w2 ⟨rfl,rfl⟩
    go_wp2
    go_roundw
    case rel=>exact⟨k+1,by omega,by go_num,by rw[HD.out],m',L'⟩
    case measure=>simp[intOf];omega
  ·obtain rfl:c=k+1:=by omega
   have hm:tab (k+1) (soFar k)=tab (k+1) plV:=tab_congr (fun j hj=>by unfold soFar;rw[if_pos (by omega)])
   rw[hm]at m
   go_wp2
   go_ret
   exact⟨rfl,m,L.out⟩

def inB (x a b:Int):Bool:=decide (a≤x∧x≤b)

theorem between_val (x a b:Int) (w:World):
 Calls Tryz.prog 78 #[.int .i64 x,.int .i64 a,.int .i64 b] w fun e w'=>e= .returned (.bool (inB x a b))∧w'=w:=by
 by_cases h1:a≤x<;>by_cases h2:x≤b
 all_goals
  go_enter Tryz.func78,Tryz.ntmps78
  go_wp2
  go_ret
  exact⟨by simp[inB,h1,h2],rfl⟩

theorem in_val (x a b:Int) (w:World):
 Calls Tryz.prog 56 #[.int .i64 x,.int .i64 a,.int .i64 b] w fun e w'=>e= .returned (.bool (inB x a b))∧w'=w:=by
 by_cases h1:a≤x<;>by_cases h2:x≤b
 all_goals
  go_enter Tryz.func56,Tryz.ntmps56
  go_wp2
  go_ret
  exact⟨by simp[inB,h1,h2],rfl⟩

def spX (k:Int):Int:=if 0≤k∧k≤3720 then wx k.toNat else-1000

def spY (k:Int):Int:=if 0≤k∧k≤3720 then wy k.toNat else-1000

theorem spX_in (n:Nat) (h:n≤3720):spX n=wx n:=by unfold spX;rw[if_pos (by omega),Int.toNat_natCast]

theorem spY_in (n:Nat) (h:n≤3720):spY n=wy n:=by unfold spY;rw[if_pos (by omega),Int.toNat_natCast]

theorem ring_small {d m n:Nat} (hn:n≤3720) (h1:1≤d) (h:n=4*(d*(d-1))+m):d≤1000∧m≤3720:=by
 have:1*(d-1)≤d*(d-1):=Nat.mul_le_mul_right _ h1
 omega

theorem specSpiral_in (n:Nat) (w:World) (h:n+1≤3720):
 Calls Tryz.prog 31 #[.int .i64 ((n:Int)+1)] w fun e w'=>e= .returned (.tuple #[.int .i64 (wx (n+1)),.int .i64 (wy (n+1))])∧w'=w:=by
 have HB:Hid (∀w,_):=fun w=>in_val ((n:Int)+1) 0 3720 w
 have e1:inB ((n:Int)+1) 0 3720=true:=decide_eq_true (by omega)
 rw[e1]at HB
 have HW:Hid (wx (n+1)=ptX (ring n).1 (ring n).2∧wy (n+1)=ptY (ring n).1 (ring n).2):=⟨rfl,rfl⟩
 generalize wx (n+1)=x at*
 generalize wy (n+1)=y at*
 have hz:((n:Int)+1==0)=false:=by simp;omega
 clear e1
 go_enter Tryz.func31,Tryz.ntmps31
 go_wp2_with fail
 refine(HB.out _).mono ?_
 rintro e w1 ⟨rfl,rfl⟩
 go_wp2
 go_loop [4,5] (fun d m=>∃(a b:Nat),1≤a∧a≤1000∧b≤3720∧d= .int .i64 a∧m= .int .i64 b∧Hid (n=4*(a*(a-1))+b)) (fun _ m=>(intOf m).toNat)
 case atStart=>exact⟨1,n,by omega,by omega,by omega,rfl,by go_num,by show _=_;simp⟩
 case round=>
  obtain⟨d,m,h1,h2,h3,rfl,rfl,H⟩:=hrel
  by_cases hm:8*d≤m
  ·obtain⟨q,hq⟩:∃q,m=8*d+q:=⟨m-8*d,by omega⟩
   have HN:Hid (n=4*((d+1)*(d+1-1))+q):=by
    show _=_
    rw[Nat.add_sub_cancel,sq_step d h1,H.out,hq]
    omega
   have hb:=ring_small (by omega) (by omega) HN.out
   subst hq
   go_wp2
   go_round
   case rel=>exact⟨d+1,q,by omega,hb.1,hb.2,by go_num,by go_num,HN⟩
   case measure=>simp[intOf];omega
  ·have HR:=ring_one h1 (by omega) H.out
   rw[HR]at HW
   have HS:Hid (_):=sides (d:=d) (n:=m) (by omega)
   by_cases k1:m<2*d
   ·have hX:Hid (x=d∧y=d-1-m):=by show _∧_;have:=HW.out;have:=HS.out;simp only at*;omega
    go_wp2
    refine bodyPost_ret (results_tmp2 rfl _ _ _) rfl ?_
    exact⟨by rw[hX.out.1,hX.out.2];rfl,rfl⟩
   ·by_cases k2:m<4*d
    ·have hX:Hid (x=d-1-(m-2*d)∧y= -d):=by show _∧_;have:=HW.out;have:=HS.out;simp only at*;omega
     go_wp2
     refine bodyPost_ret (results_tmp2 rfl _ _ _) rfl ?_
     exact⟨by rw[hX.out.1,hX.out.2];rfl,rfl⟩
    ·by_cases k3:m<6*d
     ·have hX:Hid (x= -d∧y= -d+1+m-4*d):=by show _∧_;have:=HW.out;have:=HS.out;simp only at*;omega
      go_wp2
      refine bodyPost_ret (results_tmp2 rfl _ _ _) rfl ?_
      exact⟨by rw[hX.out.1,hX.out.2];rfl,rfl⟩
     ·have hX:Hid (x= -d+1+m-6*d∧y=d):=by show _∧_;have:=HW.out;have:=HS.out;simp only at*;omega
      go_wp2
      refine bodyPost_ret (results_tmp2 rfl _ _ _) rfl ?_
      exact⟨by rw[hX.out.1,hX.out.2];rfl,rfl⟩

theorem specSpiral_val (k:Int) (w:World):
 Calls Tryz.prog 31 #[.int .i64 k] w fun e w'=>e= .returned (.tuple #[.int .i64 (spX k),.int .i64 (spY k)])∧w'=w:=by
 by_cases h:0≤k∧k≤3720
 ·by_cases h0:k=0
  ·subst h0
   have HB:Hid (∀w,_):=fun w=>in_val 0 0 3720 w
   have e1:inB 0 0 3720=true:=rfl
   rw[e1]at HB
   have e2:spX 0=0:=rfl
   have e3:spY 0=0:=rfl
   rw[e2,e3]
   go_enter Tryz.func31,Tryz.ntmps31
   go_wp2_with fail
   refine(HB.out _).mono ?_
   rintro e w1 ⟨rfl,rfl⟩
   go_wp2
   refine bodyPost_ret (results_tmp2 rfl _ _ _) rfl ?_
   exact⟨rfl,rfl⟩
  ·obtain⟨n,rfl⟩:∃n:Nat,k=(n:Int)+1:=⟨k.toNat-1,by omega⟩
   have e2:spX ((n:Int)+1)=wx (n+1):=spX_in (n+1) (by omega)
   have e3:spY ((n:Int)+1)=wy (n+1):=spY_in (n+1) (by omega)
   rw[e2,e3]
   exact specSpiral_in n w (by omega)
 ·have HB:Hid (∀w,_):=fun w=>in_val k 0 3720 w
  have e1:inB k 0 3720=false:=decide_eq_false h
  rw[e1]at HB
  unfold spX spY
  rw[if_neg h,if_neg h]
  go_enter Tryz.func31,Tryz.ntmps31
  go_wp2_with fail
  refine(HB.out _).mono ?_
  rintro e w1 ⟨rfl,rfl⟩
  go_wp2
  refine bodyPost_ret (results_tmp2 rfl _ _ _) rfl ?_
  exact⟨rfl,rfl⟩

end Sq
end Go.Proofs.YtdcpjicgehdmfaaGreatDoor

/- Contracts of SquareOk and of the index of a field, of the program and of its model, and of the laws' own helpers over squares. -/
namespace Go.Proofs.YtdcpjicgehdmfaaGreatDoor
namespace Sq
open Go.ChangeShapes Go.WideShapes Go.ChangeAt Go.RowKit
open Pk (Drawn)
set_option linter.unusedSimpArgs false
set_option linter.unusedVariables false

def sqV (n:Int) (s:ByteArray):Value:= .agg #[.int .i64 n,.string s]

def signsFrom (s:ByteArray) (i:Nat):Bool:=(s.data.toList.drop i).all fun b=>decide (b.toNat=48∨b.toNat=49)

theorem signsFrom_step (s:ByteArray) (i:Nat) (h:i<s.size):signsFrom s i=(decide (s[i].toNat=48∨s[i].toNat=49)&&signsFrom s (i+1)):=by
 unfold signsFrom
 have h1:i<s.data.toList.length:=by rw[Array.length_toList];exact h
 rw[List.drop_eq_getElem_cons h1,List.all_cons]
 rfl

theorem signsFrom_end (s:ByteArray) (i:Nat) (h:¬i<s.size):signsFrom s i=true:=by
 unfold signsFrom
 rw[List.drop_eq_nil_of_le (by rw[Array.length_toList];exact Nat.le_of_not_lt h)]
 rfl

def headOk (n:Int) (s:ByteArray):Bool:=decide (9≤n∧n≤61∧n%2=1∧(s.size:Int)=n*n)

def okQ (n:Int) (s:ByteArray):Bool:=headOk n s&&signsFrom s 0

set_option maxRecDepth 100000 in
theorem specOk_val (n:Int) (s:ByteArray) (w:World) (hs:s.size≤maxLen):
 Calls Tryz.prog 53 #[sqV n s] w fun e w'=>e= .returned (.bool (okQ n s))∧Below w.heap.size w w':=by
 unfold maxLen at hs
 have N:=Pk.new_below w (.cells #[.int .i64 n,.string s] 39)
 by_cases h:9≤n∧n≤61
 ·have HB:Hid (∀w,_):=fun w=>in_val n 9 61 w
  have e1:inB n 9 61=true:=decide_eq_true h
  rw[e1]at HB
  obtain⟨m,rfl⟩:∃m:Nat,n=m:=⟨n.toNat,by omega⟩
  have hmm:m*m≤61*61:=Nat.mul_le_mul (by omega) (by omega)
  have e3:(m:Int)*m=(m*m:Nat):=by simp
  have ht:Int.tmod (m:Int) 2=((m%2:Nat):Int):=by rw[Int.tmod_eq_emod_of_nonneg (by omega)];omega
  by_cases h2:m%2=1
  ·have hk:((m%2:Nat):Int)=1:=by omega
   rw[hk]at ht
   by_cases h3:s.size=m*m
   ·have HO:Hid (okQ m s=signsFrom s 0):=by
     show _=_
     unfold okQ headOk
     rw[decide_eq_true (by rw[e3,h3];omega),Bool.true_and]
    have hz:((s.size:Int)==(m:Int)*m)=true:=by rw[e3,h3];simp
    generalize okQ m s=ok at*
    clear e1 e3 hk
    have e4:(m:Int)*m=(s.size:Int):=by rw[h3];simp
    have hs4:s.size≤3721:=by omega
    unfold sqV
    clear h3
    go_enter Tryz.func53,Tryz.ntmps53
    go_wp2_with fail
    refine(HB.out _).mono ?_
    rintro e w1 ⟨rfl,rfl⟩
    go_wp2
    go_loop [3] (fun i=>∃(k:Nat),k≤s.size∧i= .int .i64 k∧Hid (ok=signsFrom s k)) (fun i=>s.size-(intOf i).toNat)
    case atStart=>exact⟨0,by omega,rfl,HO⟩
    case round=>
     obtain⟨k,hk,rfl,H⟩:=hrel
     by_cases hks:k<s.size
     ·have HS:Hid (_):=signsFrom_step s k hks
      have hb:=s[k].toNat_lt
      by_cases k1:(s[k].toNat:Int)=48
      ·have HE:Hid (ok=signsFrom s (k+1)):=by show _=_;rw[H.out,HS.out,decide_eq_true (by omega)];rfl
       go_wp2
       go_round
       case rel=>exact⟨k+1,by omega,by go_num,HE⟩
       case measure=>simp[intOf];omega
      ·by_cases k2:(s[k].toNat:Int)=49
       ·have HE:Hid (ok=signsFrom s (k+1)):=by show _=_;rw[H.out,HS.out,decide_eq_true (by omega)];rfl
        go_wp2
        go_round
        case rel=>exact⟨k+1,by omega,by go_num,HE⟩
        case measure=>simp[intOf];omega
       ·have HE:Hid (ok=false):=by show _=_;rw[H.out,HS.out,decide_eq_false (by omega)];rfl
        have j1:((s[k].toNat:Int)==48)=false:=by simp;omega
        have j2:((s[k].toNat:Int)==49)=false:=by simp;omega
        have j3:((s[k].toNat:Int) !=48)=true:=by simp;omega
        have j4:((s[k].toNat:Int) !=49)=true:=by simp;omega
        go_wp2
        go_ret
        exact⟨by rw[HE.out]<;>rfl,N⟩
     ·have HE:Hid (ok=true):=by show _=_;rw[H.out,signsFrom_end s k hks]
      go_wp2
      go_ret
      exact⟨by rw[HE.out]<;>rfl,N⟩
   ·have HO:Hid (okQ m s=false):=by
     show _=_
     unfold okQ headOk
     rw[decide_eq_false (by rw[e3];omega),Bool.false_and]
    have hz:((s.size:Int)==(m:Int)*m)=false:=by rw[e3];simp;omega
    have h61:(m:Int)*m≤3721:=by rw[e3];omega
    rw[HO.out]
    clear e1 e3 hk HO
    unfold sqV
    clear h3
    go_enter Tryz.func53,Tryz.ntmps53
    go_wp2_with fail
    refine(HB.out _).mono ?_
    rintro e w1 ⟨rfl,rfl⟩
    go_wp2
    go_ret
    exact⟨rfl,N⟩
  ·have hk:((m%2:Nat):Int)=0:=by omega
   rw[hk]at ht
   have HO:Hid (okQ m s=false):=by
    show _=_
    unfold okQ headOk
    rw[decide_eq_false (by omega),Bool.false_and]
   rw[HO.out]
   clear e1 e3 hk HO
   unfold sqV
   go_enter Tryz.func53,Tryz.ntmps53
   go_wp2_with fail
   refine(HB.out _).mono ?_
   rintro e w1 ⟨rfl,rfl⟩
   go_wp2
   go_ret
   exact⟨rfl,N⟩
 ·have HB:Hid (∀w,_):=fun w=>in_val n 9 61 w
  have e1:inB n 9 61=false:=decide_eq_false h
  rw[e1]at HB
  have HO:Hid (okQ n s=false):=by
   show _=_
   unfold okQ headOk
   rw[decide_eq_false (by omega),Bool.false_and]
  rw[HO.out]
  clear HO
  unfold sqV
  go_enter Tryz.func53,Tryz.ntmps53
  go_wp2_with fail
  refine(HB.out _).mono ?_
  rintro e w1 ⟨rfl,rfl⟩
  go_wp2
  go_ret
  exact⟨rfl,N⟩

set_option maxRecDepth 100000 in
theorem implOk_val (n:Int) (s:ByteArray) (w:World) (hs:s.size≤maxLen):
 Calls Tryz.prog 64 #[sqV n s] w fun e w'=>e= .returned (.bool (okQ n s))∧Below w.heap.size w w':=by
 unfold maxLen at hs
 have N:=Pk.new_below w (.cells #[.int .i64 n,.string s] 39)
 by_cases h:9≤n∧n≤61
 ·have HB:Hid (∀w,_):=fun w=>between_val n 9 61 w
  have e1:inB n 9 61=true:=decide_eq_true h
  rw[e1]at HB
  obtain⟨m,rfl⟩:∃m:Nat,n=m:=⟨n.toNat,by omega⟩
  have hmm:m*m≤61*61:=Nat.mul_le_mul (by omega) (by omega)
  have e3:(m:Int)*m=(m*m:Nat):=by simp
  have ht:Int.tmod (m:Int) 2=((m%2:Nat):Int):=by rw[Int.tmod_eq_emod_of_nonneg (by omega)];omega
  by_cases h2:m%2=1
  ·have hk:((m%2:Nat):Int)=1:=by omega
   rw[hk]at ht
   by_cases h3:s.size=m*m
   ·have HO:Hid (okQ m s=signsFrom s 0):=by
     show _=_
     unfold okQ headOk
     rw[decide_eq_true (by rw[e3,h3];omega),Bool.true_and]
    have hz:((s.size:Int)==(m:Int)*m)=true:=by rw[e3,h3];simp
    generalize okQ m s=ok at*
    clear e1 e3 hk
    have e4:(m:Int)*m=(s.size:Int):=by rw[h3];simp
    have hs4:s.size≤3721:=by omega
    unfold sqV
    clear h3
    go_enter Tryz.func64,Tryz.ntmps64
    go_wp2_with fail
    refine(HB.out _).mono ?_
    rintro e w1 ⟨rfl,rfl⟩
    go_wp2
    go_loop [28] (fun i=>∃(k:Nat),k≤s.size∧i= .int .i64 k∧Hid (ok=signsFrom s k)) (fun i=>s.size-(intOf i).toNat)
    case atStart=>exact⟨0,by omega,rfl,HO⟩
    case round=>
     obtain⟨k,hk,rfl,H⟩:=hrel
     by_cases hks:k<s.size
     ·have HS:Hid (_):=signsFrom_step s k hks
      have hb:=s[k].toNat_lt
      by_cases k1:(s[k].toNat:Int)=48
      ·have HE:Hid (ok=signsFrom s (k+1)):=by show _=_;rw[H.out,HS.out,decide_eq_true (by omega)];rfl
       go_wp2
       go_round
       case rel=>exact⟨k+1,by omega,by go_num,HE⟩
       case measure=>simp[intOf];omega
      ·by_cases k2:(s[k].toNat:Int)=49
       ·have HE:Hid (ok=signsFrom s (k+1)):=by show _=_;rw[H.out,HS.out,decide_eq_true (by omega)];rfl
        go_wp2
        go_round
        case rel=>exact⟨k+1,by omega,by go_num,HE⟩
        case measure=>simp[intOf];omega
       ·have HE:Hid (ok=false):=by show _=_;rw[H.out,HS.out,decide_eq_false (by omega)];rfl
        have j1:((s[k].toNat:Int)==48)=false:=by simp;omega
        have j2:((s[k].toNat:Int)==49)=false:=by simp;omega
        have j3:((s[k].toNat:Int) !=48)=true:=by simp;omega
        have j4:((s[k].toNat:Int) !=49)=true:=by simp;omega
        go_wp2
        go_ret
        exact⟨by rw[HE.out]<;>rfl,N⟩
     ·have HE:Hid (ok=true):=by show _=_;rw[H.out,signsFrom_end s k hks]
      go_wp2
      go_ret
      exact⟨by rw[HE.out]<;>rfl,N⟩
   ·have HO:Hid (okQ m s=false):=by
     show _=_
     unfold okQ headOk
     rw[decide_eq_false (by rw[e3];omega),Bool.false_and]
    have hz:((s.size:Int)==(m:Int)*m)=false:=by rw[e3];simp;omega
    have h61:(m:Int)*m≤3721:=by rw[e3];omega
    rw[HO.out]
    clear e1 e3 hk HO
    unfold sqV
    clear h3
    go_enter Tryz.func64,Tryz.ntmps64
    go_wp2_with fail
    refine(HB.out _).mono ?_
    rintro e w1 ⟨rfl,rfl⟩
    go_wp2
    go_ret
    exact⟨rfl,N⟩
  ·have hk:((m%2:Nat):Int)=0:=by omega
   rw[hk]at ht
   have HO:Hid (okQ m s=false):=by
    show _=_
    unfold okQ headOk
    rw[decide_eq_false (by omega),Bool.false_and]
   rw[HO.out]
   clear e1 e3 hk HO
   unfold sqV
   go_enter Tryz.func64,Tryz.ntmps64
   go_wp2_with fail
   refine(HB.out _).mono ?_
   rintro e w1 ⟨rfl,rfl⟩
   go_wp2
   go_ret
   exact⟨rfl,N⟩
 ·have HB:Hid (∀w,_):=fun w=>between_val n 9 61 w
  have e1:inB n 9 61=false:=decide_eq_false h
  rw[e1]at HB
  have HO:Hid (okQ n s=false):=by
   show _=_
   unfold okQ headOk
   rw[decide_eq_false (by omega),Bool.false_and]
  rw[HO.out]
  clear HO
  unfold sqV
  go_enter Tryz.func64,Tryz.ntmps64
  go_wp2_with fail
  refine(HB.out _).mono ?_
  rintro e w1 ⟨rfl,rfl⟩
  go_wp2
  go_ret
  exact⟨rfl,N⟩

theorem toSquare_val (n:Int) (s:ByteArray) (w:World):
 Calls Tryz.prog 8 #[.agg #[.int .i64 n,.string s]] w fun e w'=>e= .returned (sqV n s)∧Below w.heap.size w w':=by
 unfold sqV
 go_enter Tryz.func8,Tryz.ntmps8
 go_wp2
 refine bodyPost_ret (v:= .agg #[.int .i64 n,.string s]) (by simp[results,Tryz.results8,go_sem]) rfl ?_
 exact⟨rfl,((((Below.refl _ _).alloc (Nat.le_refl _) _).alloc (by simp) _).alloc (by simp;omega) _)⟩

end Sq
end Go.Proofs.YtdcpjicgehdmfaaGreatDoor

/- Contracts of the index of a field and of DarkAt, of the program and of its model. -/
namespace Go.Proofs.YtdcpjicgehdmfaaGreatDoor
namespace Sq
open Go.ChangeShapes Go.WideShapes Go.ChangeAt Go.RowKit
open Pk (Drawn)
set_option linter.unusedSimpArgs false
set_option linter.unusedVariables false

def idx (h:Nat) (x y:Int):Nat:=(y+h).toNat*(2*h+1)+(x+h).toNat

theorem idx_lt {h:Nat} {x y:Int} (hx1: -(h:Int)≤x) (hx2:x≤h) (hy1: -(h:Int)≤y) (hy2:y≤h):idx h x y<(2*h+1)*(2*h+1):=by
 unfold idx
 have:(y+h).toNat*(2*h+1)≤2*h*(2*h+1):=Nat.mul_le_mul_right _ (by omega)
 rw[Nat.add_mul]
 omega

theorem idx_is {h:Nat} {x y:Int} (hx1: -(h:Int)≤x) (hy1: -(h:Int)≤y):(idx h x y:Int)=(y+h)*(2*h+1)+x+h:=by
 unfold idx
 rw[Int.natCast_add,Int.natCast_mul,Int.toNat_of_nonneg (by omega),Int.toNat_of_nonneg (by omega)]
 have:((2*h+1:Nat):Int)=2*(h:Int)+1:=by omega
 rw[this]
 omega

theorem row_bd {h:Nat} {y n:Int} (h1:h≤30) (hn:n=2*(h:Int)+1) (hy1: -(h:Int)≤y) (hy2:y≤h):0≤(y+h)*n∧(y+h)*n≤3660:=by
 have e:(y+h)*n=(((y+h).toNat*(2*h+1):Nat):Int):=by
  rw[Int.natCast_mul,Int.toNat_of_nonneg (by omega),hn]
  have:((2*h+1:Nat):Int)=2*(h:Int)+1:=by omega
  rw[this]
 have:(y+h).toNat*(2*h+1)≤60*61:=Nat.mul_le_mul (by omega) (by omega)
 omega

theorem half_is (h:Nat):Int.tdiv (2*(h:Int)+1) 2=h:=by
 rw[Int.tdiv_eq_ediv_of_nonneg (by omega)]
 omega

theorem place_val (h:Nat) (x y:Int) (w:World) (h1:h≤30) (hx1: -(h:Int)≤x) (hx2:x≤h) (hy1: -(h:Int)≤y) (hy2:y≤h):
 Calls Tryz.prog 32 #[.int .i64 (2*(h:Int)+1),.int .i64 x,.int .i64 y] w fun e w'=>e= .returned (.int .i64 (idx h x y))∧w'=w:=by
 have HI:Hid (_):=idx_is hx1 hy1
 obtain⟨b1,b2⟩:=row_bd h1 rfl hy1 hy2
 have ht:=half_is h
 generalize (idx h x y:Int)=r at*
 generalize 2*(h:Int)+1=n at*
 go_enter Tryz.func32,Tryz.ntmps32
 go_wp2
 go_ret
 exact⟨by rw[HI.out];rfl,rfl⟩

theorem index_val (h:Nat) (s:ByteArray) (a b:Nat) (x y:Int) (w:World) (ha:floatToIntVal .f64 a .i64=some x) (hb:floatToIntVal .f64 b .i64=some y) (h1:h≤30) (hx1: -(h:Int)≤x) (hx2:x≤h) (hy1: -(h:Int)≤y) (hy2:y≤h):
 Calls Tryz.prog 69 #[sqV (2*(h:Int)+1) s,.complex .f64 a b] w fun e w'=>e= .returned (.int .i64 (idx h x y))∧Below w.heap.size w w':=by
 have HI:Hid (_):=idx_is hx1 hy1
 obtain⟨b1,b2⟩:=row_bd h1 rfl hy1 hy2
 have ht:=half_is h
 have HX:Hid (∀w,_):=fun w=>x_val a b x w ha
 have HY:Hid (∀w,_):=fun w=>y_val a b y w hb
 unfold sqV
 generalize (idx h x y:Int)=r at*
 generalize 2*(h:Int)+1=n at*
 have N:=Pk.new_below w (.cells #[.int .i64 n,.string s] 39)
 have m0:=Pk.heap_new w (.cells #[.int .i64 n,.string s] 39)
 clear ha hb
 go_enter Tryz.func69,Tryz.ntmps69
 go_wp2
 generalize w.alloc (.cells #[.int .i64 n,.string s] 39)=w1 at*
 have c0:w1.cell? ⟨w.heap.size,0,none⟩=some (.int .i64 n):=Pk.cell_at m0 0
 clear m0
 go_quiet ((first|(go_at_call 111;exact Calls.quiet_of_same (HX.out _))|(go_at_call 110;exact Calls.quiet_of_same (HY.out _))))
 go_wp2
 go_ret
 exact⟨by rw[HI.out];rfl,Pk.join_below N ((Pk.Drawn.below _ ⟨nq,rfl⟩))⟩

theorem ok_form {n:Int} {s:ByteArray} (h:okQ n s=true):∃h:Nat,4≤h∧h≤30∧n=2*(h:Int)+1∧s.size=(2*h+1)*(2*h+1)∧signsFrom s 0=true:=by
 unfold okQ headOk at h
 rw[Bool.and_eq_true]at h
 obtain⟨h1,h2⟩:=h
 have h3:=of_decide_eq_true h1
 obtain⟨a,b,c,d⟩:=h3
 refine⟨(n/2).toNat,by omega,by omega,by omega,?_,h2⟩
 have e:n=((2*(n/2).toNat+1:Nat):Int):=by omega
 generalize (n/2).toNat=k at*
 subst e
 have:(s.size:Int)=(((2*k+1)*(2*k+1):Nat):Int):=by rw[d,Int.natCast_mul]
 omega

theorem sign_at {s:ByteArray} (hs:signsFrom s 0=true) (i:Nat) (h:i<s.size):s[i].toNat=48∨s[i].toNat=49:=by
 unfold signsFrom at hs
 have h1:i<s.data.toList.length:=by rw[Array.length_toList];exact h
 have:=List.all_eq_true.1 hs (s.data.toList[i]'h1) (by rw[List.drop_zero];exact List.getElem_mem h1)
 exact of_decide_eq_true this

theorem getD_at (s:ByteArray) (i:Nat) (h:i<s.size):s.data.toList.getD i 0=s[i]:=by
 have h1:i<s.data.toList.length:=by rw[Array.length_toList];exact h
 rw[List.getD_eq_getElem?_getD,List.getElem?_eq_getElem h1]
 rfl

end Sq
end Go.Proofs.YtdcpjicgehdmfaaGreatDoor

/- What a square is behind a quarter: the mathematics. -/
namespace Go.Proofs.YtdcpjicgehdmfaaGreatDoor
namespace Sq
open Go.ChangeShapes Go.WideShapes Go.ChangeAt Go.RowKit
set_option linter.unusedSimpArgs false
set_option linter.unusedVariables false

def tb (s:ByteArray) (i:Nat):UInt8:=s.data.toList.getD i 0

def cX (h j:Nat):Int:=((j%(2*h+1):Nat):Int)-h

def cY (h j:Nat):Int:=((j/(2*h+1):Nat):Int)-h

theorem idx_of (h j:Nat):idx h (cX h j) (cY h j)=j:=by
 unfold idx cX cY
 have e1:((j/(2*h+1):Nat):Int)-h+h=((j/(2*h+1):Nat):Int):=by omega
 have e2:((j%(2*h+1):Nat):Int)-h+h=((j%(2*h+1):Nat):Int):=by omega
 rw[e1,e2,Int.toNat_natCast,Int.toNat_natCast,Nat.mul_comm]
 exact Nat.div_add_mod j (2*h+1)

theorem cX_idx {h:Nat} {x y:Int} (hx1: -(h:Int)≤x) (hx2:x≤h):cX h (idx h x y)=x:=by
 unfold cX idx
 rw[Nat.mul_comm,Nat.mul_add_mod,Nat.mod_eq_of_lt (by omega)]
 omega

theorem cY_idx {h:Nat} {x y:Int} (hx1: -(h:Int)≤x) (hx2:x≤h) (hy1: -(h:Int)≤y):cY h (idx h x y)=y:=by
 unfold cY idx
 rw[Nat.mul_comm,Nat.mul_add_div (by omega),Nat.div_eq_of_lt (a:=(x+h).toNat) (by omega)]
 omega

theorem c_in {h j:Nat} (hj:j<(2*h+1)*(2*h+1)):(-(h:Int)≤cX h j∧cX h j≤h)∧(-(h:Int)≤cY h j∧cY h j≤h):=by
 unfold cX cY
 have h1:j%(2*h+1)<2*h+1:=Nat.mod_lt _ (by omega)
 have h2:j/(2*h+1)<2*h+1:=Nat.div_lt_of_lt_mul hj
 generalize j/(2*h+1)=q at*
 generalize j%(2*h+1)=r at*
 omega

def turnF (h:Nat) (s:ByteArray) (j:Nat):UInt8:=tb s (idx h (cY h j) (-(cX h j)))

def strT (c:Nat) (f:Nat→UInt8):ByteArray:=⟨((List.range c).map f).toArray⟩

theorem strT_size (c:Nat) (f:Nat→UInt8):(strT c f).size=c:=by simp[strT,ByteArray.size]

theorem strT_at (c:Nat) (f:Nat→UInt8) (i:Nat) (h:i<c):tb (strT c f) i=f i:=by
 unfold tb strT
 rw[List.getD_eq_getElem?_getD]
 simp[h]

theorem strT_congr {c:Nat} {f g:Nat→UInt8} (h:∀j,j<c→f j=g j):strT c f=strT c g:=by
 unfold strT
 congr 2
 exact List.map_congr_left fun j hj=>h j (List.mem_range.1 hj)

theorem strT_self (s:ByteArray):strT s.size (tb s)=s:=by
 cases s with
 |mk a=>
  unfold strT
  congr 1
  apply Array.ext
  ·simp[ByteArray.size]
  ·intro i h1 h2
   simp[tb]
   rw[Array.getElem?_eq_getElem h2]
   rfl

theorem text_ext {s t:ByteArray} (hs:s.size=t.size) (h:∀j,j<s.size→tb s j=tb t j):s=t:=by
 rw[←strT_self s,←strT_self t,←hs]
 exact strT_congr h

def turnS (h:Nat) (s:ByteArray):ByteArray:=strT ((2*h+1)*(2*h+1)) (turnF h s)

def turnV (n:Int) (s:ByteArray):ByteArray:=if okQ n s=true then turnS (Int.tdiv n 2).toNat s else s

theorem turnV_ok {h:Nat} {s:ByteArray} (hok:okQ (2*(h:Int)+1) s=true):turnV (2*(h:Int)+1) s=turnS h s:=by
 unfold turnV
 rw[if_pos hok,half_is,Int.toNat_natCast]

theorem turnV_no {n:Int} {s:ByteArray} (hok:okQ n s=false):turnV n s=s:=by
 unfold turnV
 rw[if_neg (by rw[hok];decide)]

def tI (h:Nat) (s:ByteArray) (k j:Nat):Value:=if kOf (cY h j) (-(cX h j))<k then .int .u8 ((turnF h s j).toNat:Int)else .int .u8 0

theorem tI_step (h:Nat) (s:ByteArray) (k:Nat) (hk:k<(2*h+1)*(2*h+1)) (j:Nat) (hj:j<(2*h+1)*(2*h+1)):
 tI h s (k+1) j=if j=idx h (-(wy k)) (wx k)then .int .u8 ((tb s (idx h (wx k) (wy k))).toNat:Int)else tI h s k j:=by
 obtain⟨a1,a2,a3,a4⟩:=dist_in (way_dist k h hk)
 unfold tI
 by_cases e:j=idx h (-(wy k)) (wx k)
 ·rw[if_pos e]
  subst e
  unfold turnF
  rw[cX_idx (by omega) (by omega),cY_idx (by omega) (by omega) (by omega),Int.neg_neg,kOf_way,if_pos (by omega)]
 ·rw[if_neg e]
  have hne:kOf (cY h j) (-(cX h j))≠k:=by
   intro hk
   obtain⟨w1,w2⟩:=way_kOf (cY h j) (-(cX h j))
   rw[hk]at w1 w2
   apply e
   rw[w1,w2,Int.neg_neg,idx_of]
  by_cases hl:kOf (cY h j) (-(cX h j))<k
  ·rw[if_pos hl,if_pos (by omega)]
  ·rw[if_neg hl,if_neg (by omega)]

theorem tI_end (h:Nat) (s:ByteArray) (j:Nat) (hj:j<(2*h+1)*(2*h+1)):tI h s ((2*h+1)*(2*h+1)) j= .int .u8 ((turnF h s j).toNat:Int):=by
 unfold tI
 obtain⟨⟨a,b⟩,c,d⟩:=c_in hj
 rw[if_pos (kOf_lt (in_dist ⟨c,d⟩ ⟨by omega,by omega⟩))]

def tS (h:Nat) (s:ByteArray) (c j:Nat):Value:=if idx h (cY h j) (-(cX h j))<c then .int .u8 ((turnF h s j).toNat:Int)else .int .u8 ((tb s j).toNat:Int)

theorem tS_step (h:Nat) (s:ByteArray) (x y:Int) (hx1: -(h:Int)≤x) (hx2:x≤h) (hy1: -(h:Int)≤y) (hy2:y≤h) (j:Nat) (hj:j<(2*h+1)*(2*h+1)):
 tS h s (idx h (x+1) y) j=if j=idx h (-y) x then .int .u8 ((tb s (idx h x y)).toNat:Int)else tS h s (idx h x y) j:=by
 have hs:idx h (x+1) y=idx h x y+1:=by
  unfold idx
  have:(x+1+h).toNat=(x+h).toNat+1:=by omega
  rw[this];omega
 rw[hs]
 obtain⟨⟨a,b⟩,c,d⟩:=c_in hj
 unfold tS
 by_cases e:j=idx h (-y) x
 ·rw[if_pos e]
  subst e
  unfold turnF
  rw[cX_idx (by omega) (by omega),cY_idx (by omega) (by omega) (by omega),Int.neg_neg,if_pos (by omega)]
 ·rw[if_neg e]
  have hne:idx h (cY h j) (-(cX h j))≠idx h x y:=by
   intro hk
   have e1:=cX_idx (h:=h) (x:=cY h j) (y:= -(cX h j)) c d
   have e2:=cY_idx (h:=h) (x:=cY h j) (y:= -(cX h j)) c d (by omega)
   rw[hk,cX_idx hx1 hx2]at e1
   rw[hk,cY_idx hx1 hx2 hy1]at e2
   apply e
   rw[e1,e2,Int.neg_neg,idx_of]
  by_cases hl:idx h (cY h j) (-(cX h j))<idx h x y
  ·rw[if_pos hl,if_pos (by omega)]
  ·rw[if_neg hl,if_neg (by omega)]

theorem idx_row (h:Nat) (y:Int) (hy1: -(h:Int)≤y):idx h ((h:Int)+1) y=idx h (-(h:Int)) (y+1):=by
 unfold idx
 have e1:((h:Int)+1+h).toNat=2*h+1:=by omega
 have e2:(-(h:Int)+h).toNat=0:=by omega
 have e3:(y+1+h).toNat=(y+h).toNat+1:=by omega
 rw[e1,e2,e3,Nat.add_mul]
 omega

theorem idx_first (h:Nat):idx h (-(h:Int)) (-(h:Int))=0:=by
 unfold idx
 have e2:(-(h:Int)+h).toNat=0:=by omega
 rw[e2]
 omega

theorem idx_last (h:Nat):idx h (-(h:Int)) ((h:Int)+1)=(2*h+1)*(2*h+1):=by
 unfold idx
 have e1:((h:Int)+1+h).toNat=2*h+1:=by omega
 have e2:(-(h:Int)+h).toNat=0:=by omega
 rw[e1,e2]
 omega

theorem tS_zero (h:Nat) (s:ByteArray) (j:Nat):tS h s 0 j= .int .u8 ((tb s j).toNat:Int):=by
 unfold tS
 rw[if_neg (by omega)]

theorem tS_end (h:Nat) (s:ByteArray) (j:Nat) (hj:j<(2*h+1)*(2*h+1)):tS h s ((2*h+1)*(2*h+1)) j= .int .u8 ((turnF h s j).toNat:Int):=by
 unfold tS
 obtain⟨⟨a,b⟩,c,d⟩:=c_in hj
 rw[if_pos (idx_lt c d (by omega) (by omega))]

end Sq
end Go.Proofs.YtdcpjicgehdmfaaGreatDoor

/- A row of cells that is written field by field while all else of the call's own is kept. -/
namespace Go.Proofs.YtdcpjicgehdmfaaGreatDoor
namespace Sq
open Go.ChangeShapes Go.WideShapes Go.ChangeAt Go.RowKit
set_option linter.unusedSimpArgs false
set_option linter.unusedVariables false

def Cl (w:World) (g c:Nat) (f:Nat→Value):Prop:=∀j,j<c→w.cell? ⟨g,j,none⟩=some (f j)∧w.frozen? ⟨g,j,none⟩=false

theorem Cl.of_tab {w:World} {g c:Nat} {f:Nat→Value} {t:TypeId} (h:w.heap[g]? =some (.cells (tab c f) t)):Cl w g c f:=fun j hj=>⟨row_at h j hj,Pk.frozen_at h j⟩

theorem Cl.congr {w:World} {g c:Nat} {f f':Nat→Value} (h:Cl w g c f) (e:∀j,j<c→f' j=f j):Cl w g c f':=fun j hj=>⟨by rw[(h j hj).1,e j hj],(h j hj).2⟩

theorem Cl.set {w:World} {g c:Nat} {f f':Nat→Value} (h:Cl w g c f) (i:Nat) (u:Value) (e:∀j,j<c→f' j=if j=i then u else f j):Cl (w.setCell ⟨g,i,none⟩ u) g c f':=by
 intro j hj
 refine⟨?_,by rw[World.frozen?_setCell];exact(h j hj).2⟩
 by_cases k:j=i
 ·subst k
  rw[World.cell?_setCell_same _ _ _ (h j hj).1,e j hj,if_pos rfl]
 ·rw[World.cell?_setCell_other _ _ _ _ (by intro h;apply k;simpa using h.symm),(h j hj).1,e j hj,if_neg k]

theorem Cl.on {w w1:World} {g c B:Nat} {f:Nat→Value} (h:Cl w g c f) (L:Below B w w1) (hg:g<B):Cl w1 g c f:=fun j hj=>⟨by rw[L.cell hg];exact(h j hj).1,by rw[L.frozen hg];exact(h j hj).2⟩

theorem Cl.text {w:World} {g c cap:Nat} {f:Nat→Value} {b:Nat→UInt8} (h:Cl w g c f) (hf:∀j,j<c→f j= .int .u8 ((b j).toNat:Int)):
 (convert 58 9 (.slice (some ⟨g,0,none⟩) c cap)).run Tryz.prog w= .ok (.string (strT c b)) w:=by
 have hl:((List.range c).map b).length=c:=by simp
 have:=run_convert_bytes_back (P:=Tryz.prog) w 58 9 5 ⟨g,0,none⟩ cap ((List.range c).map b) Tryz.underlying58 Tryz.underlying5 Tryz.underlying9 (by
  intro j hj0
  have hj:j<c:=by omega
  rw[show Addr.add ⟨g,0,none⟩ j=⟨g,j,none⟩from by simp[Addr.add];exact Eq.symm]
  rw[(h j hj).1,hf j hj]
  simp)
 rw[hl]at this
 exact this

structure Run (B:Nat) (w W wr:World) (g c:Nat) (f:Nat→Value):Prop where
 below:Below B w wr
 kp:∀k,k<W.heap.size→k≠g→wr.heap[k]? =W.heap[k]?
 size:W.heap.size≤wr.heap.size
 glt:g<W.heap.size
 gB:B≤g
 row:Cl wr g c f

theorem Run.start {B:Nat} {w W:World} {g c:Nat} {f:Nat→Value} (L:Below B w W) (hg:g<W.heap.size) (hB:B≤g) (h:Cl W g c f):Run B w W W g c f:=⟨L,fun _ _ _=>rfl,Nat.le_refl _,hg,hB,h⟩

theorem Run.on {B:Nat} {w W wr x:World} {g c:Nat} {f:Nat→Value} (R:Run B w W wr g c f) (L:Below wr.heap.size wr x):Run B w W x g c f:=by
 have h1:=R.size
 have h2:=R.glt
 have h3:=R.gB
 exact⟨R.below.trans (L.mono (by omega)),fun k hk hg=>(L.block k (by omega)).trans (R.kp k hk hg),Nat.le_trans R.size L.size,R.glt,R.gB,R.row.on L (by omega)⟩

theorem Run.drew {B:Nat} {w W wr:World} {g c:Nat} {f:Nat→Value} (R:Run B w W wr g c f):Run B w W wr.drew g c f:=⟨R.below.drew,R.kp,R.size,R.glt,R.gB,R.row⟩

theorem Run.set {B:Nat} {w W wr:World} {g c:Nat} {f f':Nat→Value} (R:Run B w W wr g c f) (i:Nat) (u:Value) (e:∀j,j<c→f' j=if j=i then u else f j):Run B w W (wr.setCell ⟨g,i,none⟩ u) g c f':=
 ⟨R.below.setCell R.gB u,fun k hk hg=>(Below.heap_setCell wr ⟨g,i,none⟩ u k hg).trans (R.kp k hk hg),by rw[World.size_setCell];exact R.size,R.glt,R.gB,R.row.set i u e⟩

theorem Run.keep {B:Nat} {w W wr:World} {g c:Nat} {f:Nat→Value} (R:Run B w W wr g c f) {k:Nat} {o:Obj} (m:W.heap[k]? =some o) (hk:k≠g):wr.heap[k]? =some o:=by
 rw[R.kp k (Pk.lt_of m) hk]
 exact m

theorem strings_Clone (s:ByteArray) (w:World) (hlim:s.size≤281474976710656):
 Calls Tryz.prog 104 #[.string s] w fun e w'=>e= .returned (.string s)∧Below w.heap.size w w':=by
 go_enter Tryz.func104,Tryz.ntmps104
 go_wp2_with fail
 refine(Tryz.stringslite_Clone s _ hlim).mono ?_
 rintro e w1 ⟨rfl,L⟩
 go_wp2
 go_ret
 exact⟨rfl,L⟩

def Box (W:World) (b:Nat) (n:Int) (s:ByteArray):Prop:=W.heap[b]? =some (.cells #[.int .i64 n,.string s] 39)

theorem box2 (w:World) (n:Int) (s:ByteArray):
 Box ((w.alloc (.cells #[.int .i64 n,.string s] 39)).alloc (.cells #[.int .i64 0,.string ⟨#[]⟩] 39)) w.heap.size n s∧
 Box ((w.alloc (.cells #[.int .i64 n,.string s] 39)).alloc (.cells #[.int .i64 0,.string ⟨#[]⟩] 39)) (w.heap.size+1) 0 ⟨#[]⟩∧
 Below w.heap.size w ((w.alloc (.cells #[.int .i64 n,.string s] 39)).alloc (.cells #[.int .i64 0,.string ⟨#[]⟩] 39)):=by
 have m0:=Pk.heap_new w (.cells #[.int .i64 n,.string s] 39)
 have m1:=Pk.heap_new (w.alloc (.cells #[.int .i64 n,.string s] 39)) (.cells #[.int .i64 0,.string ⟨#[]⟩] 39)
 refine⟨Pk.heap_old m0 _,?_,((Below.refl _ _).alloc (Nat.le_refl _) _).alloc (by simp) _⟩
 unfold Box
 have e:(w.alloc (.cells #[.int .i64 n,.string s] 39)).heap.size=w.heap.size+1:=by simp
 rw[e]at m1
 exact m1

theorem Box.n {W:World} {b:Nat} {n:Int} {s:ByteArray} (h:Box W b n s):W.cell? ⟨b,0,none⟩=some (.int .i64 n):=Pk.cell_at h 0

theorem Box.s {W:World} {b:Nat} {n:Int} {s:ByteArray} (h:Box W b n s):W.cell? ⟨b,1,none⟩=some (.string s):=Pk.cell_at h 1

theorem Box.f {W:World} {b:Nat} {n:Int} {s:ByteArray} (h:Box W b n s) (i:Nat):W.frozen? ⟨b,i,none⟩=false:=Pk.frozen_at h i

theorem Box.on {W x:World} {b:Nat} {n:Int} {s:ByteArray} (h:Box W b n s) (L:Below W.heap.size W x):Box x b n s:=Pk.kept L (Pk.lt_of h) h

theorem Box.drew {W:World} {b:Nat} {n:Int} {s:ByteArray} (h:Box W b n s):Box W.drew b n s:=h

set_option maxRecDepth 100000 in
theorem copied_val (n:Int) (s:ByteArray) (w:World) (hs:s.size≤281474976710656):
 Calls Tryz.prog 66 #[sqV n s] w fun e w'=>e= .returned (sqV n s)∧Below w.heap.size w w':=by
 have HC:Hid (∀w,_):=fun w=>strings_Clone s w hs
 unfold sqV
 obtain⟨m0,m1,N⟩:=box2 w n s
 go_enter Tryz.func66,Tryz.ntmps66
 go_wp2
 generalize (w.alloc (.cells #[.int .i64 n,.string s] 39)).alloc (.cells #[.int .i64 0,.string ⟨#[]⟩] 39)=W at*
 have c0:=m0.n
 have c1:=m0.s
 have d0:=m1.n
 have d1:=m1.s
 have f0:=m1.f 0
 have f1:=m1.f 1
 go_region_held3 (fun w'=>w'.cell? ⟨w.heap.size,0,none⟩=some (.int .i64 n)∧w'.cell? ⟨w.heap.size,1,none⟩=some (.string s)) (go_keep) (first
  |(go_at_call 104;refine(HC.out _).mono ?_;rintro e x1 ⟨rfl,L1⟩;have L2:Below W.heap.size W x1:=(by first|exact L1|exact((Below.refl _ _).drew).trans L1);have p0:=(m0.on L2).n;have p1:=(m0.on L2).s;have q0:=(m1.on L2).n;have q1:=(m1.on L2).s;have g0:=(m1.on L2).f 0;have g1:=(m1.on L2).f 1;have N2:=Pk.join_below N L2))
 all_goals
  go_wp2
  refine bodyPost_ret (v:= .agg #[.int .i64 n,.string s]) (by simp[results,Tryz.results66,go_sem,q0,q1]) rfl ?_
  exact⟨rfl,(N2.setCell (Nat.le_succ _) _).setCell (Nat.le_succ _) _⟩

end Sq
end Go.Proofs.YtdcpjicgehdmfaaGreatDoor

/- Contracts of Turn, of the program and of its model. -/
namespace Go.Proofs.YtdcpjicgehdmfaaGreatDoor
namespace Sq
open Go.ChangeShapes Go.WideShapes Go.ChangeAt Go.RowKit
set_option linter.unusedSimpArgs false
set_option linter.unusedVariables false

theorem tI_zero (h:Nat) (s:ByteArray) (j:Nat):tI h s 0 j= .int .u8 0:=by
 unfold tI
 rw[if_neg (by omega)]

theorem info_u8:(Tryz.prog.info? 5).map (fun i=>(i.zero,i.size,i.bytes))=some (some (.int .u8 0),1,1):=by kernel_rfl

set_option maxRecDepth 100000 in
theorem implTurn_ok (h:Nat) (s:ByteArray) (w:World) (hs:s.size≤maxLen) (h4:4≤h) (h1:h≤30) (hok:okQ (2*(h:Int)+1) s=true) (hz:s.size=(2*h+1)*(2*h+1)):
 Calls Tryz.prog 65 #[sqV (2*(h:Int)+1) s] w fun e w'=>e= .returned (sqV (2*(h:Int)+1) (turnS h s))∧Below w.heap.size w w':=by
 have HO:Hid (∀w,_):=fun w=>implOk_val (2*(h:Int)+1) s w hs
 rw[hok]at HO
 have hN:(2*h+1)*(2*h+1)≤61*61:=Nat.mul_le_mul (by omega) (by omega)
 have hN1:9*9≤(2*h+1)*(2*h+1):=Nat.mul_le_mul (by omega) (by omega)
 have HW:Hid (∀w,_):=fun w=>wayOf_val s.size w (by omega) (by omega)
 have hmk:=make_run 58 5 _ 1 s.size Tryz.underlying58 info_u8 rfl (by omega) (by omega)
 have HP1:Hid (∀(k:Nat) (w:World),k<s.size→_):=fun k w hk=>toRight_val (wx k) (wy k) w (by have:=way_bd k (by omega);omega) (by have:=way_bd k (by omega);omega) (by have:=way_bd k (by omega);omega) (by have:=way_bd k (by omega);omega)
 have HP2:Hid (∀(k:Nat) (w:World),k<s.size→_):=fun k w hk=>index_val h s (E (wx k)) (E (wy k)) (wx k) (wy k) w (E_int (by have:=way_bd k (by omega);omega) (by have:=way_bd k (by omega);omega)) (E_int (by have:=way_bd k (by omega);omega) (by have:=way_bd k (by omega);omega)) h1 (dist_in (way_dist k h (by omega))).1 (dist_in (way_dist k h (by omega))).2.1 (dist_in (way_dist k h (by omega))).2.2.1 (dist_in (way_dist k h (by omega))).2.2.2
 have HP3:Hid (∀(k:Nat) (w:World),k<s.size→_):=fun k w hk=>index_val h s (sr (zs (wx k)) (wy k)) (E (wx k)) (-(wy k)) (wx k) w (right_bits (by have:=way_bd k (by omega);omega) (by have:=way_bd k (by omega);omega) (by have:=way_bd k (by omega);omega) (by have:=way_bd k (by omega);omega)).2 (E_int (by have:=way_bd k (by omega);omega) (by have:=way_bd k (by omega);omega)) h1 (by have:=dist_in (way_dist k h (by omega));omega) (by have:=dist_in (way_dist k h (by omega));omega) (dist_in (way_dist k h (by omega))).1 (dist_in (way_dist k h (by omega))).2.1
 have HI2:Hid (∀k,k<s.size→idx h (wx k) (wy k)<s.size):=fun k hk=>by
  obtain⟨a1,a2,a3,a4⟩:=dist_in (way_dist k h (by omega))
  rw[hz];exact idx_lt a1 a2 a3 a4
 have HI3:Hid (∀k,k<s.size→idx h (-(wy k)) (wx k)<s.size):=fun k hk=>by
  obtain⟨a1,a2,a3,a4⟩:=dist_in (way_dist k h (by omega))
  rw[hz];exact idx_lt (by omega) (by omega) a1 a2
 have HST:Hid (∀k,k<s.size→∀j,j<s.size→tI h s (k+1) j=if j=idx h (-(wy k)) (wx k)then .int .u8 ((tb s (idx h (wx k) (wy k))).toNat:Int)else tI h s k j):=fun k hk j hj=>tI_step h s k (by omega) j (by omega)
 have HEN:Hid (∀j,j<s.size→tI h s s.size j= .int .u8 ((turnF h s j).toNat:Int)):=fun j hj=>by
  have:=tI_end h s j (by omega)
  rw[←hz]at this
  exact this
 have HT:Hid (turnS h s=strT s.size (turnF h s)):=by show _=_;unfold turnS;rw[hz]
 have hc1:s.size≤3721:=by omega
 have hc0:81≤s.size:=by omega
 clear hs hok hz hN hN1 h4 h1
 generalize turnS h s=T at*
 unfold sqV at*
 generalize 2*(h:Int)+1=n at*
 obtain⟨m0,m1,N⟩:=box2 w n s
 go_enter Tryz.func65,Tryz.ntmps65
 go_wp2_with fail
 generalize (w.alloc (.cells #[.int .i64 n,.string s] 39)).alloc (.cells #[.int .i64 0,.string ⟨#[]⟩] 39)=W at*
 refine(HO.out _).mono ?_
 rintro e w1 ⟨rfl,L1⟩
 replace m0:=m0.on L1
 replace m1:=m1.on L1
 replace N:=Pk.join_below N L1
 have c1:=m0.s
 have K:=Pk.new_below w1 (.cells (tab s.size (fun _=> .int .u8 0)) 5)
 have G:=Pk.heap_new w1 (.cells (tab s.size (fun _=> .int .u8 0)) 5)
 have m2:=m0.on K
 have m3:=m1.on K
 have N2:=Pk.join_below N K
 have hb:w.heap.size+1<w1.heap.size:=Pk.lt_of m1
 go_wp2_with fail
 generalize w1.alloc (.cells (tab s.size (fun _=> .int .u8 0)) 5)=w2 at*
 refine(HW.out _).mono ?_
 rintro e w3 ⟨rfl,m,L3⟩
 have hg2:w1.heap.size<w2.heap.size:=Pk.lt_of G
 replace m2:=m2.on L3
 replace m3:=m3.on L3
 have G3:=Pk.kept L3 (Pk.lt_of G) G
 have N3:=Pk.join_below N2 L3
 have R0:Run w.heap.size w w3 w3 w1.heap.size s.size (tI h s 0):=Run.start N3 (Pk.lt_of G3) (by omega) ((Cl.of_tab G3).congr (fun j _=>tI_zero h s j))
 clear m0 m1 N c1 K N2 L1 L3 G G3
 generalize hg:w1.heap.size=g at*
 generalize hp:w2.heap.size=p at*
 have hpg:p≠g:=by omega
 have hbg:w.heap.size≠g:=by omega
 have hrg:w.heap.size+1≠g:=by omega
 go_wp2
 go_loopw [19] (fun i wr=>∃k:Nat,k≤s.size∧i= .int .i64 k∧Run w.heap.size w w3 wr g s.size (tI h s k)) (fun i _=>s.size-(intOf i).toNat)
 case atStart=>exact⟨0,by omega,rfl,R0⟩
 case round=>
  obtain⟨k,hk,rfl,R⟩:=hrel
  by_cases hlt:k<s.size
  ·have M:Box wr w.heap.size n s:=R.keep m2 hbg
   have hcl:=row_at (R.keep m hpg) k hlt
   unfold plV at hcl
   have J2:=HI2.out k hlt
   have J3:=HI3.out k hlt
   have X1:Hid (∀w,_):=fun w=>HP1.out k w hlt
   have X2:Hid (∀w,_):=fun w=>HP2.out k w hlt
   have X3:Hid (∀w,_):=fun w=>HP3.out k w hlt
   have XS:Hid (_):=HST.out k hlt
   have X4:=getD_at s _ J2
   rw[show s.data.toList.getD (idx h (wx k) (wy k)) 0=tb s (idx h (wx k) (wy k))from rfl]at X4
   rw[X4]at XS
   clear X4
   generalize E (wx k)=a at*
   generalize E (wy k)=b at*
   generalize sr (zs (wx k)) (wy k)=d at*
   generalize idx h (wx k) (wy k)=i2 at*
   generalize idx h (-(wy k)) (wx k)=i3 at*
   have hk1:(0:Int)≤(i2:Int):=by omega
   have hk2:(i2:Int)<(s.size:Int):=by omega
   have hk3:(0:Int)≤(i3:Int):=by omega
   have hk4:(i3:Int)<(s.size:Int):=by omega
   have z1:¬g=w.heap.size:=fun h=>hbg h.symm
   have z2:¬w.heap.size=g:=hbg
   have c0:=M.n
   have c1:=M.s
   have r0:=(R.row i3 J3).1
   have r1:=(R.row i3 J3).2
   go_wp2
   go_region_held3 (fun w'=>w'.cell? ⟨w.heap.size,0,none⟩=some (.int .i64 n)∧w'.cell? ⟨w.heap.size,1,none⟩=some (.string s)) (go_keep) (first
    |(go_at_call 103;refine(X1.out _).mono ?_;rintro e x1 ⟨rfl,rfl⟩)
    |(go_at_call 69;(first|(with_reducible refine(X2.out _).mono ?_)|(with_reducible refine(X3.out _).mono ?_));rintro e x2 ⟨rfl,L3⟩;replace R:=(by first|exact R.on L3|exact R.drew.on L3);have M:Box x2 w.heap.size n s:=R.keep m2 hbg;have c0:=M.n;have c1:=M.s;have r0:=(R.row i3 J3).1;have r1:=(R.row i3 J3).2))
   all_goals
    go_wp2
    go_roundw
    case rel=>exact⟨k+1,by omega,by go_num,by first|exact R.set i3 _ XS.out|exact R.drew.set i3 _ XS.out|exact(R.set i3 _ XS.out).drew⟩
    case measure=>simp[intOf];omega
  ·obtain rfl:k=s.size:=by omega
   have hcv:=R.row.text (cap:=s.size) HEN.out
   rw[←HT.out]at hcv
   have M:Box wr w.heap.size n s:=R.keep m2 hbg
   have M':Box wr (w.heap.size+1) 0 ⟨#[]⟩:=R.keep m3 hrg
   have c0:=M.n
   have d0:=M'.n
   have d1:=M'.s
   have f0:=M'.f 0
   have f1:=M'.f 1
   have LL:=R.below
   go_wp2
   refine bodyPost_ret (v:= .agg #[.int .i64 n,.string T]) (by simp[results,Tryz.results65,go_sem,d0,d1]) rfl ?_
   exact⟨rfl,(LL.setCell (Nat.le_succ _) _).setCell (Nat.le_succ _) _⟩

theorem implTurn_val (n:Int) (s:ByteArray) (w:World) (hs:s.size≤1048576):
 Calls Tryz.prog 65 #[sqV n s] w fun e w'=>e= .returned (sqV n (turnV n s))∧Below w.heap.size w w':=by
 cases hok:okQ n s
 ·rw[turnV_no hok]
  have HO:Hid (∀w,_):=fun w=>implOk_val n s w (by unfold maxLen;omega)
  rw[hok]at HO
  have HC:Hid (∀w,_):=fun w=>copied_val n s w (by omega)
  clear hok hs
  unfold sqV at*
  obtain⟨m0,m1,N⟩:=box2 w n s
  go_enter Tryz.func65,Tryz.ntmps65
  go_wp2_with fail
  generalize (w.alloc (.cells #[.int .i64 n,.string s] 39)).alloc (.cells #[.int .i64 0,.string ⟨#[]⟩] 39)=W at*
  refine(HO.out _).mono ?_
  rintro e w1 ⟨rfl,L1⟩
  replace m0:=m0.on L1
  replace m1:=m1.on L1
  replace N:=Pk.join_below N L1
  have c0:=m0.n
  have c1:=m0.s
  go_wp2_with fail
  refine(HC.out _).mono ?_
  rintro e w2 ⟨rfl,L2⟩
  replace m1:=m1.on L2
  replace N:=Pk.join_below N L2
  have d0:=m1.n
  have d1:=m1.s
  have f0:=m1.f 0
  have f1:=m1.f 1
  clear c0 c1 m0 L1
  go_wp2
  refine bodyPost_ret (v:= .agg #[.int .i64 n,.string s]) (by simp[results,Tryz.results65,go_sem,d0,d1]) rfl ?_
  exact⟨rfl,(N.setCell (Nat.le_succ _) _).setCell (Nat.le_succ _) _⟩
 ·obtain⟨h,h4,h1,rfl,hz,hg⟩:=ok_form hok
  rw[turnV_ok hok]
  exact implTurn_ok h s w (by unfold maxLen;omega) h4 h1 hok hz

end Sq
end Go.Proofs.YtdcpjicgehdmfaaGreatDoor

/- Contract of the model's Turn. -/
namespace Go.Proofs.YtdcpjicgehdmfaaGreatDoor
namespace Sq
open Go.ChangeShapes Go.WideShapes Go.ChangeAt Go.RowKit
set_option linter.unusedSimpArgs false
set_option linter.unusedVariables false

theorem to_bytes (w:World) (s:ByteArray):∃(g cap:Nat) (w1:World),(convert 9 58 (.string s)).run Tryz.prog w= .ok (.slice (some ⟨g,0,none⟩) s.size cap) w1∧w.heap.size≤g∧g<w1.heap.size∧Below w.heap.size w w1∧Cl w1 g s.size (fun j=> .int .u8 ((tb s j).toNat:Int)):=by
 refine⟨_,_,_,run_bytes_of_string w 9 58 5 s Tryz.underlying9 Tryz.underlying58 Tryz.underlying5,Nat.le_refl _,by simp,((Below.refl _ _).drew).alloc (Nat.le_refl _) _,?_⟩
 intro j hj
 generalize grownCap w s.size 0 5=cp
 have hd:w.drew.heap.size=w.heap.size:=rfl
 constructor
 ·rw[←hd,World.cell?_alloc_mark,bytesRow_at s _ j hj]
  show _=some (Value.int .u8 ((s.data.toList.getD j 0).toNat:Int))
  rw[getD_at s j hj]
  rfl
 ·have hh:(w.drew.alloc (.cells (bytesRow s cp) 5 ((bytesRow s cp).size,(bytesRow s cp).size+1))).heap[w.heap.size]? =some (.cells (bytesRow s cp) 5 ((bytesRow s cp).size,(bytesRow s cp).size+1)):=(MapKept.heap_alloc w.drew _).1
  have hsz:j<(bytesRow s cp).size:=by
   have h:=bytesRow_at s cp j hj
   exact(Array.getElem?_eq_some_iff.1 h).1
  unfold World.frozen?
  rw[hh]
  simp
  omega

set_option maxRecDepth 100000 in
theorem specTurn_ok (h:Nat) (s:ByteArray) (w:World) (hs:s.size≤maxLen) (h4:4≤h) (h1:h≤30) (hok:okQ (2*(h:Int)+1) s=true) (hz:s.size=(2*h+1)*(2*h+1)):
 Calls Tryz.prog 55 #[sqV (2*(h:Int)+1) s] w fun e w'=>e= .returned (sqV (2*(h:Int)+1) (turnS h s))∧Below w.heap.size w w':=by
 have HO:Hid (∀w,_):=fun w=>specOk_val (2*(h:Int)+1) s w hs
 rw[hok]at HO
 have ht:=half_is h
 have HP2:Hid (∀(x y:Int) (w:World),-(h:Int)≤x→x≤h→ -(h:Int)≤y→y≤h→_):=fun x y w a1 a2 a3 a4=>place_val h x y w h1 a1 a2 a3 a4
 have HP3:Hid (∀(x y:Int) (w:World),-(h:Int)≤x→x≤h→ -(h:Int)≤y→y≤h→_):=fun x y w a1 a2 a3 a4=>place_val h (-y) x w h1 (by omega) (by omega) a1 a2
 have HI:Hid (∀(x y:Int),-(h:Int)≤x→x≤h→ -(h:Int)≤y→y≤h→idx h x y<s.size):=fun x y a1 a2 a3 a4=>by rw[hz];exact idx_lt a1 a2 a3 a4
 have HST:Hid (∀(x y:Int),-(h:Int)≤x→x≤h→ -(h:Int)≤y→y≤h→∀j,j<s.size→tS h s (idx h (x+1) y) j=if j=idx h (-y) x then .int .u8 ((tb s (idx h x y)).toNat:Int)else tS h s (idx h x y) j):=fun x y a1 a2 a3 a4 j hj=>tS_step h s x y a1 a2 a3 a4 j (by omega)
 have HEN:Hid (∀j,j<s.size→tS h s (idx h (-(h:Int)) ((h:Int)+1)) j= .int .u8 ((turnF h s j).toNat:Int)):=fun j hj=>by
  rw[idx_last]
  exact tS_end h s j (by omega)
 have HT:Hid (turnS h s=strT s.size (turnF h s)):=by show _=_;unfold turnS;rw[hz]
 have hN:(2*h+1)*(2*h+1)≤61*61:=Nat.mul_le_mul (by omega) (by omega)
 have hc1:s.size≤3721:=by omega
 clear hs hok hz hN h4
 generalize turnS h s=T at*
 unfold sqV at*
 generalize 2*(h:Int)+1=n at*
 obtain⟨m0,m1,N⟩:=box2 w n s
 go_enter Tryz.func55,Tryz.ntmps55
 go_wp2_with fail
 generalize (w.alloc (.cells #[.int .i64 n,.string s] 39)).alloc (.cells #[.int .i64 0,.string ⟨#[]⟩] 39)=W at*
 refine(HO.out _).mono ?_
 rintro e w1 ⟨rfl,L1⟩
 replace m0:=m0.on L1
 replace m1:=m1.on L1
 replace N:=Pk.join_below N L1
 have hb:w.heap.size+1<w1.heap.size:=Pk.lt_of m1
 have c1:=m0.s
 obtain⟨g,cap,w3,hcv,hg1,hg2,L3,C3⟩:=to_bytes w1 s
 have m2:=m0.on L3
 have m3:=m1.on L3
 have N3:=Pk.join_below N L3
 have c0:=m2.n
 have R0:Run w.heap.size w w3 w3 g s.size (tS h s (idx h (-(h:Int)) (-(h:Int)))):=Run.start N3 hg2 (by omega) (C3.congr (fun j _=>by rw[idx_first];exact tS_zero h s j))
 have hbg:w.heap.size≠g:=by omega
 have hrg:w.heap.size+1≠g:=by omega
 clear m0 m1 N L1 L3 C3
 go_wp2
 clear c1 c0 hcv
 go_loopw [5] (fun i wr=>∃y:Int,-(h:Int)≤y∧y≤(h:Int)+1∧i= .int .i64 y∧Run w.heap.size w w3 wr g s.size (tS h s (idx h (-(h:Int)) y))) (fun i _=>((h:Int)+1-intOf i).toNat)
 case atStart=>exact⟨-(h:Int),by omega,by omega,rfl,R0⟩
 case round=>
  obtain⟨y,hy1,hy2,rfl,R⟩:=hrel
  by_cases hlt:y≤h
  ·go_wp2
   go_loopw [6] (fun i wr=>∃x:Int,-(h:Int)≤x∧x≤(h:Int)+1∧i= .int .i64 x∧Run w.heap.size w w3 wr g s.size (tS h s (idx h x y))) (fun i _=>((h:Int)+1-intOf i).toNat)
   case atStart=>exact⟨-(h:Int),by omega,by omega,rfl,R⟩
   case round=>
    clear R
    obtain⟨x,hx1,hx2,rfl,R⟩:=hrel
    by_cases hlx:x≤h
    ·have M:Box wr w.heap.size n s:=R.keep m2 hbg
     have J2:=HI.out x y hx1 hlx hy1 hlt
     have J3:=HI.out (-y) x (by omega) (by omega) hx1 hlx
     have X2:Hid (∀w,_):=fun w=>HP2.out x y w hx1 hlx hy1 hlt
     have X3:Hid (∀w,_):=fun w=>HP3.out x y w hx1 hlx hy1 hlt
     have XS:Hid (_):=HST.out x y hx1 hlx hy1 hlt
     have X4:=getD_at s _ J2
     rw[show s.data.toList.getD (idx h x y) 0=tb s (idx h x y)from rfl]at X4
     rw[X4]at XS
     clear X4
     generalize idx h x y=i2 at*
     generalize idx h (-y) x=i3 at*
     have hk1:(0:Int)≤(i2:Int):=by omega
     have hk2:(i2:Int)<(s.size:Int):=by omega
     have hk3:(0:Int)≤(i3:Int):=by omega
     have hk4:(i3:Int)<(s.size:Int):=by omega
     have zw:IntKind.i64.wrap (-y)= -y:=by rw[IntKind.wrap_i64];omega
     have z1:¬g=w.heap.size:=fun h=>hbg h.symm
     have z2:¬w.heap.size=g:=hbg
     have c0:=M.n
     have c1:=M.s
     have r0:=(R.row i3 J3).1
     have r1:=(R.row i3 J3).2
     go_wp2
     go_region_held3 (fun w'=>w'.cell? ⟨w.heap.size,0,none⟩=some (.int .i64 n)∧w'.cell? ⟨w.heap.size,1,none⟩=some (.string s)) (go_keep) (first
      |(go_at_call 32;(first|(with_reducible refine(X2.out _).mono ?_)|(with_reducible refine(X3.out _).mono ?_));rintro e x2 ⟨rfl,rfl⟩))
     all_goals
      go_wp2
      go_roundw
      case rel=>exact⟨x+1,by omega,by omega,rfl,by first|exact R.set i3 _ XS.out|exact R.drew.set i3 _ XS.out|exact(R.set i3 _ XS.out).drew⟩
      case measure=>simp[intOf];omega
    ·obtain rfl:x=(h:Int)+1:=by omega
     rw[idx_row h y hy1]at R
     go_wp2
     go_roundw
     case rel=>exact⟨y+1,by omega,by omega,rfl,R⟩
     case measure=>simp[intOf];omega
  ·obtain rfl:y=(h:Int)+1:=by omega
   have hcv:=R.row.text (cap:=cap) HEN.out
   rw[←HT.out]at hcv
   have M:Box wr w.heap.size n s:=R.keep m2 hbg
   have M':Box wr (w.heap.size+1) 0 ⟨#[]⟩:=R.keep m3 hrg
   have c0:=M.n
   have d0:=M'.n
   have d1:=M'.s
   have f0:=M'.f 0
   have f1:=M'.f 1
   have LL:=R.below
   go_wp2
   refine bodyPost_ret (v:= .agg #[.int .i64 n,.string T]) (by simp[results,Tryz.results55,go_sem,d0,d1]) rfl ?_
   exact⟨rfl,(LL.setCell (Nat.le_succ _) _).setCell (Nat.le_succ _) _⟩

theorem specTurn_val (n:Int) (s:ByteArray) (w:World) (hs:s.size≤1048576):
 Calls Tryz.prog 55 #[sqV n s] w fun e w'=>e= .returned (sqV n (turnV n s))∧Below w.heap.size w w':=by
 cases hok:okQ n s
 ·rw[turnV_no hok]
  have HO:Hid (∀w,_):=fun w=>specOk_val n s w (by unfold maxLen;omega)
  rw[hok]at HO
  clear hok hs
  unfold sqV at*
  obtain⟨m0,m1,N⟩:=box2 w n s
  go_enter Tryz.func55,Tryz.ntmps55
  go_wp2_with fail
  generalize (w.alloc (.cells #[.int .i64 n,.string s] 39)).alloc (.cells #[.int .i64 0,.string ⟨#[]⟩] 39)=W at*
  refine(HO.out _).mono ?_
  rintro e w1 ⟨rfl,L1⟩
  replace m0:=m0.on L1
  replace m1:=m1.on L1
  replace N:=Pk.join_below N L1
  have c0:=m0.n
  have c1:=m0.s
  have d0:=m1.n
  have d1:=m1.s
  have f0:=m1.f 0
  have f1:=m1.f 1
  go_wp2
  refine bodyPost_ret (v:= .agg #[.int .i64 n,.string s]) (by simp[results,Tryz.results55,go_sem,d0,d1]) rfl ?_
  exact⟨rfl,(N.setCell (Nat.le_succ _) _).setCell (Nat.le_succ _) _⟩
 ·obtain⟨h,h4,h1,rfl,hz,hg⟩:=ok_form hok
  rw[turnV_ok hok]
  exact specTurn_ok h s w (by unfold maxLen;omega) h4 h1 hok hz

end Sq
end Go.Proofs.YtdcpjicgehdmfaaGreatDoor

/- Contracts of TurnBy, of the program and of its model. -/
namespace Go.Proofs.YtdcpjicgehdmfaaGreatDoor
namespace Sq
open Go.ChangeShapes Go.WideShapes Go.ChangeAt Go.RowKit
set_option linter.unusedSimpArgs false
set_option linter.unusedVariables false

def turnN (n:Int) (s:ByteArray):Nat→ByteArray
 |0=>s
 |k+1=>turnV n (turnN n s k)

theorem turnV_size (n:Int) (s:ByteArray):(turnV n s).size=s.size:=by
 cases hok:okQ n s
 ·rw[turnV_no hok]
 ·obtain⟨h,h4,h1,rfl,hz,hg⟩:=ok_form hok
  rw[turnV_ok hok,turnS,strT_size,hz]

theorem turnN_size (n:Int) (s:ByteArray) (k:Nat):(turnN n s k).size=s.size:=by
 induction k with
 |zero=>rfl
 |succ k ih=>rw[turnN,turnV_size,ih]

theorem Box.put {W:World} {b:Nat} {n:Int} {s:ByteArray} (h:Box W b n s) (n':Int) (s':ByteArray):Box ((W.setCell ⟨b,0,none⟩ (.int .i64 n')).setCell ⟨b,1,none⟩ (.string s')) b n' s':=by
 unfold Box at*
 unfold World.setCell
 simp[Array.getElem?_modify,h]

theorem Box.far {W:World} {b c:Nat} {n:Int} {s:ByteArray} (h:Box W b n s) (hc:b≠c) (u v:Value):Box ((W.setCell ⟨c,0,none⟩ u).setCell ⟨c,1,none⟩ v) b n s:=by
 unfold Box at*
 rw[Below.heap_setCell _ _ _ _ hc,Below.heap_setCell _ _ _ _ hc]
 exact h

theorem rest4 (n:Int):(Int.tmod n 4<0→Int.tmod n 4+4=((n%4).toNat:Int))∧(¬Int.tmod n 4<0→Int.tmod n 4=((n%4).toNat:Int))∧ -3≤Int.tmod n 4∧Int.tmod n 4≤3:=by
 rcases Int.le_total 0 n with h|h
 ·rw[Int.tmod_eq_emod_of_nonneg h]
  omega
 ·obtain⟨m,rfl⟩:∃m,n= -m:=⟨-n,by omega⟩
  rw[Int.neg_tmod,Int.tmod_eq_emod_of_nonneg (by omega)]
  omega

set_option maxRecDepth 100000 in
theorem specTurnBy_val (n:Int) (s:ByteArray) (m:Int) (w:World) (hm:(Lit.int .i64 m).wf=true) (hs:s.size≤1048576):
 Calls Tryz.prog 30 #[sqV n s,.int .i64 m] w fun e w'=>e= .returned (sqV n (turnN n s (m%4).toNat))∧Below w.heap.size w w':=by
 have HT:Hid (∀k w,_):=fun k w=>specTurn_val n (turnN n s k) w (by rw[turnN_size];exact hs)
 obtain⟨r1,r2,r3,r4⟩:=rest4 m
 have hr:(m%4).toNat≤3:=by omega
 generalize hr0:(m%4).toNat=r at*
 generalize ht:Int.tmod m 4=t at*
 unfold sqV at*
 obtain⟨m0,m1,N⟩:=box2 w n s
 clear hs hr0
 by_cases htn:t<0
 ·have hrr:=r1 htn
  clear r1 r2
  go_enter Tryz.func30,Tryz.ntmps30
  go_wp2
  generalize (w.alloc (.cells #[.int .i64 n,.string s] 39)).alloc (.cells #[.int .i64 0,.string ⟨#[]⟩] 39)=W at*
  go_loopw [6] (fun i wr=>∃k:Nat,k≤r∧i= .int .i64 k∧Box wr w.heap.size n (turnN n s k)∧Box wr (w.heap.size+1) 0 ⟨#[]⟩∧Hid (Below w.heap.size w wr)) (fun i _=>r-(intOf i).toNat)
  case atStart=>exact⟨0,by omega,rfl,m0,m1,N⟩
  case round=>
   obtain⟨k,hk,rfl,m2,m3,N2⟩:=hrel
   by_cases hlt:k<r
   ·have HK:Hid (∀w,_):=fun w=>HT.out k w
    have HE:Hid (turnN n s (k+1)=turnV n (turnN n s k)):=rfl
    generalize turnV n (turnN n s k)=q1 at*
    generalize turnN n s k=q0 at*
    have c0:=m2.n
    have c1:=m2.s
    go_wp2_with fail
    refine(HK.out _).mono ?_
    rintro e w3 ⟨rfl,L3⟩
    have m4:=m2.on L3
    have m5:=m3.on L3
    have N3:=Pk.join_below N2.out L3
    have d0:=m4.n
    have d1:=m4.s
    have f0:=m4.f 0
    have f1:=m4.f 1
    go_wp2
    go_roundw
    case rel=>exact⟨k+1,by omega,by go_num,by rw[HE.out];exact m4.put n q1,m5.far (by omega) _ _,(N3.setCell (Nat.le_refl _) _).setCell (Nat.le_refl _) _⟩
    case measure=>simp[intOf];omega
   ·obtain rfl:k=r:=by omega
    have c0:=m2.n
    have c1:=m2.s
    have d0:=m3.n
    have d1:=m3.s
    have f0:=m3.f 0
    have f1:=m3.f 1
    have N3:=N2.out
    go_wp2
    refine bodyPost_ret (v:= .agg #[.int .i64 n,.string (turnN n s k)]) (by simp[results,Tryz.results30,go_sem,d0,d1]) rfl ?_
    exact⟨rfl,(N3.setCell (Nat.le_succ _) _).setCell (Nat.le_succ _) _⟩
 ·have hrr:=r2 htn
  clear r1 r2
  go_enter Tryz.func30,Tryz.ntmps30
  go_wp2
  generalize (w.alloc (.cells #[.int .i64 n,.string s] 39)).alloc (.cells #[.int .i64 0,.string ⟨#[]⟩] 39)=W at*
  go_loopw [6] (fun i wr=>∃k:Nat,k≤r∧i= .int .i64 k∧Box wr w.heap.size n (turnN n s k)∧Box wr (w.heap.size+1) 0 ⟨#[]⟩∧Hid (Below w.heap.size w wr)) (fun i _=>r-(intOf i).toNat)
  case atStart=>exact⟨0,by omega,rfl,m0,m1,N⟩
  case round=>
   obtain⟨k,hk,rfl,m2,m3,N2⟩:=hrel
   by_cases hlt:k<r
   ·have HK:Hid (∀w,_):=fun w=>HT.out k w
    have HE:Hid (turnN n s (k+1)=turnV n (turnN n s k)):=rfl
    generalize turnV n (turnN n s k)=q1 at*
    generalize turnN n s k=q0 at*
    have c0:=m2.n
    have c1:=m2.s
    go_wp2_with fail
    refine(HK.out _).mono ?_
    rintro e w3 ⟨rfl,L3⟩
    have m4:=m2.on L3
    have m5:=m3.on L3
    have N3:=Pk.join_below N2.out L3
    have d0:=m4.n
    have d1:=m4.s
    have f0:=m4.f 0
    have f1:=m4.f 1
    go_wp2
    go_roundw
    case rel=>exact⟨k+1,by omega,by go_num,by rw[HE.out];exact m4.put n q1,m5.far (by omega) _ _,(N3.setCell (Nat.le_refl _) _).setCell (Nat.le_refl _) _⟩
    case measure=>simp[intOf];omega
   ·obtain rfl:k=r:=by omega
    have c0:=m2.n
    have c1:=m2.s
    have d0:=m3.n
    have d1:=m3.s
    have f0:=m3.f 0
    have f1:=m3.f 1
    have N3:=N2.out
    go_wp2
    refine bodyPost_ret (v:= .agg #[.int .i64 n,.string (turnN n s k)]) (by simp[results,Tryz.results30,go_sem,d0,d1]) rfl ?_
    exact⟨rfl,(N3.setCell (Nat.le_succ _) _).setCell (Nat.le_succ _) _⟩

set_option maxRecDepth 100000 in
theorem implTurnBy_val (n:Int) (s:ByteArray) (m:Int) (w:World) (hm:(Lit.int .i64 m).wf=true) (hs:s.size≤1048576):
 Calls Tryz.prog 43 #[sqV n s,.int .i64 m] w fun e w'=>e= .returned (sqV n (turnN n s (m%4).toNat))∧Below w.heap.size w w':=by
 have HT:Hid (∀k w,_):=fun k w=>implTurn_val n (turnN n s k) w (by rw[turnN_size];exact hs)
 have HM:Hid (∀w,_):=fun w=>Num.implMod_yes m 4 w (by omega) (by omega)
 have HC:Hid (∀w,_):=fun w=>copied_val n s w (by omega)
 have hr:(m%4).toNat≤3:=by omega
 have e4:m%4=(((m%4).toNat:Nat):Int):=by omega
 generalize (m%4).toNat=r at*
 rw[e4]at HM
 unfold sqV at*
 obtain⟨m0,m1,N⟩:=box2 w n s
 clear hs e4
 go_enter Tryz.func43,Tryz.ntmps43
 go_wp2_with fail
 generalize (w.alloc (.cells #[.int .i64 n,.string s] 39)).alloc (.cells #[.int .i64 0,.string ⟨#[]⟩] 39)=W at*
 refine(HC.out _).mono ?_
 rintro e w1 ⟨rfl,L1⟩
 replace m0:=m0.on L1
 replace m1:=m1.on L1
 replace N:=Pk.join_below N L1
 have d0:=m0.n
 have d1:=m0.s
 have f0:=m0.f 0
 have f1:=m0.f 1
 replace m0:=m0.put n s
 replace m1:=m1.far (show w.heap.size+1≠w.heap.size by omega) (.int .i64 n) (.string s)
 replace N:=(N.setCell (p:=⟨w.heap.size,0,none⟩) (Nat.le_refl _) (.int .i64 n)).setCell (p:=⟨w.heap.size,1,none⟩) (Nat.le_refl _) (.string s)
 go_wp2_with fail
 generalize (w1.setCell ⟨w.heap.size,0,none⟩ (.int .i64 n)).setCell ⟨w.heap.size,1,none⟩ (.string s)=w2 at*
 refine(HM.out _).mono ?_
 rintro e w3 ⟨rfl,rfl⟩
 clear d0 d1 f0 f1 L1
 go_wp2
 go_loopw [9] (fun i wr=>∃k:Nat,k≤r∧i= .int .i64 k∧Box wr w.heap.size n (turnN n s k)∧Box wr (w.heap.size+1) 0 ⟨#[]⟩∧Hid (Below w.heap.size w wr)) (fun i _=>r-(intOf i).toNat)
 case atStart=>exact⟨0,by omega,rfl,m0,m1,N⟩
 case round=>
  obtain⟨k,hk,rfl,m2,m3,N2⟩:=hrel
  by_cases hlt:k<r
  ·have HK:Hid (∀w,_):=fun w=>HT.out k w
   have HE:Hid (turnN n s (k+1)=turnV n (turnN n s k)):=rfl
   generalize turnV n (turnN n s k)=q1 at*
   generalize turnN n s k=q0 at*
   have c0:=m2.n
   have c1:=m2.s
   go_wp2_with fail
   refine(HK.out _).mono ?_
   rintro e w3 ⟨rfl,L3⟩
   have m4:=m2.on L3
   have m5:=m3.on L3
   have N3:=Pk.join_below N2.out L3
   have d0:=m4.n
   have d1:=m4.s
   have f0:=m4.f 0
   have f1:=m4.f 1
   go_wp2
   go_roundw
   case rel=>exact⟨k+1,by omega,by go_num,by rw[HE.out];exact m4.put n q1,m5.far (by omega) _ _,(N3.setCell (Nat.le_refl _) _).setCell (Nat.le_refl _) _⟩
   case measure=>simp[intOf];omega
  ·obtain rfl:k=r:=by omega
   have c0:=m2.n
   have c1:=m2.s
   have d0:=m3.n
   have d1:=m3.s
   have f0:=m3.f 0
   have f1:=m3.f 1
   have N3:=N2.out
   go_wp2
   refine bodyPost_ret (v:= .agg #[.int .i64 n,.string (turnN n s k)]) (by simp[results,Tryz.results43,go_sem,d0,d1]) rfl ?_
   exact⟨rfl,(N3.setCell (Nat.le_succ _) _).setCell (Nat.le_succ _) _⟩

end Sq
end Go.Proofs.YtdcpjicgehdmfaaGreatDoor

/- The heart of a square: its mathematics, the model's test of a field, and the signs along the way. -/
namespace Go.Proofs.YtdcpjicgehdmfaaGreatDoor
namespace Sq
open Go.ChangeShapes Go.WideShapes Go.ChangeAt Go.RowKit
set_option linter.unusedSimpArgs false
set_option linter.unusedVariables false

def alongF (h:Nat) (s:ByteArray) (k:Nat):UInt8:=tb s (idx h (wx k) (wy k))

theorem info_u8':(Tryz.prog.info? 5).map (fun i=>(i.zero,i.size,i.bytes))=some (some (.int .u8 0),1,1):=by kernel_rfl

def aF (h:Nat) (s:ByteArray) (k j:Nat):Value:=if j<k then .int .u8 ((alongF h s j).toNat:Int)else .int .u8 0

theorem aF_step (h:Nat) (s:ByteArray) (k j:Nat):aF h s (k+1) j=if j=k then .int .u8 ((tb s (idx h (wx k) (wy k))).toNat:Int)else aF h s k j:=by
 unfold aF
 by_cases e:j=k
 ·rw[if_pos e,if_pos (by omega),e];rfl
 ·rw[if_neg e]
  by_cases hl:j<k
  ·rw[if_pos hl,if_pos (by omega)]
  ·rw[if_neg hl,if_neg (by omega)]

set_option maxRecDepth 100000 in
theorem along_val (h:Nat) (s:ByteArray) (c:Nat) (w:World) (h1:h≤30) (hz:s.size=(2*h+1)*(2*h+1)) (hc:1≤c) (hcs:c≤s.size):
 Calls Tryz.prog 45 #[sqV (2*(h:Int)+1) s,.int .i64 c] w fun e w'=>e= .returned (.string (strT c (alongF h s)))∧Below w.heap.size w w':=by
 have hN:(2*h+1)*(2*h+1)≤61*61:=Nat.mul_le_mul (by omega) (by omega)
 have HW:Hid (∀w,_):=fun w=>wayOf_val c w hc (by omega)
 have hmk:=make_run 58 5 _ 1 c Tryz.underlying58 info_u8' rfl (by omega) (by omega)
 have HP2:Hid (∀(k:Nat) (w:World),k<c→_):=fun k w hk=>index_val h s (E (wx k)) (E (wy k)) (wx k) (wy k) w (E_int (by have:=way_bd k (by omega);omega) (by have:=way_bd k (by omega);omega)) (E_int (by have:=way_bd k (by omega);omega) (by have:=way_bd k (by omega);omega)) h1 (dist_in (way_dist k h (by omega))).1 (dist_in (way_dist k h (by omega))).2.1 (dist_in (way_dist k h (by omega))).2.2.1 (dist_in (way_dist k h (by omega))).2.2.2
 have HI2:Hid (∀k,k<c→idx h (wx k) (wy k)<s.size):=fun k hk=>by
  obtain⟨a1,a2,a3,a4⟩:=dist_in (way_dist k h (by omega))
  rw[hz];exact idx_lt a1 a2 a3 a4
 have HST:Hid (∀k j,j<c→aF h s (k+1) j=if j=k then .int .u8 ((tb s (idx h (wx k) (wy k))).toNat:Int)else aF h s k j):=fun k j hj=>aF_step h s k j
 have HEN:Hid (∀j,j<c→aF h s c j= .int .u8 ((alongF h s j).toNat:Int)):=fun j hj=>by show _=_;unfold aF;rw[if_pos hj]
 have hc3:c≤3721:=by omega
 clear hz hN h1 hcs
 generalize ht:strT c (alongF h s)=T at*
 unfold sqV at*
 generalize 2*(h:Int)+1=n at*
 have m0:Box (w.alloc (.cells #[.int .i64 n,.string s] 39)) w.heap.size n s:=Pk.heap_new w _
 have N:=Pk.new_below w (.cells #[.int .i64 n,.string s] 39)
 go_enter Tryz.func45,Tryz.ntmps45
 have K:=Pk.new_below (w.alloc (.cells #[.int .i64 n,.string s] 39)) (.cells (tab c (fun _=> .int .u8 0)) 5)
 have G:=Pk.heap_new (w.alloc (.cells #[.int .i64 n,.string s] 39)) (.cells (tab c (fun _=> .int .u8 0)) 5)
 have m2:=m0.on K
 have N2:=Pk.join_below N K
 have e1:(w.alloc (.cells #[.int .i64 n,.string s] 39)).heap.size=w.heap.size+1:=by simp
 rw[e1]at G
 go_wp2_with fail
 generalize (w.alloc (.cells #[.int .i64 n,.string s] 39)).alloc (.cells (tab c (fun _=> .int .u8 0)) 5)=w2 at*
 refine(HW.out _).mono ?_
 rintro e w3 ⟨rfl,m,L3⟩
 have hg2:w.heap.size+1<w2.heap.size:=Pk.lt_of G
 replace m2:=m2.on L3
 have G3:=Pk.kept L3 (Pk.lt_of G) G
 have N3:=Pk.join_below N2 L3
 have R0:Run w.heap.size w w3 w3 (w.heap.size+1) c (aF h s 0):=Run.start N3 (Pk.lt_of G3) (by omega) ((Cl.of_tab G3).congr (fun j _=>by unfold aF;rw[if_neg (by omega)]))
 clear m0 N K N2 L3 G G3 e1
 generalize hg:w.heap.size+1=g at*
 generalize hp:w2.heap.size=p at*
 have hpg:p≠g:=by omega
 have hbg:w.heap.size≠g:=by omega
 go_wp2
 go_loopw [13] (fun i wr=>∃k:Nat,k≤c∧i= .int .i64 k∧Run w.heap.size w w3 wr g c (aF h s k)) (fun i _=>c-(intOf i).toNat)
 case atStart=>exact⟨0,by omega,rfl,R0⟩
 case round=>
  obtain⟨k,hk,rfl,R⟩:=hrel
  by_cases hlt:k<c
  ·have M:Box wr w.heap.size n s:=R.keep m2 hbg
   have hcl:=row_at (R.keep m hpg) k hlt
   unfold plV at hcl
   have J2:=HI2.out k hlt
   have X2:Hid (∀w,_):=fun w=>HP2.out k w hlt
   have XS:Hid (_):=HST.out k
   have X4:=getD_at s _ J2
   rw[show s.data.toList.getD (idx h (wx k) (wy k)) 0=tb s (idx h (wx k) (wy k))from rfl]at X4
   rw[X4]at XS
   clear X4
   generalize E (wx k)=a at*
   generalize E (wy k)=b at*
   generalize idx h (wx k) (wy k)=i2 at*
   have hk1:(0:Int)≤(i2:Int):=by omega
   have hk2:(i2:Int)<(s.size:Int):=by omega
   have hk3:(0:Int)≤(k:Int):=by omega
   have hk4:(k:Int)<(c:Int):=by omega
   have z1:¬g=w.heap.size:=fun h=>hbg h.symm
   have z2:¬w.heap.size=g:=hbg
   have c0:=M.n
   have c1:=M.s
   have r0:=(R.row k hlt).1
   have r1:=(R.row k hlt).2
   go_wp2
   go_region_held3 (fun w'=>w'.cell? ⟨w.heap.size,0,none⟩=some (.int .i64 n)∧w'.cell? ⟨w.heap.size,1,none⟩=some (.string s)) (go_keep) (first
    |(go_at_call 69;refine(X2.out _).mono ?_;rintro e x2 ⟨rfl,L3⟩;replace R:=(by first|exact R.on L3|exact R.drew.on L3);have M:Box x2 w.heap.size n s:=R.keep m2 hbg;have c0:=M.n;have c1:=M.s;have r0:=(R.row k hlt).1;have r1:=(R.row k hlt).2))
   all_goals
    go_wp2
    go_roundw
    case rel=>exact⟨k+1,by omega,by go_num,by first|exact R.set k _ XS.out|exact R.drew.set k _ XS.out|exact(R.set k _ XS.out).drew⟩
    case measure=>simp[intOf];omega
  ·obtain rfl:k=c:=by omega
   have hcv:=R.row.text (cap:=k) HEN.out
   rw[ht]at hcv
   have LL:=R.below
   go_wp2
   go_ret
   exact⟨rfl,LL⟩

def mz (x y:Int) (k:Nat):Int:=if k=0 then 0 else if k=1 then max 0 x else if k=2 then max (max 0 x) (-x)else if k=3 then max (max (max 0 x) (-x)) y else max (max (max (max 0 x) (-x)) y) (-y)

def lz (x y:Int) (k:Nat):Int:=if k=0 then x else if k=1 then-x else if k=2 then y else-y

theorem mz_step (x y:Int) (k:Nat) (hk:k<4):mz x y (k+1)=max (mz x y k) (lz x y k):=by
 obtain rfl|rfl|rfl|rfl:k=0∨k=1∨k=2∨k=3:=by omega
 all_goals rfl

theorem mz_end (x y:Int):mz x y 4=(dist x y:Int):=by
 show max (max (max (max 0 x) (-x)) y) (-y)=((max x.natAbs y.natAbs:Nat):Int)
 omega

theorem lz_bd {x y:Int} (h1: -30≤x) (h2:x≤30) (h3: -30≤y) (h4:y≤30) (k:Nat): -30≤lz x y k∧lz x y k≤30:=by
 unfold lz
 by_cases e:k=0
 ·rw[if_pos e];omega
 ·rw[if_neg e]
  by_cases e:k=1
  ·rw[if_pos e];omega
  ·rw[if_neg e]
   by_cases e:k=2
   ·rw[if_pos e];omega
   ·rw[if_neg e];omega

theorem lz_cell {w:World} {x y:Int} {t:TypeId} (k:Nat) (hk:k<4):(w.alloc (.cells #[.int .i64 x,.int .i64 (-x),.int .i64 y,.int .i64 (-y)] t)).cell? ⟨w.heap.size,k,none⟩=some (.int .i64 (lz x y k)):=by
 rw[Pk.cell_at (Pk.heap_new w _) k]
 obtain rfl|rfl|rfl|rfl:k=0∨k=1∨k=2∨k=3:=by omega
 all_goals rfl

theorem dist_val (x y:Int) (w:World) (h1: -30≤x) (h2:x≤30) (h3: -30≤y) (h4:y≤30):
 Calls Tryz.prog 88 #[.int .i64 x,.int .i64 y] w fun e w'=>e= .returned (.int .i64 (dist x y))∧Below w.heap.size w w':=by
 have HC:Hid (∀k,k<4→_):=fun k hk=>lz_cell (w:=w) (x:=x) (y:=y) (t:=3) k hk
 have HB:Hid (∀k,_):=fun k=>lz_bd h1 h2 h3 h4 k
 have HM:Hid (_):=mz_end x y
 generalize (dist x y:Int)=D at*
 have N:=Pk.new_below w (.cells #[.int .i64 x,.int .i64 (-x),.int .i64 y,.int .i64 (-y)] 3)
 go_enter Tryz.func88,Tryz.ntmps88
 go_wp2
 generalize w.alloc (.cells #[.int .i64 x,.int .i64 (-x),.int .i64 y,.int .i64 (-y)] 3)=W at*
 go_loop [5,7] (fun d i=>∃(k:Nat) (e:Int),k≤4∧ -30≤e∧e≤30∧i= .int .i64 k∧d= .int .i64 e∧Hid (e=mz x y k)) (fun _ i=>4-(intOf i).toNat)
 case atStart=>exact⟨0,0,by omega,by omega,by omega,rfl,rfl,rfl⟩
 case round=>
  obtain⟨k,e,hk,he1,he2,rfl,rfl,H⟩:=hrel
  by_cases hk3:k<4
  ·have hc:=HC.out k hk3
   obtain⟨l1,l2⟩:=HB.out k
   have HX:Hid (_):=mz_step x y k hk3
   rw[←H.out]at HX
   generalize lz x y k=q at*
   by_cases hgt:e<q
   ·go_wp2
    go_round
    case rel=>exact⟨k+1,q,by omega,l1,l2,by go_num,rfl,by show _=_;rw[HX.out];omega⟩
    case measure=>simp[intOf];omega
   ·go_wp2
    go_round
    case rel=>exact⟨k+1,e,by omega,he1,he2,by go_num,rfl,by show _=_;rw[HX.out];omega⟩
    case measure=>simp[intOf];omega
  ·obtain rfl:k=4:=by omega
   have hE:=H.out.trans HM.out
   subst hE
   go_wp2
   go_ret
   exact⟨rfl,N⟩

def heartI (x y:Int):Int:=if dist x y=1∨((x=2∨x= -2)∧(y=2∨y= -2)∧¬(x= -2∧y= -2))then 0 else 1

theorem heart_at (x y:Int) (d:Nat) (q:Int) (w:World) (hd:dist x y=d) (hq:heartI x y=q) (h1: -2≤x) (h2:x≤2) (h3: -2≤y) (h4:y≤2)
 (H:(∀w,Calls Tryz.prog 88 #[.int .i64 x,.int .i64 y] w fun e w'=>e= .returned (.int .i64 d)∧Below w.heap.size w w')→Calls Tryz.prog 54 #[.int .i64 x,.int .i64 y] w fun e w'=>e= .returned (.int .i64 q)∧Below w.heap.size w w'):
 Calls Tryz.prog 54 #[.int .i64 x,.int .i64 y] w fun e w'=>e= .returned (.int .i64 (heartI x y))∧Below w.heap.size w w':=by
 rw[hq]
 apply H
 intro w
 have:=dist_val x y w (by omega) (by omega) (by omega) (by omega)
 rw[hd]at this
 exact this

theorem heart_val (x y:Int) (w:World) (h1: -2≤x) (h2:x≤2) (h3: -2≤y) (h4:y≤2):
 Calls Tryz.prog 54 #[.int .i64 x,.int .i64 y] w fun e w'=>e= .returned (.int .i64 (heartI x y))∧Below w.heap.size w w':=by
 obtain rfl|rfl|rfl|rfl|rfl:x= -2∨x= -1∨x=0∨x=1∨x=2:=by omega
 ·obtain rfl|rfl|rfl|rfl|rfl:y= -2∨y= -1∨y=0∨y=1∨y=2:=by omega
  ·refine heart_at (-2) (-2) 2 1 w (by decide) (by decide) h1 h2 h3 h4 (fun HD0=> ?_)
   have HD:Hid _:=HD0
   clear HD0 h1 h2 h3 h4
   go_enter Tryz.func54,Tryz.ntmps54
   go_wp2_with fail
   refine(HD.out _).mono ?_
   rintro e w1 ⟨rfl,L⟩
   go_wp2
   go_ret
   exact⟨rfl,L⟩
  ·refine heart_at (-2) (-1) 2 1 w (by decide) (by decide) h1 h2 h3 h4 (fun HD0=> ?_)
   have HD:Hid _:=HD0
   clear HD0 h1 h2 h3 h4
   go_enter Tryz.func54,Tryz.ntmps54
   go_wp2_with fail
   refine(HD.out _).mono ?_
   rintro e w1 ⟨rfl,L⟩
   go_wp2
   go_ret
   exact⟨rfl,L⟩
  ·refine heart_at (-2) 0 2 1 w (by decide) (by decide) h1 h2 h3 h4 (fun HD0=> ?_)
   have HD:Hid _:=HD0
   clear HD0 h1 h2 h3 h4
   go_enter Tryz.func54,Tryz.ntmps54
   go_wp2_with fail
   refine(HD.out _).mono ?_
   rintro e w1 ⟨rfl,L⟩
   go_wp2
   go_ret
   exact⟨rfl,L⟩
  ·refine heart_at (-2) 1 2 1 w (by decide) (by decide) h1 h2 h3 h4 (fun HD0=> ?_)
   have HD:Hid _:=HD0
   clear HD0 h1 h2 h3 h4
   go_enter Tryz.func54,Tryz.ntmps54
   go_wp2_with fail
   refine(HD.out _).mono ?_
   rintro e w1 ⟨rfl,L⟩
   go_wp2
   go_ret
   exact⟨rfl,L⟩
  ·refine heart_at (-2) 2 2 0 w (by decide) (by decide) h1 h2 h3 h4 (fun HD0=> ?_)
   have HD:Hid _:=HD0
   clear HD0 h1 h2 h3 h4
   go_enter Tryz.func54,Tryz.ntmps54
   go_wp2_with fail
   refine(HD.out _).mono ?_
   rintro e w1 ⟨rfl,L⟩
   go_wp2
   go_ret
   exact⟨rfl,L⟩
 ·obtain rfl|rfl|rfl|rfl|rfl:y= -2∨y= -1∨y=0∨y=1∨y=2:=by omega
  ·refine heart_at (-1) (-2) 2 1 w (by decide) (by decide) h1 h2 h3 h4 (fun HD0=> ?_)
   have HD:Hid _:=HD0
   clear HD0 h1 h2 h3 h4
   go_enter Tryz.func54,Tryz.ntmps54
   go_wp2_with fail
   refine(HD.out _).mono ?_
   rintro e w1 ⟨rfl,L⟩
   go_wp2
   go_ret
   exact⟨rfl,L⟩
  ·refine heart_at (-1) (-1) 1 0 w (by decide) (by decide) h1 h2 h3 h4 (fun HD0=> ?_)
   have HD:Hid _:=HD0
   clear HD0 h1 h2 h3 h4
   go_enter Tryz.func54,Tryz.ntmps54
   go_wp2_with fail
   refine(HD.out _).mono ?_
   rintro e w1 ⟨rfl,L⟩
   go_wp2
   go_ret
   exact⟨rfl,L⟩
  ·refine heart_at (-1) 0 1 0 w (by decide) (by decide) h1 h2 h3 h4 (fun HD0=> ?_)
   have HD:Hid _:=HD0
   clear HD0 h1 h2 h3 h4
   go_enter Tryz.func54,Tryz.ntmps54
   go_wp2_with fail
   refine(HD.out _).mono ?_
   rintro e w1 ⟨rfl,L⟩
   go_wp2
   go_ret
   exact⟨rfl,L⟩
  ·refine heart_at (-1) 1 1 0 w (by decide) (by decide) h1 h2 h3 h4 (fun HD0=> ?_)
   have HD:Hid _:=HD0
   clear HD0 h1 h2 h3 h4
   go_enter Tryz.func54,Tryz.ntmps54
   go_wp2_with fail
   refine(HD.out _).mono ?_
   rintro e w1 ⟨rfl,L⟩
   go_wp2
   go_ret
   exact⟨rfl,L⟩
  ·refine heart_at (-1) 2 2 1 w (by decide) (by decide) h1 h2 h3 h4 (fun HD0=> ?_)
   have HD:Hid _:=HD0
   clear HD0 h1 h2 h3 h4
   go_enter Tryz.func54,Tryz.ntmps54
   go_wp2_with fail
   refine(HD.out _).mono ?_
   rintro e w1 ⟨rfl,L⟩
   go_wp2
   go_ret
   exact⟨rfl,L⟩
 ·obtain rfl|rfl|rfl|rfl|rfl:y= -2∨y= -1∨y=0∨y=1∨y=2:=by omega
  ·refine heart_at 0 (-2) 2 1 w (by decide) (by decide) h1 h2 h3 h4 (fun HD0=> ?_)
   have HD:Hid _:=HD0
   clear HD0 h1 h2 h3 h4
   go_enter Tryz.func54,Tryz.ntmps54
   go_wp2_with fail
   refine(HD.out _).mono ?_
   rintro e w1 ⟨rfl,L⟩
   go_wp2
   go_ret
   exact⟨rfl,L⟩
  ·refine heart_at 0 (-1) 1 0 w (by decide) (by decide) h1 h2 h3 h4 (fun HD0=> ?_)
   have HD:Hid _:=HD0
   clear HD0 h1 h2 h3 h4
   go_enter Tryz.func54,Tryz.ntmps54
   go_wp2_with fail
   refine(HD.out _).mono ?_
   rintro e w1 ⟨rfl,L⟩
   go_wp2
   go_ret
   exact⟨rfl,L⟩
  ·refine heart_at 0 0 0 1 w (by decide) (by decide) h1 h2 h3 h4 (fun HD0=> ?_)
   have HD:Hid _:=HD0
   clear HD0 h1 h2 h3 h4
   go_enter Tryz.func54,Tryz.ntmps54
   go_wp2_with fail
   refine(HD.out _).mono ?_
   rintro e w1 ⟨rfl,L⟩
   go_wp2
   go_ret
   exact⟨rfl,L⟩
  ·refine heart_at 0 1 1 0 w (by decide) (by decide) h1 h2 h3 h4 (fun HD0=> ?_)
   have HD:Hid _:=HD0
   clear HD0 h1 h2 h3 h4
   go_enter Tryz.func54,Tryz.ntmps54
   go_wp2_with fail
   refine(HD.out _).mono ?_
   rintro e w1 ⟨rfl,L⟩
   go_wp2
   go_ret
   exact⟨rfl,L⟩
  ·refine heart_at 0 2 2 1 w (by decide) (by decide) h1 h2 h3 h4 (fun HD0=> ?_)
   have HD:Hid _:=HD0
   clear HD0 h1 h2 h3 h4
   go_enter Tryz.func54,Tryz.ntmps54
   go_wp2_with fail
   refine(HD.out _).mono ?_
   rintro e w1 ⟨rfl,L⟩
   go_wp2
   go_ret
   exact⟨rfl,L⟩
 ·obtain rfl|rfl|rfl|rfl|rfl:y= -2∨y= -1∨y=0∨y=1∨y=2:=by omega
  ·refine heart_at 1 (-2) 2 1 w (by decide) (by decide) h1 h2 h3 h4 (fun HD0=> ?_)
   have HD:Hid _:=HD0
   clear HD0 h1 h2 h3 h4
   go_enter Tryz.func54,Tryz.ntmps54
   go_wp2_with fail
   refine(HD.out _).mono ?_
   rintro e w1 ⟨rfl,L⟩
   go_wp2
   go_ret
   exact⟨rfl,L⟩
  ·refine heart_at 1 (-1) 1 0 w (by decide) (by decide) h1 h2 h3 h4 (fun HD0=> ?_)
   have HD:Hid _:=HD0
   clear HD0 h1 h2 h3 h4
   go_enter Tryz.func54,Tryz.ntmps54
   go_wp2_with fail
   refine(HD.out _).mono ?_
   rintro e w1 ⟨rfl,L⟩
   go_wp2
   go_ret
   exact⟨rfl,L⟩
  ·refine heart_at 1 0 1 0 w (by decide) (by decide) h1 h2 h3 h4 (fun HD0=> ?_)
   have HD:Hid _:=HD0
   clear HD0 h1 h2 h3 h4
   go_enter Tryz.func54,Tryz.ntmps54
   go_wp2_with fail
   refine(HD.out _).mono ?_
   rintro e w1 ⟨rfl,L⟩
   go_wp2
   go_ret
   exact⟨rfl,L⟩
  ·refine heart_at 1 1 1 0 w (by decide) (by decide) h1 h2 h3 h4 (fun HD0=> ?_)
   have HD:Hid _:=HD0
   clear HD0 h1 h2 h3 h4
   go_enter Tryz.func54,Tryz.ntmps54
   go_wp2_with fail
   refine(HD.out _).mono ?_
   rintro e w1 ⟨rfl,L⟩
   go_wp2
   go_ret
   exact⟨rfl,L⟩
  ·refine heart_at 1 2 2 1 w (by decide) (by decide) h1 h2 h3 h4 (fun HD0=> ?_)
   have HD:Hid _:=HD0
   clear HD0 h1 h2 h3 h4
   go_enter Tryz.func54,Tryz.ntmps54
   go_wp2_with fail
   refine(HD.out _).mono ?_
   rintro e w1 ⟨rfl,L⟩
   go_wp2
   go_ret
   exact⟨rfl,L⟩
 ·obtain rfl|rfl|rfl|rfl|rfl:y= -2∨y= -1∨y=0∨y=1∨y=2:=by omega
  ·refine heart_at 2 (-2) 2 0 w (by decide) (by decide) h1 h2 h3 h4 (fun HD0=> ?_)
   have HD:Hid _:=HD0
   clear HD0 h1 h2 h3 h4
   go_enter Tryz.func54,Tryz.ntmps54
   go_wp2_with fail
   refine(HD.out _).mono ?_
   rintro e w1 ⟨rfl,L⟩
   go_wp2
   go_ret
   exact⟨rfl,L⟩
  ·refine heart_at 2 (-1) 2 1 w (by decide) (by decide) h1 h2 h3 h4 (fun HD0=> ?_)
   have HD:Hid _:=HD0
   clear HD0 h1 h2 h3 h4
   go_enter Tryz.func54,Tryz.ntmps54
   go_wp2_with fail
   refine(HD.out _).mono ?_
   rintro e w1 ⟨rfl,L⟩
   go_wp2
   go_ret
   exact⟨rfl,L⟩
  ·refine heart_at 2 0 2 1 w (by decide) (by decide) h1 h2 h3 h4 (fun HD0=> ?_)
   have HD:Hid _:=HD0
   clear HD0 h1 h2 h3 h4
   go_enter Tryz.func54,Tryz.ntmps54
   go_wp2_with fail
   refine(HD.out _).mono ?_
   rintro e w1 ⟨rfl,L⟩
   go_wp2
   go_ret
   exact⟨rfl,L⟩
  ·refine heart_at 2 1 2 1 w (by decide) (by decide) h1 h2 h3 h4 (fun HD0=> ?_)
   have HD:Hid _:=HD0
   clear HD0 h1 h2 h3 h4
   go_enter Tryz.func54,Tryz.ntmps54
   go_wp2_with fail
   refine(HD.out _).mono ?_
   rintro e w1 ⟨rfl,L⟩
   go_wp2
   go_ret
   exact⟨rfl,L⟩
  ·refine heart_at 2 2 2 0 w (by decide) (by decide) h1 h2 h3 h4 (fun HD0=> ?_)
   have HD:Hid _:=HD0
   clear HD0 h1 h2 h3 h4
   go_enter Tryz.func54,Tryz.ntmps54
   go_wp2_with fail
   refine(HD.out _).mono ?_
   rintro e w1 ⟨rfl,L⟩
   go_wp2
   go_ret
   exact⟨rfl,L⟩

end Sq
end Go.Proofs.YtdcpjicgehdmfaaGreatDoor

/- Contracts of Heart, of the program and of its model. -/
namespace Go.Proofs.YtdcpjicgehdmfaaGreatDoor
namespace Sq
open Go.ChangeShapes Go.WideShapes Go.ChangeAt Go.RowKit
set_option linter.unusedSimpArgs false
set_option linter.unusedVariables false

def hsS:ByteArray:=⟨#[49,48,48,48,48,48,48,48,48,49,49,49,48,49,49,49,49,49,49,49,48,49,49,49,48]⟩

def hOk (h:Nat) (s:ByteArray) (k:Nat):Bool:=(List.range k).all fun j=>decide (alongF h s j=tb hsS j)

theorem hOk_step (h:Nat) (s:ByteArray) (k:Nat):hOk h s (k+1)=(hOk h s k&&decide (alongF h s k=tb hsS k)):=by
 unfold hOk
 rw[List.range_succ,List.all_append,List.all_cons,List.all_nil,Bool.and_true]

theorem heart_tab:∀k,k<25→heartI (wx k) (wy k)=((tb hsS k).toNat:Int)-48:=by decide

theorem hOk_text (h:Nat) (s:ByteArray):(strT 25 (alongF h s)=hsS)↔hOk h s 25=true:=by
 have e:hsS=strT 25 (tb hsS):=by rw[show(25:Nat)=hsS.size from rfl,strT_self]
 constructor
 ·intro k
  unfold hOk
  rw[List.all_eq_true]
  intro j hj
  have hj':=List.mem_range.1 hj
  rw[decide_eq_true_eq,←k,strT_at _ _ _ hj']
 ·intro k
  rw[e]
  apply strT_congr
  intro j hj
  unfold hOk at k
  exact of_decide_eq_true (List.all_eq_true.1 k j (List.mem_range.2 hj))

def hv (p:Nat→Bool):Nat→Nat→Int
 |0,_=> -1
 |f+1,m=>if p m=true then m else hv p f (m+1)

def hAt (h:Nat) (n:Int) (s:ByteArray) (m:Nat):Bool:=hOk h (turnN n s m) 25

def heartV (n:Int) (s:ByteArray):Int:=if okQ n s=true then hv (hAt (Int.tdiv n 2).toNat n s) 4 0 else-1

theorem heartV_ok {h:Nat} {s:ByteArray} (hok:okQ (2*(h:Int)+1) s=true):heartV (2*(h:Int)+1) s=hv (hAt h (2*(h:Int)+1) s) 4 0:=by
 unfold heartV
 rw[if_pos hok,half_is,Int.toNat_natCast]

theorem heartV_no {n:Int} {s:ByteArray} (hok:okQ n s=false):heartV n s= -1:=by
 unfold heartV
 rw[if_neg (by rw[hok];decide)]

theorem tb_at (s:ByteArray) (i:Nat) (h:i<s.size):tb s i=s[i]:=getD_at s i h

theorem ok_mk {h:Nat} {s:ByteArray} (h4:4≤h) (h1:h≤30) (hz:s.size=(2*h+1)*(2*h+1)) (hb:∀j,j<s.size→(tb s j).toNat=48∨(tb s j).toNat=49):okQ (2*(h:Int)+1) s=true:=by
 unfold okQ headOk
 rw[Bool.and_eq_true]
 constructor
 ·apply decide_eq_true
  refine⟨by omega,by omega,by omega,?_⟩
  rw[hz,Int.natCast_mul]
  have:((2*h+1:Nat):Int)=2*(h:Int)+1:=by omega
  rw[this]
 ·unfold signsFrom
  rw[List.drop_zero,List.all_eq_true]
  intro b hm
  obtain⟨i,hi,rfl⟩:=List.getElem_of_mem hm
  apply decide_eq_true
  have hi':i<s.size:=by rw[Array.length_toList]at hi;exact hi
  have:=hb i hi'
  rw[tb_at s i hi']at this
  exact this

theorem sign_tb {h:Nat} {s:ByteArray} (hz:s.size=(2*h+1)*(2*h+1)) (hg:signsFrom s 0=true) {x y:Int} (hx1: -(h:Int)≤x) (hx2:x≤h) (hy1: -(h:Int)≤y) (hy2:y≤h):(tb s (idx h x y)).toNat=48∨(tb s (idx h x y)).toNat=49:=by
 have hi:idx h x y<s.size:=by rw[hz];exact idx_lt hx1 hx2 hy1 hy2
 rw[tb_at s _ hi]
 exact sign_at hg _ hi

theorem ok_turn {n:Int} {s:ByteArray} (hok:okQ n s=true):okQ n (turnV n s)=true:=by
 obtain⟨h,h4,h1,rfl,hz,hg⟩:=ok_form hok
 rw[turnV_ok hok]
 refine ok_mk h4 h1 (by rw[turnS,strT_size]) ?_
 intro j hj
 rw[turnS,strT_size]at hj
 rw[turnS,strT_at _ _ _ hj]
 obtain⟨⟨a,b⟩,c,d⟩:=c_in hj
 exact sign_tb hz hg c d (by omega) (by omega)

theorem ok_turnN {n:Int} {s:ByteArray} (hok:okQ n s=true) (k:Nat):okQ n (turnN n s k)=true:=by
 induction k with
 |zero=>exact hok
 |succ k ih=>exact ok_turn ih

set_option maxRecDepth 100000 in
theorem implHeart_ok (h:Nat) (s:ByteArray) (w:World) (h4:4≤h) (h1:h≤30) (hok:okQ (2*(h:Int)+1) s=true) (hz:s.size=(2*h+1)*(2*h+1)):
 Calls Tryz.prog 42 #[sqV (2*(h:Int)+1) s] w fun e w'=>e= .returned (.int .i64 (hv (hAt h (2*(h:Int)+1) s) 4 0))∧Below w.heap.size w w':=by
 have hN:(2*h+1)*(2*h+1)≤61*61:=Nat.mul_le_mul (by omega) (by omega)
 have hN1:9*9≤(2*h+1)*(2*h+1):=Nat.mul_le_mul (by omega) (by omega)
 have HO:Hid (∀w,_):=fun w=>implOk_val (2*(h:Int)+1) s w (by unfold maxLen;omega)
 rw[hok]at HO
 have HT:Hid (∀k w,_):=fun k w=>implTurn_val (2*(h:Int)+1) (turnN (2*(h:Int)+1) s k) w (by rw[turnN_size];omega)
 have HL:Hid (∀k w,_):=fun k w=>along_val h (turnN (2*(h:Int)+1) s k) 25 w h1 (by rw[turnN_size];exact hz) (by omega) (by rw[turnN_size];omega)
 have HE:Hid (∀k,(strT 25 (alongF h (turnN (2*(h:Int)+1) s k))=hsS)↔hAt h (2*(h:Int)+1) s k=true):=fun k=>hOk_text h _
 unfold sqV at*
 clear hok hz hN hN1 h4 h1
 generalize 2*(h:Int)+1=n at*
 generalize hAt h n s=P at*
 generalize hV:hv P 4 0=V at*
 have m0:Box (w.alloc (.cells #[.int .i64 n,.string s] 39)) w.heap.size n s:=Pk.heap_new w _
 have N:=Pk.new_below w (.cells #[.int .i64 n,.string s] 39)
 go_enter Tryz.func42,Tryz.ntmps42
 go_wp2_with fail
 generalize w.alloc (.cells #[.int .i64 n,.string s] 39)=W at*
 refine(HO.out _).mono ?_
 rintro e w1 ⟨rfl,L1⟩
 replace m0:=m0.on L1
 replace N:=Pk.join_below N L1
 have HV:Hid (V=hv P 4 0):=hV.symm
 clear hV L1
 go_wp2
 go_loopw [7] (fun i wr=>∃k f:Nat,k+f=4∧i= .int .i64 k∧Box wr w.heap.size n (turnN n s k)∧Hid (Below w.heap.size w wr)∧Hid (V=hv P f k)) (fun i _=>4-(intOf i).toNat)
 case atStart=>exact⟨0,4,by omega,rfl,m0,N,HV⟩
 case round=>
  obtain⟨k,f,hkf,rfl,m2,N2,HF⟩:=hrel
  by_cases hlt:k<4
  ·obtain⟨f',rfl⟩:∃f',f=f'+1:=⟨f-1,by omega⟩
   have HK:Hid (∀w,_):=fun w=>HT.out k w
   have HA:Hid (∀w,_):=fun w=>HL.out k w
   have HQ:Hid (_):=HE.out k
   have HX:Hid (turnN n s (k+1)=turnV n (turnN n s k)):=rfl
   generalize strT 25 (alongF h (turnN n s k))=T at*
   generalize turnV n (turnN n s k)=q1 at*
   generalize turnN n s k=q0 at*
   have c0:=m2.n
   have c1:=m2.s
   go_wp2_with fail
   refine(HA.out _).mono ?_
   rintro e w3 ⟨rfl,L3⟩
   have m4:=m2.on L3
   have N3:=Pk.join_below N2.out L3
   have d0:=m4.n
   have d1:=m4.s
   by_cases hT:T=hsS
   ·subst hT
    have HY:Hid (V=k):=by show _=_;rw[HF.out,hv,if_pos (HQ.out.1 rfl)]
    unfold hsS
    go_wp2
    go_ret
    exact⟨by rw[HY.out];rfl,N3⟩
   ·have HY:Hid (V=hv P f' (k+1)):=by show _=_;rw[HF.out,hv,if_neg (fun h=>hT (HQ.out.2 h))]
    have hT2:(T.toList== [49,48,48,48,48,48,48,48,48,49,49,49,48,49,49,49,49,49,49,49,48,49,49,49,48])=false:=by
     rw[beq_eq_false_iff_ne]
     intro h
     apply hT
     rw[ByteArray.toList_eq]at h
     cases T with
     |mk a=>unfold hsS;congr 1;rw[←Array.toList_inj];exact h
    clear hT
    go_wp2_with fail
    refine(HK.out _).mono ?_
    rintro e w5 ⟨rfl,L5⟩
    have m6:=m4.on L5
    have N5:=Pk.join_below N3 L5
    have p0:=m6.n
    have p1:=m6.s
    have f0:=m6.f 0
    have f1:=m6.f 1
    go_wp2
    go_roundw
    case rel=>exact⟨k+1,f',by omega,by go_num,by rw[HX.out];exact m6.put n q1,(N5.setCell (Nat.le_refl _) _).setCell (Nat.le_refl _) _,HY⟩
    case measure=>simp[intOf];omega
  ·obtain rfl:k=4:=by omega
   obtain rfl:f=0:=by omega
   have HY:Hid (V= -1):=HF
   go_wp2
   go_ret
   exact⟨by rw[HY.out];rfl,N2.out⟩

theorem hOk_sign {h:Nat} {s:ByteArray} {k:Nat} (hk:k<25) (q:UInt8) (hq:alongF h s k=q):((q.toNat:Int)-48=heartI (wx k) (wy k))↔alongF h s k=tb hsS k:=by
 rw[heart_tab k hk,hq]
 constructor
 ·intro e
  apply UInt8.toNat_inj.1
  omega
 ·intro e
  rw[e]

set_option maxRecDepth 100000 in
theorem specHeart_ok (h:Nat) (s:ByteArray) (w:World) (h4:4≤h) (h1:h≤30) (hok:okQ (2*(h:Int)+1) s=true) (hz:s.size=(2*h+1)*(2*h+1)):
 Calls Tryz.prog 29 #[sqV (2*(h:Int)+1) s] w fun e w'=>e= .returned (.int .i64 (hv (hAt h (2*(h:Int)+1) s) 4 0))∧Below w.heap.size w w':=by
 have hN:(2*h+1)*(2*h+1)≤61*61:=Nat.mul_le_mul (by omega) (by omega)
 have hN1:9*9≤(2*h+1)*(2*h+1):=Nat.mul_le_mul (by omega) (by omega)
 have HO:Hid (∀w,_):=fun w=>specOk_val (2*(h:Int)+1) s w (by unfold maxLen;omega)
 rw[hok]at HO
 have HT:Hid (∀(k:Nat) w,k<4→Calls Tryz.prog 30 #[sqV (2*(h:Int)+1) s,.int .i64 k] w fun e w'=>e= .returned (sqV (2*(h:Int)+1) (turnN (2*(h:Int)+1) s k))∧Below w.heap.size w w'):=by
  intro k w hk
  have:=specTurnBy_val (2*(h:Int)+1) s k w (by simp only[Lit.wf,Bool.and_eq_true,decide_eq_true_eq];rw[show IntKind.i64.min= -9223372036854775808 from by decide,show IntKind.i64.max=9223372036854775807 from by decide];omega) (by omega)
  have e:((k:Int)%4).toNat=k:=by omega
  rw[e]at this
  exact this
 have HS:Hid (∀(k:Nat) w,k<25→Calls Tryz.prog 31 #[.int .i64 k] w fun e w'=>e= .returned (.tuple #[.int .i64 (wx k),.int .i64 (wy k)])∧w'=w):=by
  intro k w hk
  have:=specSpiral_val k w
  rw[spX_in k (by omega),spY_in k (by omega)]at this
  exact this
 have HI:Hid (∀k,k<25→idx h (wx k) (wy k)<s.size):=fun k hk=>by
  obtain⟨a1,a2,a3,a4⟩:=dist_in (way_dist k h (by omega))
  rw[hz];exact idx_lt a1 a2 a3 a4
 have HP:Hid (∀(k:Nat) (w:World),k<25→_):=fun k w hk=>place_val h (wx k) (wy k) w h1 (dist_in (way_dist k h (by omega))).1 (dist_in (way_dist k h (by omega))).2.1 (dist_in (way_dist k h (by omega))).2.2.1 (dist_in (way_dist k h (by omega))).2.2.2
 have HH:Hid (∀(k:Nat) (w:World),k<25→_):=fun k w hk=>heart_val (wx k) (wy k) w (dist_in (way_dist k 2 (by omega))).1 (dist_in (way_dist k 2 (by omega))).2.1 (dist_in (way_dist k 2 (by omega))).2.2.1 (dist_in (way_dist k 2 (by omega))).2.2.2
 have HG:Hid (∀m k,k<25→(alongF h (turnN (2*(h:Int)+1) s m) k).toNat=48∨(alongF h (turnN (2*(h:Int)+1) s m) k).toNat=49):=by
  intro m k hk
  obtain⟨h',-,-,e,hz',hg'⟩:=ok_form (ok_turnN hok m)
  obtain rfl:h'=h:=by omega
  obtain⟨a1,a2,a3,a4⟩:=dist_in (way_dist k h' (by omega))
  exact sign_tb hz' hg' a1 a2 a3 a4
 have HZ:Hid (∀m,(turnN (2*(h:Int)+1) s m).size=s.size):=fun m=>turnN_size _ s m
 have hz3:s.size≤3721:=by omega
 unfold sqV at*
 have HAT:Hid (∀m,hAt h (2*(h:Int)+1) s m=hOk h (turnN (2*(h:Int)+1) s m) 25):=fun m=>rfl
 clear hok hz hN hN1 h4 h1
 generalize 2*(h:Int)+1=n at*
 generalize hAt h n s=P at*
 generalize hV:hv P 4 0=V at*
 have m0:Box (w.alloc (.cells #[.int .i64 n,.string s] 39)) w.heap.size n s:=Pk.heap_new w _
 have N:=Pk.new_below w (.cells #[.int .i64 n,.string s] 39)
 go_enter Tryz.func29,Tryz.ntmps29
 go_wp2_with fail
 generalize w.alloc (.cells #[.int .i64 n,.string s] 39)=W at*
 refine(HO.out _).mono ?_
 rintro e w1 ⟨rfl,L1⟩
 replace m0:=m0.on L1
 replace N:=Pk.join_below N L1
 have HV:Hid (V=hv P 4 0):=hV.symm
 clear hV L1
 go_wp2
 go_loopw [3] (fun i wr=>∃k f:Nat,k+f=4∧i= .int .i64 k∧Box wr w.heap.size n s∧Hid (Below w.heap.size w wr)∧Hid (V=hv P f k)) (fun i _=>4-(intOf i).toNat)
 case atStart=>exact⟨0,4,by omega,rfl,m0,N,HV⟩
 case round=>
  clear m0 N HV
  obtain⟨m,f,hmf,rfl,m2,N2,HF⟩:=hrel
  by_cases hlt:m<4
  ·obtain⟨f',rfl⟩:∃f',f=f'+1:=⟨f-1,by omega⟩
   have HK:Hid (∀w,_):=fun w=>HT.out m w hlt
   have HG2:Hid (_):=HG.out m
   have HQ:Hid (_):=HAT.out m
   have hqz:=HZ.out m
   generalize turnN n s m=q at*
   have c0:=m2.n
   have c1:=m2.s
   go_wp2_with fail
   refine(HK.out _).mono ?_
   rintro e w3 ⟨rfl,L3⟩
   have m4:=m2.on L3
   have N3:=Pk.join_below N2.out L3
   have x4:Box (w3.alloc (.cells #[.int .i64 n,.string q] 39)) w3.heap.size n q:=Pk.heap_new w3 _
   have K4:=Pk.new_below w3 (.cells #[.int .i64 n,.string q] 39)
   have m5:=m4.on K4
   have N5:=Pk.join_below N3 K4
   clear c0 c1 m2 m4 N2 N3 L3 K4
   go_wp2
   generalize w3.alloc (.cells #[.int .i64 n,.string q] 39)=w4 at*
   generalize w3.heap.size=g at*
   go_loopw [5,6] (fun t i wr=>∃k:Nat,k≤25∧i= .int .i64 k∧t= .bool (hOk h q k)∧Box wr w.heap.size n s∧Box wr g n q∧Hid (Below w.heap.size w wr)) (fun _ i _=>25-(intOf i).toNat)
   case atStart=>exact⟨0,by omega,rfl,rfl,m5,x4,N5⟩
   case round=>
    clear m5 x4 N5
    obtain⟨k,hk,rfl,rfl,m6,x6,N6⟩:=hrel
    by_cases hk25:k<25
    ·have J:=HI.out k hk25
     rw[←hqz]at J
     have HST:Hid (_):=hOk_step h q k
     have HX:Hid (_):=hOk_sign hk25 _ (tb_at q _ J)
     have hsg:=HG2.out k hk25
     rw[show alongF h q k=q[idx h (wx k) (wy k)]from tb_at q _ J]at hsg
     have X1:Hid (∀w,_):=fun w=>HS.out k w hk25
     have X2:Hid (∀w,_):=fun w=>HP.out k w hk25
     have X3:Hid (∀w,_):=fun w=>HH.out k w hk25
     generalize heartI (wx k) (wy k)=hi at*
     generalize hOk h q k=o0 at*
     generalize idx h (wx k) (wy k)=i2 at*
     generalize wx k=x at*
     generalize wy k=y at*
     have hk1:(0:Int)≤(i2:Int):=by omega
     have hk2:(i2:Int)<(q.size:Int):=by omega
     have z1:IntKind.i64.wrap (q[i2].toNat:Int)=(q[i2].toNat:Int):=by rw[IntKind.wrap_i64];omega
     have z2:IntKind.i64.wrap ((q[i2].toNat:Int)-48)=(q[i2].toNat:Int)-48:=by rw[IntKind.wrap_i64];omega
     have c0:=x6.n
     have c1:=x6.s
     go_wp2_with fail
     refine(X1.out _).mono ?_
     rintro e w5 ⟨rfl,rfl⟩
     by_cases hE:(q[i2].toNat:Int)-48=hi
     ·have HO1:Hid (hOk h q (k+1)=o0):=by show _=_;rw[HST.out,decide_eq_true (HX.out.1 hE),Bool.and_true]
      have hb:((q[i2].toNat:Int)-48 !=hi)=false:=by simp[hE]
      clear hE
      go_wp2
      go_region_held3 (fun w'=>w'.cell? ⟨g,0,none⟩=some (.int .i64 n)∧w'.cell? ⟨g,1,none⟩=some (.string q)) (go_keep) (first
       |(go_at_call 32;refine(X2.out _).mono ?_;rintro e x2 ⟨rfl,rfl⟩)
       |(go_at_call 54;refine(X3.out _).mono ?_;rintro e x2 ⟨rfl,L7⟩;replace L7:Below w5.heap.size w5 x2:=(by first|exact L7|exact((Below.refl _ _).drew).trans L7);have x7:=x6.on L7;have m7:=m6.on L7;have c0:=x7.n;have c1:=x7.s;have N7:=Pk.join_below N6.out L7))
      all_goals
       go_wp2
       go_roundw
       case rel=>exact⟨k+1,by omega,by go_num,by rw[HO1.out],m7,x7,N7⟩
       case measure=>simp[intOf];omega
     ·have HO1:Hid (hOk h q (k+1)=false):=by show _=_;rw[HST.out,decide_eq_false (fun e=>hE (HX.out.2 e)),Bool.and_false]
      have hb:((q[i2].toNat:Int)-48 !=hi)=true:=by simp[hE]
      clear hE
      go_wp2
      go_region_held3 (fun w'=>w'.cell? ⟨g,0,none⟩=some (.int .i64 n)∧w'.cell? ⟨g,1,none⟩=some (.string q)) (go_keep) (first
       |(go_at_call 32;refine(X2.out _).mono ?_;rintro e x2 ⟨rfl,rfl⟩)
       |(go_at_call 54;refine(X3.out _).mono ?_;rintro e x2 ⟨rfl,L7⟩;replace L7:Below w5.heap.size w5 x2:=(by first|exact L7|exact((Below.refl _ _).drew).trans L7);have x7:=x6.on L7;have m7:=m6.on L7;have c0:=x7.n;have c1:=x7.s;have N7:=Pk.join_below N6.out L7))
      all_goals
       go_wp2
       go_roundw
       case rel=>exact⟨k+1,by omega,by go_num,by rw[HO1.out],m7,x7,N7⟩
       case measure=>simp[intOf];omega
    ·obtain rfl:k=25:=by omega
     cases hPm:hOk h q 25
     ·have HY:Hid (V=hv P f' (m+1)):=by show _=_;rw[HF.out,hv,if_neg (by rw[HQ.out,hPm];decide)]
      go_wp2
      go_roundw
      case rel=>exact⟨m+1,f',by omega,by go_num,m6,N6,HY⟩
      case measure=>simp[intOf];omega
     ·have HY:Hid (V=m):=by show _=_;rw[HF.out,hv,if_pos (by rw[HQ.out,hPm])]
      go_wp2
      go_ret
      exact⟨by rw[HY.out];rfl,N6.out⟩
  ·obtain rfl:m=4:=by omega
   obtain rfl:f=0:=by omega
   have HY:Hid (V= -1):=HF
   go_wp2
   go_ret
   exact⟨by rw[HY.out];rfl,N2.out⟩

theorem implHeart_val (n:Int) (s:ByteArray) (w:World) (hs:s.size≤maxLen):
 Calls Tryz.prog 42 #[sqV n s] w fun e w'=>e= .returned (.int .i64 (heartV n s))∧Below w.heap.size w w':=by
 cases hok:okQ n s
 ·rw[heartV_no hok]
  have HO:Hid (∀w,_):=fun w=>implOk_val n s w hs
  rw[hok]at HO
  clear hok hs
  unfold sqV at*
  have N:=Pk.new_below w (.cells #[.int .i64 n,.string s] 39)
  go_enter Tryz.func42,Tryz.ntmps42
  go_wp2_with fail
  refine(HO.out _).mono ?_
  rintro e w1 ⟨rfl,L1⟩
  go_wp2
  go_ret
  exact⟨rfl,Pk.join_below N L1⟩
 ·obtain⟨h,h4,h1,rfl,hz,hg⟩:=ok_form hok
  rw[heartV_ok hok]
  exact implHeart_ok h s w h4 h1 hok hz

theorem specHeart_val (n:Int) (s:ByteArray) (w:World) (hs:s.size≤maxLen):
 Calls Tryz.prog 29 #[sqV n s] w fun e w'=>e= .returned (.int .i64 (heartV n s))∧Below w.heap.size w w':=by
 cases hok:okQ n s
 ·rw[heartV_no hok]
  have HO:Hid (∀w,_):=fun w=>specOk_val n s w hs
  rw[hok]at HO
  clear hok hs
  unfold sqV at*
  have N:=Pk.new_below w (.cells #[.int .i64 n,.string s] 39)
  go_enter Tryz.func29,Tryz.ntmps29
  go_wp2_with fail
  refine(HO.out _).mono ?_
  rintro e w1 ⟨rfl,L1⟩
  go_wp2
  go_ret
  exact⟨rfl,Pk.join_below N L1⟩
 ·obtain⟨h,h4,h1,rfl,hz,hg⟩:=ok_form hok
  rw[heartV_ok hok]
  exact specHeart_ok h s w h4 h1 hok hz

end Sq
end Go.Proofs.YtdcpjicgehdmfaaGreatDoor

/- The program's bytesOfSigns: bytes out of signs. -/
namespace Go.Proofs.YtdcpjicgehdmfaaGreatDoor
namespace Sq
open Go.ChangeShapes Go.WideShapes Go.ChangeAt Go.RowKit
set_option linter.unusedSimpArgs false
set_option linter.unusedVariables false

def bv (f:Nat→Nat) (j:Nat):Nat→Nat
 |0=>0
 |n+1=>2*bv f j n+f (8*j+n)

theorem bv_lt {f:Nat→Nat} (hf:∀i,f i≤1) (j n:Nat):bv f j n<2^n:=by
 induction n with
 |zero=>show 0<1;omega
 |succ n ih=>
  have:=hf (8*j+n)
  rw[bv,Nat.pow_succ]
  omega

def bsF (f:Nat→Nat) (i j:Nat):Value:= .int .u8 (bv f j (min 8 (i-8*j)):Nat)

theorem bsF_zero (f:Nat→Nat) (j:Nat):bsF f 0 j= .int .u8 0:=by
 unfold bsF
 rw[show min 8 (0-8*j)=0 from by omega]
 rfl

theorem bsF_now (f:Nat→Nat) (i:Nat):bsF f i (i/8)= .int .u8 (bv f (i/8) (i%8):Nat):=by
 unfold bsF
 rw[show min 8 (i-8*(i/8))=i%8 from by omega]

theorem bsF_step (f:Nat→Nat) (i j:Nat):bsF f (i+1) j=if j=i/8 then .int .u8 ((2*bv f (i/8) (i%8)+f i:Nat):Int)else bsF f i j:=by
 unfold bsF
 by_cases e:j=i/8
 ·rw[if_pos e,e,show min 8 (i+1-8*(i/8))=i%8+1 from by omega,bv,show 8*(i/8)+i%8=i from by omega]
 ·rw[if_neg e,show min 8 (i+1-8*j)=min 8 (i-8*j)from by omega]

theorem or_bit:∀x:Fin 128,∀b:Fin 2,bits .or .u8 ((2*x.val:Nat):Int) ((b.val:Nat):Int)=((2*x.val+b.val:Nat):Int):=by decide+kernel

theorem or_bits (x b:Nat) (hx:x<128) (hb:b≤1):bits .or .u8 ((2*x:Nat):Int) (b:Int)=((2*x+b:Nat):Int):=or_bit ⟨x,hx⟩ ⟨b,by omega⟩

def sbit (t:ByteArray) (i:Nat):Nat:=if(tb t i).toNat=49 then 1 else 0

theorem sbit_le (t:ByteArray) (i:Nat):sbit t i≤1:=by unfold sbit;split<;>omega

set_option maxRecDepth 100000 in
set_option maxHeartbeats 4000000 in
theorem bytesOf_val (t:ByteArray) (w:World) (h8:8≤t.size) (hs:t.size≤4000) (hb:∀i,i<t.size→(tb t i).toNat=48∨(tb t i).toNat=49):
 Calls Tryz.prog 44 #[.string t] w fun e w'=>e= .returned (.string (strT (t.size/8) (fun j=>UInt8.ofNat (bv (sbit t) j 8))))∧Below w.heap.size w w':=by
 obtain⟨c,hc⟩:∃c,t.size/8=c:=⟨_,rfl⟩
 rw[hc]
 have hmk:=make_run 58 5 _ 1 c Tryz.underlying58 info_u8' rfl (by omega) (by omega)
 have K:=Pk.new_below w (.cells (tab c (fun _=> .int .u8 0)) 5)
 have G:=Pk.heap_new w (.cells (tab c (fun _=> .int .u8 0)) 5)
 have hq:Int.tdiv (t.size:Int) 8=(c:Int):=by rw[Int.tdiv_eq_ediv_of_nonneg (by omega)];omega
 have hq2:(t.size:Int)/8=(c:Int):=by omega
 have HT:Hid (_):=hc
 clear hc
 go_enter Tryz.func44,Tryz.ntmps44
 go_wp2
 generalize w.alloc (.cells (tab c (fun _=> .int .u8 0)) 5)=w3 at*
 have R0:Run w.heap.size w w3 w3 w.heap.size c (bsF (sbit t) 0):=Run.start K (Pk.lt_of G) (Nat.le_refl _) ((Cl.of_tab G).congr (fun j _=>bsF_zero _ _))
 clear G K
 have h8c:8*c≤t.size:=by have:=HT.out;omega
 go_loopw [12] (fun i wr=>∃k:Nat,k≤8*c∧i= .int .i64 k∧Run w.heap.size w w3 wr w.heap.size c (bsF (sbit t) k)) (fun i _=>8*c-(intOf i).toNat)
 case atStart=>exact⟨0,by omega,rfl,R0⟩
 case round=>
  clear R0
  obtain⟨k,hk,rfl,R⟩:=hrel
  by_cases hlt:k<8*c
  ·have J:k/8<c:=by omega
   have hkS:k<t.size:=by omega
   have r0:=(R.row (k/8) J).1
   have r1:=(R.row (k/8) J).2
   have XS:Hid (∀j,j<c→_):=fun j _=>bsF_step (sbit t) k j
   rw[bsF_now]at r0
   have hx:bv (sbit t) (k/8) (k%8)<128:=by
    have h1:=bv_lt (sbit_le t) (k/8) (k%8)
    have h2:2^(k%8)≤2^7:=Nat.pow_le_pow_right (by omega) (by omega)
    omega
   have hbt:=hb k hkS
   have htb:tb t k=t[k]:=getD_at t k hkS
   have hsb:((sbit t k:Nat):Int)=(t[k].toNat:Int)-48:=by
    unfold sbit
    rw[htb]at hbt⊢
    rcases hbt with e|e<;>rw[e]<;>rfl
   have hob:=or_bits _ _ hx (sbit_le t k)
   have hq3:Int.tdiv (k:Int) 8=((k/8:Nat):Int):=by rw[Int.tdiv_eq_ediv_of_nonneg (by omega)];omega
   have hq4:(k:Int)/8=((k/8:Nat):Int):=by omega
   rw[hsb]at hob
   rw[htb]at hbt
   generalize bv (sbit t) (k/8) (k%8)=x at*
   generalize k/8=k8 at*
   have hkI:(k:Int)<(t.size:Int):=by omega
   have hkI2:(k:Int)<8*(c:Int):=by omega
   have hkI3:(k:Int)<(c:Int)*8:=by omega
   have hjI:(k8:Int)<(c:Int):=by omega
   go_wp2
   go_region
   all_goals
    go_wp2
    go_roundw
    case rel=>
     refine⟨k+1,by omega,by go_num,?_⟩
     rw[show((x:Int)*2)=((2*x:Nat):Int)from by omega,hob]
     first|exact R.set k8 _ XS.out|exact R.drew.set k8 _ XS.out|exact(R.set k8 _ XS.out).drew
    case measure=>simp[intOf];omega
  ·obtain rfl:k=8*c:=by omega
   have hcv:=R.row.text (cap:=c) (b:=fun j=>UInt8.ofNat (bv (sbit t) j 8)) (fun j hj=>by
    unfold bsF
    rw[show min 8 (8*c-8*j)=8 from by omega,UInt8.toNat_ofNat',Nat.mod_eq_of_lt (bv_lt (sbit_le t) j 8)])
   have LL:=R.below
   go_wp2
   go_ret
   exact⟨rfl,LL⟩

end Sq
end Go.Proofs.YtdcpjicgehdmfaaGreatDoor

/- The mathematics of chapter 3: the codes of lengths and of ways back. -/
namespace Go.Proofs.YtdcpjicgehdmfaaGreatDoor
namespace Math

def cbits (R k:Nat):Nat:=k/R-1

def cleast (R k:Nat):Nat:=(k-cbits R k*R)*2^cbits R k

theorem cbits_mul_le (R k:Nat):cbits R k*R≤k:=by
 unfold cbits
 have h:=Nat.div_mul_le_self k R
 have h2:(k/R-1)*R≤k/R*R:=Nat.mul_le_mul_right R (Nat.sub_le _ _)
 omega

theorem cleast_succ (R k:Nat) (hR:0<R):cleast R (k+1)=cleast R k+2^cbits R k:=by
 have hk:=cbits_mul_le R k
 by_cases h:(k+1)/R=k/R
 ·have hb:cbits R (k+1)=cbits R k:=by unfold cbits;rw[h]
  unfold cleast
  rw[hb,show k+1-cbits R k*R=(k-cbits R k*R)+1 by omega,Nat.add_mul,Nat.one_mul]
 ·have hs:= @Nat.succ_div k R
  have hd:R∣k+1:=by
   apply Classical.byContradiction
   intro hn
   rw[if_neg hn]at hs
   exact h hs
  rw[if_pos hd]at hs
  obtain⟨c,hc⟩:=hd
  have hq:(k+1)/R=c:=by rw[hc];exact Nat.mul_div_cancel_left c hR
  have hq0:k/R+1=c:=by omega
  cases hcc:k/R with
  |zero=>
   have hb:cbits R k=0:=by unfold cbits;omega
   have hb1:cbits R (k+1)=0:=by unfold cbits;omega
   unfold cleast
   rw[hb,hb1]
   simp
  |succ q=>
   have hb:cbits R k=q:=by unfold cbits;omega
   have hb1:cbits R (k+1)=q+1:=by unfold cbits;omega
   have hc2:c=q+2:=by omega
   subst hc2
   unfold cleast
   rw[hb,hb1]
   have e1:k+1-(q+1)*R=R:=by
    rw[hc,Nat.mul_comm R,show q+2=(q+1)+1 by omega,Nat.add_mul (q+1) 1 R]
    omega
   have e2:k-q*R+1=2*R:=by
    have:R*(q+2)=q*R+2*R:=by rw[Nat.mul_comm R,Nat.add_mul]
    omega
   rw[e1,Nat.pow_succ]
   have e3:(k-q*R)*2^q+2^q=(k-q*R+1)*2^q:=by rw[Nat.add_mul,Nat.one_mul]
   rw[e3,e2,Nat.mul_comm (2^q) 2,←Nat.mul_assoc,Nat.mul_comm R 2]

def blen (n:Nat):Nat:=if n=0 then 0 else n.log2+1

theorem blen_spec (n:Nat):n<2^blen n∧(n≠0→2^(blen n-1)≤n):=by
 unfold blen
 split
 ·subst_vars;simp
 ·rename_i h;exact⟨Nat.lt_log2_self,fun _=>by simpa using Nat.log2_self_le h⟩

def nbits (r n:Nat):Nat:=blen n-1-r

theorem nbits_of (r k n:Nat) (h1:cleast (2^r) k≤n) (h2:n<cleast (2^r) k+2^cbits (2^r) k):
 nbits r n=cbits (2^r) k∧n/2^cbits (2^r) k=k-cbits (2^r) k*2^r∧n%2^cbits (2^r) k=n-cleast (2^r) k:=by
 have hR:0<2^r:=Nat.two_pow_pos r
 have hp:0<2^cbits (2^r) k:=Nat.two_pow_pos _
 have hk:=cbits_mul_le (2^r) k
 have hdm:=Nat.div_add_mod k (2^r)
 have hml:=Nat.mod_lt k hR
 have e:n/2^cbits (2^r) k=k-cbits (2^r) k*2^r:=by
  unfold cleast at h1 h2
  rw[Nat.div_eq_iff hp]
  omega
 refine⟨?_,e,?_⟩
 ·have hsp:=blen_spec n
  unfold nbits
  by_cases hb:cbits (2^r) k=0
  ·have hn:n=k:=by
    unfold cleast at h1 h2
    rw[hb]at h1 h2
    simp at h1 h2
    omega
   have hk2:k<2^(r+1):=by
    unfold cbits at hb
    have:k/2^r≤1:=by omega
    have:2^r*(k/2^r)≤2^r*1:=Nat.mul_le_mul_left _ this
    rw[Nat.pow_succ]
    omega
   rw[hb]
   subst hn
   apply Nat.sub_eq_zero_of_le
   by_cases h0:n=0
   ·subst h0;simp[blen]
   ·have h3:=hsp.2 h0
    have h4:2^(blen n-1)<2^(r+1):=Nat.lt_of_le_of_lt h3 hk2
    have:=(Nat.pow_lt_pow_iff_right (by omega:1<2)).1 h4
    omega
  ·generalize hbb:cbits (2^r) k=b at*
   have hkq:k/2^r=b+1:=by unfold cbits at hbb;omega
   have hq1:2^r≤k-b*2^r∧k-b*2^r<2*2^r:=by
    rw[hkq]at hdm
    have:2^r*(b+1)=b*2^r+2^r:=by rw[Nat.mul_add,Nat.mul_one,Nat.mul_comm]
    omega
   have hlo:2^(r+b)≤n:=by
    have:2^r*2^b≤(k-b*2^r)*2^b:=Nat.mul_le_mul_right _ hq1.1
    rw[Nat.pow_add]
    unfold cleast at h1
    rw[hbb]at h1
    omega
   have hhi:n<2^(r+b+1):=by
    have h5:(k-b*2^r+1)*2^b≤2*2^r*2^b:=Nat.mul_le_mul_right _ (by omega)
    rw[Nat.add_mul,Nat.one_mul]at h5
    have h6:2*2^r*2^b=2^(r+b+1):=by rw[Nat.pow_succ,Nat.pow_add,Nat.mul_assoc,Nat.mul_comm]
    unfold cleast at h2
    rw[hbb]at h2
    omega
   have hn0:n≠0:=by have:=Nat.two_pow_pos (r+b);omega
   have hlog:n.log2=r+b:=(Nat.log2_eq_iff hn0).2 ⟨hlo,hhi⟩
   unfold blen
   rw[if_neg hn0,hlog]
   omega
 ·have hdm2:=Nat.div_add_mod n (2^cbits (2^r) k)
  rw[e]at hdm2
  unfold cleast
  rw[Nat.mul_comm]at hdm2
  omega

def codeC (r n:Nat):Nat:=nbits r n*2^r+n/2^nbits r n
def codeX (r n:Nat):Nat:=n%2^nbits r n

theorem code_of (r k n:Nat) (h1:cleast (2^r) k≤n) (h2:n<cleast (2^r) k+2^cbits (2^r) k):
 codeC r n=k∧nbits r n=cbits (2^r) k∧codeX r n=n-cleast (2^r) k:=by
 obtain⟨a,b,c⟩:=nbits_of r k n h1 h2
 have hk:=cbits_mul_le (2^r) k
 refine⟨?_,a,by unfold codeX;rw[a];exact c⟩
 unfold codeC
 rw[a,b]
 omega

theorem cleast_mono (R a b:Nat) (hR:0<R) (h:a≤b):cleast R a≤cleast R b:=by
 induction b with
 |zero=>rw[show a=0 by omega];exact Nat.le_refl _
 |succ b ih=>
  by_cases e:a=b+1
  ·subst e;exact Nat.le_refl _
  ·have:=ih (by omega)
   rw[cleast_succ R b hR]
   exact Nat.le_trans this (Nat.le_add_right _ _)

end Math
end Go.Proofs.YtdcpjicgehdmfaaGreatDoor

/- The mathematics of chapter 3: bits as bytes. -/
namespace Go.Proofs.YtdcpjicgehdmfaaGreatDoor
namespace Math

def Bits (l:List Nat):Prop:=∀b∈l,b≤1

theorem Bits.nil:Bits []:=by intro b h;cases h

theorem Bits.append {l m:List Nat} (h:Bits l) (g:Bits m):Bits (l++m):=by
 intro b hb
 rcases List.mem_append.1 hb with hb|hb
 ·exact h b hb
 ·exact g b hb

theorem Bits.one {b:Nat} (h:b≤1):Bits [b]:=by
 intro c hc
 rw[List.mem_singleton]at hc
 omega

theorem Bits.at {l:List Nat} (h:Bits l) (i:Nat):l.getD i 0≤1:=by
 rw[List.getD_eq_getElem?_getD]
 cases e:l[i]? with
 |none=>simp
 |some v=>exact h v (List.mem_of_getElem? e)

def lowL (x n:Nat):List Nat:=(List.range n).map fun j=>x/2^j%2
def highL (x n:Nat):List Nat:=(List.range n).map fun j=>x/2^(n-1-j)%2

theorem lowL_length (x n:Nat):(lowL x n).length=n:=by simp[lowL]
theorem highL_length (x n:Nat):(highL x n).length=n:=by simp[highL]

def highP (x n k:Nat):List Nat:=(List.range k).map fun j=>x/2^(n-1-j)%2

theorem highP_succ (x n k:Nat):highP x n (k+1)=highP x n k++ [x/2^(n-1-k)%2]:=by
 unfold highP
 rw[List.range_succ,List.map_append]
 rfl

theorem highP_all (x n:Nat):highP x n n=highL x n:=rfl

theorem or_low (x b r:Nat) (h:x<2^r):x|||b*2^r=x+b*2^r:=by
 have:=Nat.shiftLeft_add_eq_or_of_lt h b
 rw[Nat.shiftLeft_eq]at this
 rw[Nat.or_comm,←this,Nat.add_comm]

theorem ofInt_small (a:Nat) (ha:a<4611686018427387904):(BitVec.ofInt 64 (a:Int)).toNat=a:=by
 rw[BitVec.ofInt_natCast,BitVec.toNat_ofNat];exact Nat.mod_eq_of_lt (by omega)

theorem bits_and_i64 (a b:Nat) (ha:a<4611686018427387904) (hb:b<4611686018427387904):
 bits .and .i64 (a:Int) (b:Int)=((a&&&b:Nat):Int):=by
 have hx:a&&&b<2^62:=Nat.and_lt_two_pow _ (by omega)
 show IntKind.i64.wrap ((BitVec.ofInt 64 (a:Int)&&&BitVec.ofInt 64 (b:Int)).toNat:Int)=_
 rw[BitVec.toNat_and,ofInt_small a ha,ofInt_small b hb,IntKind.wrap_i64]
 omega

theorem bits_or_i64 (a b:Nat) (ha:a<4611686018427387904) (hb:b<4611686018427387904):
 bits .or .i64 (a:Int) (b:Int)=((a|||b:Nat):Int):=by
 have hx:a|||b<2^62:=Nat.or_lt_two_pow (by omega) (by omega)
 show IntKind.i64.wrap ((BitVec.ofInt 64 (a:Int)|||BitVec.ofInt 64 (b:Int)).toNat:Int)=_
 rw[BitVec.toNat_or,ofInt_small a ha,ofInt_small b hb,IntKind.wrap_i64]
 omega

theorem bits_xor_i64 (a b:Nat) (ha:a<4611686018427387904) (hb:b<4611686018427387904):
 bits .xor .i64 (a:Int) (b:Int)=((a^^^b:Nat):Int):=by
 have hx:a^^^b<2^62:=Nat.xor_lt_two_pow (by omega) (by omega)
 show IntKind.i64.wrap ((BitVec.ofInt 64 (a:Int)^^^BitVec.ofInt 64 (b:Int)).toNat:Int)=_
 rw[BitVec.toNat_xor,ofInt_small a ha,ofInt_small b hb,IntKind.wrap_i64]
 omega

theorem and_one_i64 (a:Nat) (ha:a<4611686018427387904):bits .and .i64 (a:Int) 1=((a%2:Nat):Int):=by
 have h:=bits_and_i64 a 1 ha (by omega)
 rw[Nat.and_one_is_mod]at h
 exact h

end Math
end Go.Proofs.YtdcpjicgehdmfaaGreatDoor

/- Contracts of the codes of lengths and of ways back, of the program and of its model. -/
namespace Go.Proofs.YtdcpjicgehdmfaaGreatDoor
namespace Pk
open Go.ChangeShapes Go.WideShapes Go.ChangeAt Go.RowKit
set_option linter.unusedSimpArgs false
set_option linter.unusedVariables false

theorem in_is (x a b:Int) (c:Bool) (h:decide (a≤x∧x≤b)=c) (w:World):
 Calls Tryz.prog 56 #[.int .i64 x,.int .i64 a,.int .i64 b] w fun e w'=>e= .returned (.bool c)∧w'=w:=by
 subst h
 by_cases h1:a≤x<;>by_cases h2:x≤b
 all_goals
  go_enter Tryz.func56,Tryz.ntmps56
  go_wp2
  go_ret
  exact⟨by simp[h1,h2],rfl⟩

def p2 (n:Nat):Nat:=2^n

theorem p2_pos (n:Nat):0<p2 n:=Nat.two_pow_pos n

theorem p2_succ (n:Nat):p2 (n+1)=2*p2 n:=by unfold p2;rw[Nat.pow_succ,Nat.mul_comm]

theorem p2_le (n m:Nat) (h:n≤m):p2 n≤p2 m:=Nat.pow_le_pow_right (by omega) h

theorem p2_bd (n:Nat) (h:n≤40):p2 n≤1099511627776:=p2_le n 40 h

theorem pow2_val (n:Nat) (w:World) (hn:n≤40):
 Calls Tryz.prog 124 #[.int .i64 n] w fun e w'=>e= .returned (.int .i64 (p2 n))∧w'=w:=by
 go_enter Tryz.func124,Tryz.ntmps124
 go_wp2
 go_loop [3,4] (fun x i=>∃(k y:Nat),k≤n∧y≤1099511627776∧x= .int .i64 y∧i= .int .i64 k∧Hid (y=p2 k)) (fun _ i=>n-(intOf i).toNat)
 case atStart=>exact⟨0,1,by omega,by omega,rfl,rfl,rfl⟩
 case round=>
  obtain⟨k,y,hk,hy,rfl,rfl,H⟩:=hrel
  by_cases hlt:k<n
  ·have HN:Hid (2*y=p2 (k+1)):=by show _=_;rw[p2_succ,H.out]
   have hy2:2*y≤1099511627776:=by
    rw[HN.out]
    exact p2_bd _ (by omega)
   go_wp2
   go_round
   case rel=>exact⟨k+1,2*y,by omega,by omega,by go_num,by go_num,HN⟩
   case measure=>simp[intOf];omega
  ·obtain rfl:k=n:=by omega
   go_wp2
   go_ret
   exact⟨ret_int (by rw[←H.out]),rfl⟩

theorem blen_bd (n k:Nat) (h:n<2^k):Math.blen n≤k:=by
 unfold Math.blen
 by_cases h0:n=0
 ·rw[if_pos h0];omega
 ·rw[if_neg h0]
  have:=(Nat.log2_lt h0).2 h
  omega

def lenC (n:Int):Int:=if 3≤n∧n≤258 then if n=258 then 285 else 257+(Math.codeC 2 (n-3).toNat:Int)else-1
def lenB (n:Int):Int:=if 3≤n∧n≤257 then(Math.nbits 2 (n-3).toNat:Int)else 0
def lenX (n:Int):Int:=if 3≤n∧n≤257 then(Math.codeX 2 (n-3).toNat:Int)else 0
def backC (d:Int):Int:=if 1≤d∧d≤32768 then(Math.codeC 1 (d-1).toNat:Int)else-1
def backB (d:Int):Int:=if 1≤d∧d≤32768 then(Math.nbits 1 (d-1).toNat:Int)else 0
def backX (d:Int):Int:=if 1≤d∧d≤32768 then(Math.codeX 1 (d-1).toNat:Int)else 0

theorem len_no (n:Int) (h:¬(3≤n∧n≤258)):lenC n= -1∧lenB n=0∧lenX n=0:=by
 unfold lenC lenB lenX
 rw[if_neg h,if_neg (by omega),if_neg (by omega)]
 exact⟨rfl,rfl,rfl⟩

theorem len_top:lenC 258=285∧lenB 258=0∧lenX 258=0:=by
 unfold lenC lenB lenX
 simp

theorem len_yes (k:Nat) (h:k≤254):lenC ((k:Int)+3)=257+(Math.codeC 2 k:Int)∧lenB ((k:Int)+3)=(Math.nbits 2 k:Int)∧lenX ((k:Int)+3)=(Math.codeX 2 k:Int):=by
 unfold lenC lenB lenX
 have e:((k:Int)+3-3).toNat=k:=by omega
 rw[if_pos (by omega),if_neg (by omega),if_pos (by omega),if_pos (by omega),e]
 exact⟨rfl,rfl,rfl⟩

abbrev t3 (a b c:Int):Value:= .tuple #[.int .i64 a,.int .i64 b,.int .i64 c]

theorem specLen_val (N:Int) (w:World):
 Calls Tryz.prog 172 #[.int .i64 N] w fun e w'=>e= .returned (t3 (lenC N) (lenB N) (lenX N))∧w'=w:=by
 by_cases h258:N=258
 ·subst h258
  obtain⟨e1,e2,e3⟩:=len_top
  rw[e1,e2,e3]
  go_enter Tryz.func172,Tryz.ntmps172
  go_wp2_with fail
  refine(in_is _ 3 258 true (by decide) _).mono ?_
  rintro e w1 ⟨rfl,rfl⟩
  go_wp2
  refine bodyPost_ret (v:=t3 285 0 0) (by simp[results,Tryz.results172,go_sem]) rfl ⟨rfl,rfl⟩
 by_cases h:3≤N∧N≤258
 ·obtain⟨n,hk⟩:=Int.eq_ofNat_of_zero_le (show 0≤N-3 by omega)
  have HI:Hid (_):=decide_eq_true h
  have hN:N≤257:=by omega
  have hN3:3≤N:=h.1
  have h258':(N==258)=false:=by rw[beq_eq_false_iff_ne];exact h258
  clear h258
  have HN:Hid (N=(n:Int)+3):=by show _=_;omega
  have hl:=len_yes n (by omega)
  rw[←HN.out]at hl
  have HL:Hid (_):=hl
  clear h hk hl
  go_enter Tryz.func172,Tryz.ntmps172
  go_wp2_with fail
  refine(in_is _ 3 258 true HI.out _).mono ?_
  rintro e w1 ⟨rfl,rfl⟩
  go_wp2
  go_loop [5,6,7] (fun c f b=>∃(g a B:Int) (k:Nat),257≤g∧g≤600∧3≤a∧a≤N∧0≤B∧B≤15∧c= .int .i64 g∧f= .int .i64 a∧b= .int .i64 B∧Hid (g=k+257∧a=(Math.cleast 4 k:Int)+3∧B=(Math.cbits 4 k:Int)∧k≤Math.cleast 4 k)) (fun c _ _=>600-(intOf c).toNat)
  case atStart=>exact⟨257,3,0,0,by omega,by omega,by omega,by omega,by omega,by omega,rfl,rfl,rfl,by simp[Hid,Math.cleast,Math.cbits]⟩
  case round=>
   obtain⟨g,a,B,k,hg1,hg2,ha1,ha2,hB1,hB2,rfl,rfl,rfl,H⟩:=hrel
   obtain⟨B,rfl⟩:=Int.eq_ofNat_of_zero_le hB1
   have hB:B≤15:=by omega
   have hP:=p2_pos B
   have hP2:=p2_bd B (by omega)
   have HP:Hid (∀w,_):=fun w=>pow2_val B w (by omega)
   have HS:=Math.cleast_succ 4 k (by omega)
   have hbk:B=Math.cbits 4 k:=by have:=H.out.2.2.1;omega
   rw[←hbk]at HS
   have HS2:Hid (Math.cleast 4 (k+1)=Math.cleast 4 k+p2 B):=HS
   clear HS hbk
   generalize p2 B=Q at*
   by_cases hge:a+(Q:Int)≤N
   ·have hk1:k+1≤Math.cleast 4 (k+1)∧Math.cleast 4 (k+1)≤254:=by
     have h1:=HS2.out
     have h2:=H.out
     have h3:=HN.out
     omega
    have hcb:Math.cbits 4 (k+1)≤15:=by
     apply Classical.byContradiction
     intro hn
     have h1:Math.cleast 4 68≤Math.cleast 4 (k+1):=Math.cleast_mono 4 68 (k+1) (by omega) (by unfold Math.cbits at hn;omega)
     have h2:Math.cleast 4 68=262144:=by decide
     omega
    have HK:Hid (_):=hk1
    have hg3:g+1≤600:=by have h2:=H.out;omega
    clear hk1
    by_cases h4:265≤g+1
    ·have hq:(Math.cbits 4 (k+1):Int)=(g+1-261)/4:=by have h2:=H.out;unfold Math.cbits;omega
     have HQ:Hid (_):=hq
     have hq2:(g+1-261)/4≤15:=by omega
     clear hq hcb
     generalize hg':g+1=G at*
     go_wp2_with (go_at_call 124;refine(HP.out _).mono ?_;rintro e w' ⟨rfl,rfl⟩)
     go_round
     case rel=>exact⟨G,a+Q,(G-261)/4,k+1,by omega,by omega,by omega,by omega,by omega,by omega,by go_num,by go_num,by go_num,by have h1:=HS2.out;have h2:=H.out;have h3:=HQ.out;have h4:=HK.out;show _∧_∧_∧_;omega⟩
     case measure=>simp[intOf];omega
    ·have hq:Math.cbits 4 (k+1)=0:=by have h2:=H.out;unfold Math.cbits;omega
     have hb0:B=0:=by have h2:=H.out;unfold Math.cbits at h2;omega
     subst hb0
     have HQ:Hid (_):=hq
     clear hq hcb
     generalize hg':g+1=G at*
     go_wp2_with (go_at_call 124;refine(HP.out _).mono ?_;rintro e w' ⟨rfl,rfl⟩)
     go_round
     case rel=>exact⟨G,a+Q,0,k+1,by omega,by omega,by omega,by omega,by omega,by omega,by go_num,by go_num,rfl,by have h1:=HS2.out;have h2:=H.out;have h3:=HQ.out;have h4:=HK.out;show _∧_∧_∧_;omega⟩
     case measure=>simp[intOf];omega
   ·have hc:=Math.code_of 2 k n (by show Math.cleast 4 k≤n;have h2:=H.out;have h3:=HN.out;omega) (by show n<Math.cleast 4 k+2^Math.cbits 4 k;rw[←Math.cleast_succ 4 k (by omega),HS2.out];have h2:=H.out;have h3:=HN.out;omega)
    have HC:Hid (lenC N=g∧lenB N=B∧lenX N=N-a):=by
     show _∧_∧_
     obtain⟨l1,l2,l3⟩:=HL.out
     have h2:=H.out
     have h3:=HN.out
     have h4:Math.cleast (2^2) k=Math.cleast 4 k:=rfl
     have h5:Math.cbits (2^2) k=Math.cbits 4 k:=rfl
     rw[h4,h5]at hc
     refine⟨?_,?_,?_⟩<;>omega
    clear hc HS2
    go_wp2_with (go_at_call 124;refine(HP.out _).mono ?_;rintro e w' ⟨rfl,rfl⟩)
    refine bodyPost_ret (v:=t3 (lenC N) (lenB N) (lenX N)) ?_ rfl ⟨rfl,rfl⟩
    rw[HC.out.1,HC.out.2.1,HC.out.2.2]
    simp[results,Tryz.results172,go_sem]
 ·obtain⟨e1,e2,e3⟩:=len_no N h
  rw[e1,e2,e3]
  have HI:Hid (_):=decide_eq_false h
  go_enter Tryz.func172,Tryz.ntmps172
  go_wp2_with fail
  refine(in_is _ 3 258 false HI.out _).mono ?_
  rintro e w1 ⟨rfl,rfl⟩
  go_wp2
  refine bodyPost_ret (v:=t3 (-1) 0 0) (by simp[results,Tryz.results172,go_sem]) rfl ⟨rfl,rfl⟩

end Pk
end Go.Proofs.YtdcpjicgehdmfaaGreatDoor

/- Contracts of FixedCode, of the program and of its model. -/
namespace Go.Proofs.YtdcpjicgehdmfaaGreatDoor
namespace Pk
open Go.ChangeShapes Go.WideShapes Go.ChangeAt Go.RowKit
open Math (highL highP)
set_option linter.unusedSimpArgs false
set_option linter.unusedVariables false

theorem own_new (w:World) (t:TypeId):(w.alloc (.cells #[] t)).ownsRow w.heap.size t 1 (.slice (some ⟨w.heap.size,0,none⟩) 0 0) 0 []:=
 ⟨rfl,Or.inr ⟨w.heap.size,0,#[],rfl,Nat.le_refl _,heap_new w _,by omega,by unfold maxLen;omega,rfl,rfl⟩⟩

theorem div_p2 (x i:Nat):(x:Int)/(p2 i:Int)=((x/2^i:Nat):Int):=by
 unfold p2
 simp

set_option maxHeartbeats 1000000 in
theorem high_made (x n:Nat) (w:World) (hx:x<1099511627776) (hn:n≤40):
 Calls Tryz.prog 89 #[.int .i64 x,.int .i64 n] w fun e w'=>∃v,e= .returned v∧w'.ownsRow w.heap.size 3 1 v n (icells (highL x n))∧Below w.heap.size w w':=by
 obtain⟨i0,hi,hz0,hz1,hz2⟩:=info_of info_int
 go_enter Tryz.func89,Tryz.ntmps89
 go_wp2
 go_loopw [5,6] (fun v i wr=>∃(j:Nat),j≤n∧i= .int .i64 ((n:Int)-1-j)∧wr.ownsRow w.heap.size 3 1 v j (icells (highP x n j))∧Below w.heap.size w wr) (fun _ i _=>(intOf i+1).toNat)
 case atStart=>exact⟨0,by omega,by simp,own_new w _,new_below _ _⟩
 case round=>
  obtain⟨j,hj,rfl,hown,L⟩:=hrel
  by_cases hjn:j<n
  ·have e1:(n:Int)-1-j=((n-1-j:Nat):Int):=by omega
   have HS:Hid (_):=Math.highP_succ x n j
   have HQ:Hid ((n-1-j:Nat)+1+j=n):=by show _=_;omega
   have hq:(n-1-j:Nat)≤40:=by omega
   have hdiv:=div_p2 x (n-1-j)
   have hb1:x/2^(n-1-j)%2≤1:=by omega
   have hzb:x/2^(n-1-j)≤x:=Nat.div_le_self _ _
   have hP:=p2_pos (n-1-j)
   have hP2:=p2_bd (n-1-j) hq
   rw[e1]
   clear e1
   generalize x/2^(n-1-j)=z at*
   have hzm:(z:Int)%2=((z%2:Nat):Int):=by omega
   generalize z%2=b at*
   have HP:Hid (∀w,_):=fun w=>pow2_val (n-1-j) w hq
   generalize n-1-j=q at*
   generalize p2 q=Q at*
   have hBr:w.heap.size≤wr.heap.size:=L.size
   go_wp2_with fail
   refine(HP.out _).mono ?_
   rintro e w2 ⟨rfl,rfl⟩
   go_wp2_with (at_builtin;refine wpList_append_own _ rfl _ _ 24 rfl w.heap.size 3 i0 (.int .i64 0) 1 8 Tryz.underlying24 hi hz0 hz1 hz2 rfl (by decide) _ _ _ rfl (hown.alloc _) ⟨w2.heap.size,0,none⟩ 1 1 [.int .i64 b] rfl rfl ?c1 ?c2 ?c3 ?c4 ?c5 ?_)
   case c1=>exact cell_one_new _ _ _
   case c2=>intro u hu;simp at hu;subst hu;rfl
   case c3=>unfold maxLen;omega
   case c4=>omega
   case c5=>simp;omega
   ·intro v' w3 hown3 hgrow _
    have L3:Below w.heap.size w w3:=(L.alloc hBr _).grown hgrow (by simp;omega) (fun m h=>own_ge hown m h)
    rw[icells_snoc,←HS.out]at hown3
    clear hown hgrow
    go_wp2
    go_roundw
    case rel=>exact⟨j+1,by omega,by have:=HQ.out;go_num,hown3,L3⟩
    case measure=>simp[intOf]<;>omega
  ·obtain rfl:j=n:=by omega
   rw[Math.highP_all]at hown
   have e1:(j:Int)-1-j= -1:=by omega
   rw[e1]
   go_wp2
   go_ret
   exact⟨_,rfl,hown,L⟩

abbrev runsV:Value:= .agg #[.int .i64 256,.int .i64 279,.int .i64 7,.int .i64 0,.int .i64 0,.int .i64 143,.int .i64 8,.int .i64 48,.int .i64 280,.int .i64 287,.int .i64 8,.int .i64 192,.int .i64 144,.int .i64 255,.int .i64 9,.int .i64 400]

theorem run_at0 (w:World):(Instr.index 209 runsV (.int .i64 0)).run Tryz.prog w= .ok (.agg #[.int .i64 256,.int .i64 279,.int .i64 7,.int .i64 0]) w:=by
 simp[Instr.index,run_underlying Tryz.underlying209,asIntOf,part,go_sem]

theorem run_at1 (w:World):(Instr.index 209 runsV (.int .i64 1)).run Tryz.prog w= .ok (.agg #[.int .i64 0,.int .i64 143,.int .i64 8,.int .i64 48]) w:=by
 simp[Instr.index,run_underlying Tryz.underlying209,asIntOf,part,go_sem]

theorem run_at2 (w:World):(Instr.index 209 runsV (.int .i64 2)).run Tryz.prog w= .ok (.agg #[.int .i64 280,.int .i64 287,.int .i64 8,.int .i64 192]) w:=by
 simp[Instr.index,run_underlying Tryz.underlying209,asIntOf,part,go_sem]

theorem run_at3 (w:World):(Instr.index 209 runsV (.int .i64 3)).run Tryz.prog w= .ok (.agg #[.int .i64 144,.int .i64 255,.int .i64 9,.int .i64 400]) w:=by
 simp[Instr.index,run_underlying Tryz.underlying209,asIntOf,part,go_sem]

end Pk
end Go.Proofs.YtdcpjicgehdmfaaGreatDoor

/- The bits of a text, and the size of the least square: contracts of the model's helpers of Paint. -/
namespace Go.Proofs.YtdcpjicgehdmfaaGreatDoor
namespace Sq
open Go.ChangeShapes Go.WideShapes Go.ChangeAt Go.RowKit
open Pk (icells icells_length icells_append info_of info_int own_at own_new own_ge own_below)
set_option linter.unusedSimpArgs false
set_option linter.unusedVariables false

theorem own_pos {w:World} {base e size:Nat} {v:Value} {n:Nat} {xs:List Value} (h:w.ownsRow base e size v n xs) (hn:0<n):∃g cap,v= .slice (some ⟨g,0,none⟩) n cap:=by
 obtain⟨-,h2⟩:=h
 rcases h2 with⟨-,h0⟩|⟨g,cap,cur,h1,-⟩
 ·omega
 ·exact⟨g,cap,h1⟩

theorem own_news {w:World} {base e g n cap:Nat} {xs:List Value} (h:w.ownsRow base e 1 (.slice (some ⟨g,0,none⟩) n cap) n xs):∀j u,xs[j]? =some u→w.cell? (Addr.add ⟨g,0,none⟩ j)=some u:=by
 intro j u hu
 have hj:j<n:=by
  have h1:=h.1
  have:=(List.getElem?_eq_some_iff.1 hu).1
  omega
 obtain⟨g',cap',e1,-,-,u',hu',hc⟩:=own_at h j hj
 simp only[Value.slice.injEq,Option.some.injEq,Addr.mk.injEq]at e1
 rw[show Addr.add ⟨g,0,none⟩ j=⟨g,j,none⟩from by simp[Addr.add];exact Eq.symm,e1.1.1,hc,←hu',hu]

theorem icells_one (l:List Nat):∀u∈icells l,u.oneCell'=true:=by
 intro u hu
 obtain⟨b,-,rfl⟩:=List.mem_map.1 hu
 rfl

theorem icells_news (l:List Nat) (n:Nat) (h:l.length=n):(icells l).length=n*1:=by rw[icells_length];omega

def bitsL (l:List UInt8):List Nat:=l.flatMap fun b=>Math.highL b.toNat 8

theorem bitsL_snoc (l:List UInt8) (b:UInt8):bitsL (l++ [b])=bitsL l++Math.highL b.toNat 8:=by
 unfold bitsL
 rw[List.flatMap_append]
 simp

theorem bitsL_length (l:List UInt8):(bitsL l).length=8*l.length:=by
 induction l with
 |nil=>rfl
 |cons b l ih=>
  have:bitsL (b::l)=Math.highL b.toNat 8++bitsL l:=rfl
  rw[this,List.length_append,Math.highL_length,ih,List.length_cons]
  omega

set_option maxHeartbeats 1000000 in
theorem bits_val (s:ByteArray) (w:World) (hs:s.size≤1000):
 Calls Tryz.prog 57 #[.string s] w fun e w'=>∃v,e= .returned v∧w'.ownsRow w.heap.size 3 1 v (8*s.size) (icells (bitsL s.data.toList))∧Below w.heap.size w w':=by
 obtain⟨i0,hi,hz0,hz1,hz2⟩:=info_of info_int
 go_enter Tryz.func57,Tryz.ntmps57
 go_wp2
 go_loopw [3,4] (fun v i wr=>∃k:Nat,k≤s.size∧i= .int .i64 k∧wr.ownsRow w.heap.size 3 1 v (8*k) (icells (bitsL (s.data.toList.take k)))∧Hid (Below w.heap.size w wr)) (fun _ i _=>s.size-(intOf i).toNat)
 case atStart=>exact⟨0,by omega,rfl,own_new w _,Pk.new_below _ _⟩
 case round=>
  obtain⟨k,hk,rfl,O,L⟩:=hrel
  by_cases hlt:k<s.size
  ·have HN:Hid (bitsL (s.data.toList.take (k+1))=bitsL (s.data.toList.take k)++Math.highL s[k].toNat 8):=by
    show _=_
    rw[Math.take_snoc s k hlt,bitsL_snoc]
   have hb:=s[k].toNat_lt
   have HH:Hid (∀w,_):=fun w=>Pk.high_made s[k].toNat 8 w (by omega) (by omega)
   have HL:Hid ((Math.highL s[k].toNat 8).length=8):=Math.highL_length _ _
   generalize Math.highL s[k].toNat 8=F at*
   generalize bitsL (s.data.toList.take k)=G at*
   have z1:IntKind.i64.wrap (s[k].toNat:Int)=(s[k].toNat:Int):=by rw[IntKind.wrap_i64];omega
   go_wp2_with fail
   refine(HH.out _).mono ?_
   rintro e w3 ⟨vf,rfl,ownf,L3⟩
   obtain⟨gA,cpA,rfl⟩:=own_pos ownf (by omega)
   have OA:=own_below O L3 (Nat.le_refl _)
   have L4:=Pk.join_below L.out L3
   go_wp2_with (at_builtin;refine wpList_append_own _ rfl _ _ 24 rfl w.heap.size 3 i0 (.int .i64 0) 1 8 Tryz.underlying24 hi hz0 hz1 hz2 rfl (by decide) _ _ _ rfl OA ⟨gA,0,none⟩ 8 cpA (icells F) rfl ?pAa ?pAb (icells_one _) ?pAc ?pAd ?pAe ?_)
   case pAa=>exact icells_news _ _ HL.out
   case pAb=>exact own_news ownf
   case pAc=>unfold maxLen;omega
   case pAd=>omega
   case pAe=>exact L4.size
   intro vA xA ownA growA _
   have LLA:Below w.heap.size w xA:=L4.grown growA L4.size (fun m h=>own_ge OA m h)
   rw[icells_append,←HN.out]at ownA
   have e8:8*k+8=8*(k+1):=by omega
   rw[e8]at ownA
   clear growA e8
   go_wp2
   go_roundw
   case rel=>exact⟨k+1,by omega,by go_num,ownA,LLA⟩
   case measure=>simp[intOf];omega
  ·obtain rfl:k=s.size:=by omega
   have e1:s.data.toList.take s.size=s.data.toList:=Math.take_all s
   rw[e1]at O
   go_wp2
   go_ret
   exact⟨_,rfl,O,L.out⟩

def szFrom (n:Nat):Nat→Nat→Nat
 |0,h=>h
 |f+1,h=>if(2*h+1)*(2*h+1)<n+25 then szFrom n f (h+1)else h

def szH (n:Nat):Nat:=szFrom n 26 4

theorem szFrom_bd (n f h:Nat):h≤szFrom n f h∧szFrom n f h≤h+f:=by
 induction f generalizing h with
 |zero=>exact⟨Nat.le_refl _,Nat.le_refl _⟩
 |succ f ih=>
  unfold szFrom
  by_cases e:(2*h+1)*(2*h+1)<n+25
  ·rw[if_pos e]
   have:=ih (h+1)
   omega
  ·rw[if_neg e]
   omega

theorem szFrom_ge (n f h:Nat) (hf:n+25≤(2*(h+f)+1)*(2*(h+f)+1)):n+25≤(2*szFrom n f h+1)*(2*szFrom n f h+1):=by
 induction f generalizing h with
 |zero=>exact hf
 |succ f ih=>
  unfold szFrom
  by_cases e:(2*h+1)*(2*h+1)<n+25
  ·rw[if_pos e]
   exact ih (h+1) (by rw[show h+1+f=h+(f+1)from by omega];exact hf)
  ·rw[if_neg e]
   omega

theorem size_val (n:Nat) (w:World) (hn:n≤3400):
 Calls Tryz.prog 58 #[.int .i64 n] w fun e w'=>e= .returned (.int .i64 (2*(szH n:Int)+1))∧w'=w:=by
 have HV:Hid (szH n=szFrom n 26 4):=rfl
 generalize szH n=V at*
 go_enter Tryz.func58,Tryz.ntmps58
 go_wp2
 go_loop [3] (fun i=>∃h f:Nat,h+f=30∧4≤h∧i= .int .i64 (2*(h:Int)+1)∧Hid (V=szFrom n f h)) (fun i=>(61-intOf i).toNat)
 case atStart=>exact⟨4,26,by omega,by omega,by simp,HV⟩
 case round=>
  obtain⟨h,f,hhf,h4,rfl,H⟩:=hrel
  have hA:(2*(h:Int)+1)*(2*(h:Int)+1)=(((2*h+1)*(2*h+1):Nat):Int):=by
   rw[Int.natCast_mul]
   have:((2*h+1:Nat):Int)=2*(h:Int)+1:=by omega
   rw[this]
  have hA1:(2*h+1)*(2*h+1)≤61*61:=Nat.mul_le_mul (by omega) (by omega)
  by_cases hlt:(2*h+1)*(2*h+1)<n+25
  ·have hf0:f≠0:=by
    rintro rfl
    obtain rfl:h=30:=by omega
    omega
   obtain⟨f',rfl⟩:∃f',f=f'+1:=⟨f-1,by omega⟩
   have HN:Hid (V=szFrom n f' (h+1)):=by show _=_;rw[H.out,szFrom,if_pos hlt]
   generalize (2*h+1)*(2*h+1)=A at*
   go_wp2
   go_round
   case rel=>exact⟨h+1,f',by omega,by omega,by go_num,HN⟩
   case measure=>simp[intOf];omega
  ·have HN:Hid (V=h):=by
    show _=_
    rw[H.out]
    cases f with
    |zero=>rfl
    |succ f=>rw[szFrom,if_neg hlt]
   generalize (2*h+1)*(2*h+1)=A at*
   go_wp2
   go_ret
   exact⟨by rw[HN.out];rfl,rfl⟩

end Sq
end Go.Proofs.YtdcpjicgehdmfaaGreatDoor

/- What Paint makes: the mathematics. -/
namespace Go.Proofs.YtdcpjicgehdmfaaGreatDoor
namespace Sq
open Go.ChangeShapes Go.WideShapes Go.ChangeAt Go.RowKit
open Pk (icells)
set_option linter.unusedSimpArgs false
set_option linter.unusedVariables false

def lenS (n:Nat):ByteArray:=⟨#[UInt8.ofNat (n/256),UInt8.ofNat (n%256)]⟩

def bodyS (s:ByteArray):ByteArray:=lenS s.size++s++Num.wordS (Math.crc s.data.toList)

theorem bodyS_size (s:ByteArray):(bodyS s).size=s.size+6:=by
 unfold bodyS
 rw[ByteArray.size_append,ByteArray.size_append,Num.wordS_size]
 show 2+s.size+4=_
 omega

def bodyB (s:ByteArray):List Nat:=bitsL (bodyS s).data.toList

theorem bodyB_length (s:ByteArray):(bodyB s).length=8*(s.size+6):=by
 unfold bodyB
 rw[bitsL_length,Array.length_toList]
 show 8*(bodyS s).size=_
 rw[bodyS_size]

theorem bitsL_bit (l:List UInt8):∀b∈bitsL l,b=0∨b=1:=by
 intro b hb
 obtain⟨x,-,h⟩:=List.mem_flatMap.1 hb
 obtain⟨j,-,rfl⟩:=List.mem_map.1 h
 omega

def bitAt (s:ByteArray) (i:Nat):Nat:=(bodyB s).getD i 0

theorem bitAt_or (s:ByteArray) (i:Nat):bitAt s i=0∨bitAt s i=1:=by
 unfold bitAt
 rw[List.getD_eq_getElem?_getD]
 by_cases h:i<(bodyB s).length
 ·rw[List.getElem?_eq_getElem h]
  exact bitsL_bit _ _ (List.getElem_mem h)
 ·rw[List.getElem?_eq_none (by omega)]
  exact .inl rfl

def pSign (s:ByteArray) (k:Nat):UInt8:=if k<25 then tb hsS k else UInt8.ofNat (48+bitAt s (k-25))

theorem pSign_heart (s:ByteArray) (k:Nat) (h:k<25):((pSign s k).toNat:Int)=48+heartI (wx k) (wy k):=by
 unfold pSign
 rw[if_pos h,heart_tab k h]
 omega

theorem pSign_bit (s:ByteArray) (k:Nat) (h:¬k<25):(pSign s k).toNat=48+bitAt s (k-25):=by
 unfold pSign
 rw[if_neg h,UInt8.toNat_ofNat']
 rcases bitAt_or s (k-25)with e|e<;>rw[e]

theorem bitAt_end (s:ByteArray) (i:Nat) (h:¬i<8*(s.size+6)):bitAt s i=0:=by
 unfold bitAt
 rw[List.getD_eq_getElem?_getD,List.getElem?_eq_none (by rw[bodyB_length];omega)]
 rfl

def pH (s:ByteArray):Nat:=szH (8*(s.size+6))

theorem pH_bd (s:ByteArray):4≤pH s∧pH s≤30:=szFrom_bd _ 26 4

theorem pH_ge (s:ByteArray) (hs:s.size≤400):8*(s.size+6)+25≤(2*pH s+1)*(2*pH s+1):=szFrom_ge _ 26 4 (by omega)

def paintS (s:ByteArray):ByteArray:=strT ((2*pH s+1)*(2*pH s+1)) (fun j=>pSign s (kOf (cX (pH s) j) (cY (pH s) j)))

def pF (h:Nat) (g:Nat→UInt8) (k j:Nat):Value:=if kOf (cX h j) (cY h j)<k then .int .u8 ((g (kOf (cX h j) (cY h j))).toNat:Int)else .int .u8 48

theorem pF_zero (h:Nat) (g:Nat→UInt8) (j:Nat):pF h g 0 j= .int .u8 48:=by
 unfold pF
 rw[if_neg (by omega)]

theorem pF_step (h:Nat) (g:Nat→UInt8) (k:Nat) (hk:k<(2*h+1)*(2*h+1)) (j:Nat):pF h g (k+1) j=if j=idx h (wx k) (wy k)then .int .u8 ((g k).toNat:Int)else pF h g k j:=by
 obtain⟨a1,a2,a3,a4⟩:=dist_in (way_dist k h hk)
 unfold pF
 by_cases e:j=idx h (wx k) (wy k)
 ·rw[if_pos e]
  subst e
  rw[cX_idx a1 a2,cY_idx a1 a2 a3,kOf_way,if_pos (by omega)]
 ·rw[if_neg e]
  have hne:kOf (cX h j) (cY h j)≠k:=by
   intro hk
   obtain⟨w1,w2⟩:=way_kOf (cX h j) (cY h j)
   rw[hk]at w1 w2
   apply e
   rw[w1,w2,idx_of]
  by_cases hl:kOf (cX h j) (cY h j)<k
  ·rw[if_pos hl,if_pos (by omega)]
  ·rw[if_neg hl,if_neg (by omega)]

theorem pF_end (h:Nat) (g:Nat→UInt8) (j:Nat) (hj:j<(2*h+1)*(2*h+1)):pF h g ((2*h+1)*(2*h+1)) j= .int .u8 ((g (kOf (cX h j) (cY h j))).toNat:Int):=by
 unfold pF
 obtain⟨⟨a,b⟩,c,d⟩:=c_in hj
 rw[if_pos (kOf_lt (in_dist ⟨a,b⟩ ⟨c,d⟩))]

theorem own_Cl {w:World} {base e g n cap:Nat} {xs:List Value} {f:Nat→Value} (h:w.ownsRow base e 1 (.slice (some ⟨g,0,none⟩) n cap) n xs) (hf:∀j,j<n→xs[j]? =some (f j)):Cl w g n f:=by
 intro j hj
 have h':=h
 obtain⟨-,h2⟩:=h'
 obtain⟨g',cap',e1,-,-,u',hu',hc⟩:=Pk.own_at h j hj
 simp only[Value.slice.injEq,Option.some.injEq,Addr.mk.injEq]at e1
 refine⟨by rw[e1.1.1,hc,←hu',hf j hj],?_⟩
 rcases h2 with⟨hv,-⟩|⟨g2,cap2,cur,hv,-,hh,-⟩
 ·cases hv
 ·simp only[Value.slice.injEq,Option.some.injEq,Addr.mk.injEq]at hv
  rw[hv.1.1]
  exact Pk.frozen_at hh j

theorem conv2 (n:Nat) (hn:n≤400) (W:World) (g:Nat) (h0:W.cell? ⟨g,0,none⟩=some (.int .u8 ((n/256:Nat):Int))) (h1:W.cell? ⟨g,1,none⟩=some (.int .u8 ((n%256:Nat):Int))):
 (convert 58 9 (.slice (some ⟨g,0,none⟩) 2 2)).run Tryz.prog W= .ok (.string (lenS n)) W:=by
 refine run_convert_bytes_back W 58 9 5 ⟨g,0,none⟩ 2 [UInt8.ofNat (n/256),UInt8.ofNat (n%256)] Tryz.underlying58 Tryz.underlying5 Tryz.underlying9 ?_
 intro j hj
 rw[show Addr.add ⟨g,0,none⟩ j=⟨g,j,none⟩from by simp[Addr.add];exact Eq.symm]
 match j,hj with
 |0,_=>
  rw[h0]
  show _=some (Value.int .u8 ((UInt8.ofNat (n/256)).toNat:Int))
  rw[UInt8.toNat_ofNat',Nat.mod_eq_of_lt (by omega)]
 |1,_=>
  rw[h1]
  show _=some (Value.int .u8 ((UInt8.ofNat (n%256)).toNat:Int))
  rw[UInt8.toNat_ofNat',show n%256%2^8=n%256 from Nat.mod_mod n 256]

end Sq
end Go.Proofs.YtdcpjicgehdmfaaGreatDoor

/- Contract of the model's Paint. -/
namespace Go.Proofs.YtdcpjicgehdmfaaGreatDoor
namespace Sq
open Go.ChangeShapes Go.WideShapes Go.ChangeAt Go.RowKit
open Pk (icells)
set_option linter.unusedSimpArgs false
set_option linter.unusedVariables false

theorem own_base {w:World} {B base e size:Nat} {v:Value} {n:Nat} {xs:List Value} (h:w.ownsRow base e size v n xs) (hB:B≤base):w.ownsRow B e size v n xs:=by
 obtain⟨h1,h2⟩:=h
 refine⟨h1,?_⟩
 rcases h2 with h2|⟨g,cap,cur,hv,hg,hr⟩
 ·exact Or.inl h2
 ·exact Or.inr ⟨g,cap,cur,hv,by omega,hr⟩

theorem own_blk {w:World} {base e g n cap:Nat} {xs:List Value} (h:w.ownsRow base e 1 (.slice (some ⟨g,0,none⟩) n cap) n xs):∃cur:Array Value,w.heap[g]? =some (.cells cur e)∧cur.toList.take n=xs∧base≤g:=by
 obtain⟨-,h2⟩:=h
 rcases h2 with⟨hv,-⟩|⟨g2,cap2,cur,hv,hb,hh,-,-,-,ht⟩
 ·cases hv
 ·simp only[Value.slice.injEq,Option.some.injEq,Addr.mk.injEq]at hv
  rw[hv.1.1]
  exact⟨cur,hh,by rw[←ht,Nat.mul_one],hb⟩

theorem bits_cell {w:World} {g n:Nat} {cur:Array Value} {t:TypeId} {l:List Nat} (h:w.heap[g]? =some (.cells cur t)) (ht:cur.toList.take n=icells l) (hl:l.length=n) (i:Nat) (hi:i<n):w.cell? ⟨g,i,none⟩=some (.int .i64 ((l.getD i 0:Nat):Int)):=by
 rw[Pk.cell_at h i]
 have h1:(cur.toList.take n)[i]? =(icells l)[i]? :=by rw[ht]
 rw[List.getElem?_take_of_lt hi,Array.getElem?_toList]at h1
 rw[h1]
 unfold icells
 rw[List.getElem?_map,List.getD_eq_getElem?_getD,List.getElem?_eq_getElem (by omega)]
 rfl

theorem bcells_rep (k:Nat):Pk.bcells (List.replicate k 48)++ [.int .u8 48]=Pk.bcells (List.replicate (k+1) 48):=by
 rw[List.replicate_succ']
 simp[Pk.bcells]

theorem rep_at (k j:Nat) (h:j<k):(Pk.bcells (List.replicate k 48))[j]? =some (.int .u8 48):=by
 unfold Pk.bcells
 rw[List.getElem?_map,List.getElem?_replicate,if_pos h]
 rfl

theorem Box.grown {w w1:World} {o:Option Nat} {b:Nat} {n:Int} {s:ByteArray} (h:Box w b n s) (G:w.grownBy w1 o) (hne:some b≠o):Box w1 b n s:=by
 unfold Box at*
 rw[G.block b (Pk.lt_of h) hne]
 exact h

set_option maxHeartbeats 8000000 in
set_option maxRecDepth 100000 in
theorem specPaint_ok (s:ByteArray) (w:World) (hs:s.size≤400):
 Calls Tryz.prog 35 #[.string s] w fun e w'=>e= .returned (.tuple #[sqV (2*(pH s:Int)+1) (paintS s),.bool true])∧Below w.heap.size w w':=by
 have hcv:=conv2 s.size hs
 have HC:Hid (∀w,_):=fun w=>Num.specCheckSum_any s w (by unfold maxLen;omega)
 have HWd:Hid (∀w,_):=fun w=>Num.specWordText_any (Math.crc s.data.toList) w (Math.crc_lt _)
 have hbz:=bodyS_size s
 have HB:Hid (∀w,Calls Tryz.prog 57 #[.string (lenS s.size++s++Num.wordS (Math.crc s.data.toList))] w fun e w'=>∃v,e= .returned v∧w'.ownsRow w.heap.size 3 1 v (8*(s.size+6)) (icells (bodyB s))∧Below w.heap.size w w'):=by
  intro w
  have:=bits_val (bodyS s) w (by omega)
  rw[hbz]at this
  exact this
 have m0:Box (w.alloc (.cells #[.int .i64 0,.string ⟨#[]⟩] 39)) w.heap.size 0 ⟨#[]⟩:=Pk.heap_new w _
 have N:=Pk.new_below w (.cells #[.int .i64 0,.string ⟨#[]⟩] 39)
 have h1:Int.tdiv (s.size:Int) 256=((s.size/256:Nat):Int):=by rw[Int.tdiv_eq_ediv_of_nonneg (by omega)];omega
 have h2:Int.tmod (s.size:Int) 256=((s.size%256:Nat):Int):=by rw[Int.tmod_eq_emod_of_nonneg (by omega)];omega
 have h3:s.size/256≤1:=by omega
 have h4:s.size%256≤255:=by omega
 have hl2:(lenS s.size).size=2:=rfl
 have hl4:(Num.wordS (Math.crc s.data.toList)).size=4:=rfl
 have HSz:Hid (∀w,_):=fun w=>size_val (8*(s.size+6)) w (by omega)
 rw[show szH (8*(s.size+6))=pH s from rfl]at HSz
 obtain⟨hp4,hp30⟩:=pH_bd s
 have HGe:Hid (_):=pH_ge s hs
 have HP:Hid (paintS s=strT ((2*pH s+1)*(2*pH s+1)) (fun j=>pSign s (kOf (cX (pH s) j) (cY (pH s) j)))):=rfl
 have HBl:Hid ((bodyB s).length=8*(s.size+6)):=bodyB_length s
 have HEnd:Hid (∀i,¬i<8*(s.size+6)→bitAt s i=0):=fun i h=>bitAt_end s i h
 have HM1:(2*pH s+1)*(2*pH s+1)≤61*61:=Nat.mul_le_mul (by omega) (by omega)
 have hnb:8*(s.size+6)≤3400:=by omega
 have hnb0:0<8*(s.size+6):=by omega
 have hA:(2*(pH s:Int)+1)*(2*(pH s:Int)+1)=(((2*pH s+1)*(2*pH s+1):Nat):Int):=by
  rw[Int.natCast_mul]
  have:((2*pH s+1:Nat):Int)=2*(pH s:Int)+1:=by omega
  rw[this]
 generalize 8*(s.size+6)=nb at*
 generalize paintS s=PS at*
 generalize pH s=h at*
 have HMd:Hid ((2*h+1)*(2*h+1)=(2*h+1)*(2*h+1)):=rfl
 generalize hM:(2*h+1)*(2*h+1)=M at*
 have hge:=HGe.out
 generalize s.size/256=hi at*
 generalize s.size%256=lo at*
 generalize lenS s.size=S2 at*
 generalize Num.wordS (Math.crc s.data.toList)=S4 at*
 generalize Math.crc s.data.toList=C at*
 have hcA:∀X:World,(convert 58 9 (.slice (some ⟨X.heap.size,0,none⟩) 2 2)).run Tryz.prog (X.alloc (.cells #[.int .u8 (hi:Int),.int .u8 (lo:Int)] 5))= .ok (.string S2) (X.alloc (.cells #[.int .u8 (hi:Int),.int .u8 (lo:Int)] 5)):=fun X=>hcv _ _ (Pk.cell_at (Pk.heap_new X _) 0) (Pk.cell_at (Pk.heap_new X _) 1)
 have hcB:∀X:World,(convert 58 9 (.slice (some ⟨X.heap.size,0,none⟩) 2 2)).run Tryz.prog (X.alloc (.cells #[.int .u8 (hi:Int),.int .u8 (lo:Int)] 5)).drew= .ok (.string S2) (X.alloc (.cells #[.int .u8 (hi:Int),.int .u8 (lo:Int)] 5)).drew:=fun X=>hcv _ _ (Pk.cell_at (Pk.heap_new X _) 0) (Pk.cell_at (Pk.heap_new X _) 1)
 have z1:IntKind.i64.wrap (hi:Int)=hi:=by rw[IntKind.wrap_i64];omega
 have z2:IntKind.u8.wrap (hi:Int)=hi:=by rw[IntKind.wrap_u8];omega
 have z3:IntKind.u8.wrap (lo:Int)=lo:=by rw[IntKind.wrap_u8];omega
 have HCV:Hid (∀(X:World) (g:Nat),_):=hcv
 clear hcv
 unfold sqV
 go_enter Tryz.func35,Tryz.ntmps35
 go_wp2
 generalize w.alloc (.cells #[.int .i64 0,.string ⟨#[]⟩] 39)=W at*
 go_cut [4]from 12 (fun v wc=>wc.ownsRow w.heap.size 3 1 v nb (icells (bodyB s))∧Box wc w.heap.size 0 ⟨#[]⟩∧Below w.heap.size w wc)
 case first=>
  go_region_with (first
   |(go_at_call 34;refine(HC.out _).mono ?_;rintro e x0 ⟨rfl,rfl⟩)
   |(go_at_call 33;refine(HWd.out _).mono ?_;rintro e x1 ⟨rfl,-,L1⟩;(first|(have hcC:=HCV.out x1 W.heap.size (by rw[L1.cell (by simp)];exact Pk.cell_at (Pk.heap_new W _) 0) (by rw[L1.cell (by simp)];exact Pk.cell_at (Pk.heap_new W _) 1))|skip);have K1:Below W.heap.size W x1:=(by first|exact((Below.refl W.heap.size W).trans (L1.mono (by simp)))|exact(((Below.refl W.heap.size W).drew).trans (L1.mono (by simp)))|exact((((Below.refl W.heap.size W).alloc (Nat.le_refl _) _)).trans (L1.mono (by simp)))|exact((((Below.refl W.heap.size W).alloc (Nat.le_refl _) _).drew).trans (L1.mono (by simp)))))
   |(go_at_call 57;refine(HB.out _).mono ?_;rintro e x2 ⟨v,rfl,O,L2⟩;have K2:Below W.heap.size W x2:=(by first|exact K1.trans (L2.mono K1.size)|exact K1.drew.trans (L2.mono K1.size)|exact(K1.alloc K1.size _).trans (L2.mono (by simp;have:=K1.size;omega))|exact((K1.alloc K1.size _).drew).trans (L2.mono (by simp;have:=K1.size;omega)));have O2:=own_base O (show w.heap.size≤_ from by have:=K1.size;have:=N.size;simp;omega)))
  all_goals
   go_wp2
   go_meet
   case rel=>exact⟨O2,m0.on K2,Pk.join_below N K2⟩
 case rest=>
  clear HB HC HWd HCV hcA hcB h1 h2 h3 h4 hl2 hl4 z1 z2 z3 m0 N hbz
  obtain⟨O,m1,N1⟩:=hcut
  obtain⟨gB,cB,rfl⟩:=own_pos O (by omega)
  obtain⟨cur,mB,tB,hB1⟩:=own_blk O
  clear O hi lo S2 S4 C
  obtain⟨i0,hi,hz0,hz1,hz2⟩:=Pk.info_of info_u8
  have N2:=Pk.new_below wc (.cells #[] 5)
  have O2:=own_base (Pk.own_new wc 5) N1.size
  have m2:=m1.on N2
  have mB2:=Pk.kept N2 (Pk.lt_of mB) mB
  have N3:=Pk.join_below N1 N2
  go_wp2_with fail
  refine(HSz.out _).mono ?_
  rintro e w3 ⟨rfl,rfl⟩
  clear N1 N2 m1 mB
  go_wp2
  generalize w3.alloc (.cells #[] 5)=w4 at*
  generalize w3.heap.size=g0 at*
  go_loopw [6,7] (fun v i wr=>∃k:Nat,k≤M∧i= .int .i64 k∧wr.ownsRow w.heap.size 5 1 v k (Pk.bcells (List.replicate k 48))∧wr.heap[gB]? =some (.cells cur 3)∧Box wr w.heap.size 0 ⟨#[]⟩∧Hid (Below w.heap.size w wr)) (fun _ i _=>M-(intOf i).toNat)
  case atStart=>exact⟨0,by omega,rfl,O2,mB2,m2,N3⟩
  case round=>
   clear O2 mB2 m2 N3
   obtain⟨k,hk,rfl,O,mB,m1,L⟩:=hrel
   by_cases hlt:k<M
   ·have hneB:some gB≠u6.ownBlock:=Pk.own_ne O mB (by decide)
    have hneR:some w.heap.size≠u6.ownBlock:=Pk.own_ne O m1 (by decide)
    have hBr:w.heap.size≤wr.heap.size:=L.out.size
    go_wp2_with (at_builtin;refine wpList_append_own _ rfl _ _ 58 rfl w.heap.size 5 i0 (.int .u8 0) 1 1 Tryz.underlying58 hi hz0 hz1 hz2 rfl (by decide) _ _ _ rfl (O.alloc _) ⟨wr.heap.size,0,none⟩ 1 1 [.int .u8 48] rfl rfl ?c1 ?c2 ?c3 ?c4 ?c5 ?_)
    case c1=>exact cell_one_new _ _ _
    case c2=>intro u hu;simp at hu;subst hu;rfl
    case c3=>unfold maxLen;omega
    case c4=>omega
    case c5=>simp;omega
    intro v' w5 own5 grow5 _
    have L5:Below w.heap.size w w5:=(L.out.alloc hBr _).grown grow5 (by simp;omega) (fun m h=>Pk.own_ge O m h)
    have mB5:w5.heap[gB]? =some (.cells cur 3):=by
     have:=Pk.heap_old mB (.cells #[.int .u8 48] 5)
     rw[grow5.block gB (Pk.lt_of this) hneB]
     exact this
    have m5:Box w5 w.heap.size 0 ⟨#[]⟩:=Box.grown (Pk.heap_old m1 (.cells #[.int .u8 48] 5)) grow5 hneR
    rw[bcells_rep]at own5
    clear grow5
    go_wp2
    go_roundw
    case rel=>exact⟨k+1,by omega,by go_num,own5,mB5,m5,L5⟩
    case measure=>simp[intOf];omega
   ·obtain rfl:k=M:=by omega
    obtain⟨g,cap,rfl⟩:=own_pos O (by omega)
    obtain⟨cur2,mg,-,hgw⟩:=own_blk O
    have hBg:gB≠g:=by
     rintro rfl
     rw[mB]at mg
     simp at mg
    have hRg:w.heap.size≠g:=by
     rintro rfl
     unfold Box at m1
     rw[m1]at mg
     simp at mg
    have C0:Cl wr g k (pF h (pSign s) 0):=own_Cl O (fun j hj=>by rw[pF_zero];exact rep_at k j hj)
    have R0:=Run.start L.out (Pk.lt_of mg) hgw C0
    have m6:=m1
    have mB6:=mB
    clear m1 mB O mg C0 L
    go_wp2
    go_loopw [8] (fun i wr'=>∃q:Nat,q≤k∧i= .int .i64 q∧Run w.heap.size w wr wr' g k (pF h (pSign s) q)) (fun i _=>k-(intOf i).toNat)
    case atStart=>exact⟨0,by omega,rfl,R0⟩
    case round=>
     clear R0
     obtain⟨q,hq,rfl,R⟩:=hrel
     by_cases hlq:q<k
     ·obtain⟨a1,a2,a3,a4⟩:=dist_in (way_dist q h (by omega))
      have J2:idx h (wx q) (wy q)<k:=by rw[←hM];exact idx_lt a1 a2 a3 a4
      have X1:Hid (∀w,_):=fun w=>specSpiral_val q w
      rw[spX_in q (by omega),spY_in q (by omega)]at X1
      have X2:Hid (∀w,_):=fun w=>place_val h (wx q) (wy q) w hp30 a1 a2 a3 a4
      have XS:Hid (∀j,j<k→_):=fun j _=>pF_step h (pSign s) q (by omega) j
      have hk1:(0:Int)≤(idx h (wx q) (wy q):Int):=by omega
      have hk2:(idx h (wx q) (wy q):Int)<(k:Int):=by omega
      by_cases h25:q<25
      ·obtain⟨b1,b2,b3,b4⟩:=dist_in (way_dist q 2 (by omega))
       have X3:Hid (∀w,_):=fun w=>heart_val (wx q) (wy q) w b1 b2 b3 b4
       have hh:heartI (wx q) (wy q)=0∨heartI (wx q) (wy q)=1:=by
        unfold heartI
        split
        ·exact .inl rfl
        ·exact .inr rfl
       rw[pSign_heart s q h25]at XS
       clear b1 b2 b3 b4 a1 a2 a3 a4
       generalize heartI (wx q) (wy q)=b at*
       generalize idx h (wx q) (wy q)=i2 at*
       generalize wx q=x at*
       generalize wy q=y at*
       go_wp2_with fail
       refine(X1.out _).mono ?_
       rintro e w5 ⟨rfl,rfl⟩
       go_wp2_with fail
       refine(X3.out _).mono ?_
       rintro e w6 ⟨rfl,L6⟩
       replace R:=R.on L6
       have J2':=J2
       have r0:=(R.row i2 J2).1
       have r1:=(R.row i2 J2).2
       go_wp2_with fail
       refine(X2.out _).mono ?_
       rintro e w7 ⟨rfl,rfl⟩
       go_wp2
       go_roundw
       case rel=>exact⟨q+1,by omega,by go_num,R.set i2 _ XS.out⟩
       case measure=>simp[intOf];omega
      ·obtain⟨m,rfl⟩:∃m,q=m+25:=⟨q-25,by omega⟩
       have hps:=pSign_bit s (m+25) h25
       rw[Nat.add_sub_cancel]at hps
       have hps2:((pSign s (m+25)).toNat:Int)=48+(bitAt s m:Int):=by omega
       rw[hps2]at XS
       have hbo:=bitAt_or s m
       have hbb:bitAt s m≤1:=by omega
       clear hps hps2 a1 a2 a3 a4 hbo
       by_cases hmb:m<nb
       ·have hcb:wr.cell? ⟨gB,m,none⟩=some (.int .i64 (bitAt s m:Int)):=bits_cell (R.keep mB6 hBg) tB HBl.out m hmb
        generalize bitAt s m=b at*
        generalize idx h (wx (m+25)) (wy (m+25))=i2 at*
        generalize wx (m+25)=x at*
        generalize wy (m+25)=y at*
        go_wp2_with fail
        refine(X1.out _).mono ?_
        rintro e w5 ⟨rfl,rfl⟩
        have J2':=J2
        have r0:=(R.row i2 J2).1
        have r1:=(R.row i2 J2).2
        go_wp2_with fail
        refine(X2.out _).mono ?_
        rintro e w7 ⟨rfl,rfl⟩
        go_wp2
        go_roundw
        case rel=>exact⟨m+25+1,by omega,by go_num,R.set i2 _ XS.out⟩
        case measure=>simp[intOf];omega
       ·rw[HEnd.out m hmb]at XS
        generalize idx h (wx (m+25)) (wy (m+25))=i2 at*
        generalize wx (m+25)=x at*
        generalize wy (m+25)=y at*
        go_wp2_with fail
        refine(X1.out _).mono ?_
        rintro e w5 ⟨rfl,rfl⟩
        have J2':=J2
        have r0:=(R.row i2 J2).1
        have r1:=(R.row i2 J2).2
        go_wp2_with fail
        refine(X2.out _).mono ?_
        rintro e w7 ⟨rfl,rfl⟩
        go_wp2
        go_roundw
        case rel=>exact⟨m+25+1,by omega,by go_num,R.set i2 _ XS.out⟩
        case measure=>simp[intOf];omega
     ·obtain rfl:q=k:=by omega
      have HEN:∀j,j<q→pF h (pSign s) q j= .int .u8 ((pSign s (kOf (cX h j) (cY h j))).toNat:Int):=fun j hj=>by
       rw[←hM]
       exact pF_end h (pSign s) j (by omega)
      have hcv:=R.row.text (cap:=cap) HEN
      rw[←HP.out]at hcv
      have M':Box wr w.heap.size 0 ⟨#[]⟩:=R.keep m6 hRg
      have d0:=M'.n
      have d1:=M'.s
      have f0:=M'.f 0
      have f1:=M'.f 1
      have LL:=R.below
      clear HEN
      go_wp2
      refine bodyPost_ret (v:= .tuple #[.agg #[.int .i64 (2*(h:Int)+1),.string PS],.bool true]) (by simp[results,Tryz.results35,go_sem,d0,d1]) rfl ?_
      exact⟨rfl,(LL.setCell (Nat.le_refl _) _).setCell (Nat.le_refl _) _⟩

def pnV (s:ByteArray):Int:=if s.size≤400 then 2*(pH s:Int)+1 else 0

def ptV (s:ByteArray):ByteArray:=if s.size≤400 then paintS s else⟨#[]⟩

theorem specPaint_val (s:ByteArray) (w:World) (hs:s.size≤maxLen):
 Calls Tryz.prog 35 #[.string s] w fun e w'=>e= .returned (.tuple #[sqV (pnV s) (ptV s),.bool (decide (s.size≤400))])∧Below w.heap.size w w':=by
 unfold pnV ptV
 by_cases h:s.size≤400
 ·rw[if_pos h,if_pos h,decide_eq_true h]
  exact specPaint_ok s w h
 ·rw[if_neg h,if_neg h,decide_eq_false h]
  unfold maxLen at hs
  have N:=Pk.new_below w (.cells #[.int .i64 0,.string ⟨#[]⟩] 39)
  have hd:decide ((400:Int)<(s.size:Int))=true:=decide_eq_true (by omega)
  unfold sqV
  go_enter Tryz.func35,Tryz.ntmps35
  go_wp2
  refine bodyPost_ret (v:= .tuple #[.agg #[.int .i64 0,.string ⟨#[]⟩],.bool false]) (by simp[results,Tryz.results35,go_sem]) rfl ?_
  exact⟨rfl,N⟩

end Sq
end Go.Proofs.YtdcpjicgehdmfaaGreatDoor

/- The helpers of the program's Paint (begun). -/
namespace Go.Proofs.YtdcpjicgehdmfaaGreatDoor
namespace Sq
open Go.ChangeShapes Go.WideShapes Go.ChangeAt Go.RowKit
set_option linter.unusedSimpArgs false
set_option linter.unusedVariables false

theorem sizeFor_val (n:Nat) (w:World) (hn:n≤3400):
 Calls Tryz.prog 73 #[.int .i64 ((n:Int)+25)] w fun e w'=>e= .returned (.int .i64 (2*(szH n:Int)+1))∧w'=w:=by
 have HV:Hid (szH n=szFrom n 26 4):=rfl
 generalize szH n=V at*
 go_enter Tryz.func73,Tryz.ntmps73
 go_wp2
 go_loop [3] (fun i=>∃h f:Nat,h+f=30∧4≤h∧i= .int .i64 (2*(h:Int)+1)∧Hid (V=szFrom n f h)) (fun i=>(61-intOf i).toNat)
 case atStart=>exact⟨4,26,by omega,by omega,by simp,HV⟩
 case round=>
  obtain⟨h,f,hhf,h4,rfl,H⟩:=hrel
  have hA:(2*(h:Int)+1)*(2*(h:Int)+1)=(((2*h+1)*(2*h+1):Nat):Int):=by
   rw[Int.natCast_mul]
   have:((2*h+1:Nat):Int)=2*(h:Int)+1:=by omega
   rw[this]
  have hA1:(2*h+1)*(2*h+1)≤61*61:=Nat.mul_le_mul (by omega) (by omega)
  by_cases hlt:(2*h+1)*(2*h+1)<n+25
  ·have hf0:f≠0:=by
    rintro rfl
    obtain rfl:h=30:=by omega
    omega
   obtain⟨f',rfl⟩:∃f',f=f'+1:=⟨f-1,by omega⟩
   have HN:Hid (V=szFrom n f' (h+1)):=by show _=_;rw[H.out,szFrom,if_pos hlt]
   generalize (2*h+1)*(2*h+1)=A at*
   go_wp2
   go_round
   case rel=>exact⟨h+1,f',by omega,by omega,by go_num,HN⟩
   case measure=>simp[intOf];omega
  ·have HN:Hid (V=h):=by
    show _=_
    rw[H.out]
    cases f with
    |zero=>rfl
    |succ f=>rw[szFrom,if_neg hlt]
   generalize (2*h+1)*(2*h+1)=A at*
   go_wp2
   go_ret
   exact⟨by rw[HN.out];rfl,rfl⟩

theorem word_len (n:Nat):(Num.wordS n).extract 2 4=lenS n:=by
 unfold Num.wordS lenS
 have e:UInt8.ofNat (n%256)=UInt8.ofNat n:=by
  apply UInt8.toNat_inj.1
  rw[UInt8.toNat_ofNat',UInt8.toNat_ofNat']
  omega
 rw[e]
 rfl

set_option maxHeartbeats 4000000 in
theorem bodyOf_val (s:ByteArray) (w:World) (hs:s.size≤400):
 Calls Tryz.prog 72 #[.string s] w fun e w'=>e= .returned (.string (bodyS s))∧Below w.heap.size w w':=by
 have HC:Hid (∀w,_):=fun w=>Num.implCheckSum_any s w (by unfold maxLen;omega)
 have HW1:Hid (∀w,_):=fun w=>Num.implWordText_any s.size w (by omega)
 have HW2:Hid (∀w,_):=fun w=>Num.implWordText_any (Math.crc s.data.toList) w (Math.crc_lt _)
 have HX:=word_len s.size
 have z0:IntKind.u32.wrap (s.size:Int)=(s.size:Int):=by rw[IntKind.wrap_u32];omega
 have hl4:(Num.wordS s.size).size=4:=rfl
 have hl2:(lenS s.size).size=2:=rfl
 have hl5:(Num.wordS (Math.crc s.data.toList)).size=4:=rfl
 unfold bodyS
 generalize Num.wordS s.size=S1 at*
 generalize Num.wordS (Math.crc s.data.toList)=S4 at*
 generalize lenS s.size=S2 at*
 generalize Math.crc s.data.toList=C at*
 go_enter Tryz.func72,Tryz.ntmps72
 go_wp2
 go_region_with (first
  |(go_at_call 47;refine(HC.out _).mono ?_;rintro e x0 ⟨rfl,rfl⟩)
  |(go_at_call 46;(with_reducible refine(HW1.out _).mono ?_);rintro e x1 ⟨rfl,-,L1⟩;have K1:Below w.heap.size w x1:=(by first|exact L1|exact((Below.refl _ _).drew).trans L1))
  |(go_at_call 46;(with_reducible refine(HW2.out _).mono ?_);rintro e x2 ⟨rfl,-,L2⟩;have K2:=Pk.join_below K1 L2))
 all_goals
  go_wp2
  go_ret
  exact⟨rfl,K2⟩

end Sq
end Go.Proofs.YtdcpjicgehdmfaaGreatDoor

/- The program's signsOf: a text's bits as signs. -/
namespace Go.Proofs.YtdcpjicgehdmfaaGreatDoor
namespace Sq
open Go.ChangeShapes Go.WideShapes Go.ChangeAt Go.RowKit
set_option linter.unusedSimpArgs false
set_option linter.unusedVariables false

theorem and_one_u8 (a:Nat) (ha:a<256):bits .and .u8 (a:Int) 1=((a%2:Nat):Int):=by
 have h1:(BitVec.ofInt 8 (a:Int)).toNat=a:=by
  rw[BitVec.ofInt_natCast,BitVec.toNat_ofNat];exact Nat.mod_eq_of_lt (by omega)
 show IntKind.u8.wrap ((BitVec.ofInt 8 (a:Int)&&&BitVec.ofInt 8 1).toNat:Int)=_
 rw[BitVec.toNat_and,h1]
 show IntKind.u8.wrap ((a&&&1:Nat):Int)=_
 rw[Nat.and_one_is_mod,IntKind.wrap_u8]
 omega

def sgn (l:List Nat):List UInt8:=l.map fun b=>UInt8.ofNat (48+b)

theorem sgn_snoc (l:List Nat) (b:Nat):sgn (l++ [b])=sgn l++ [UInt8.ofNat (48+b)]:=by unfold sgn;simp

theorem sgn_append (l m:List Nat):sgn (l++m)=sgn l++sgn m:=by unfold sgn;simp

theorem bcells_snoc1 (l:List UInt8) (b:Nat) (hb:b≤1):Pk.bcells l++ [.int .u8 (48+(b:Int))]=Pk.bcells (l++ [UInt8.ofNat (48+b)]):=by
 unfold Pk.bcells
 rw[List.map_append,List.map_cons,List.map_nil,UInt8.toNat_ofNat',Nat.mod_eq_of_lt (by omega)]
 congr 3

set_option maxHeartbeats 2000000 in
theorem signsOf_val (s:ByteArray) (w:World) (hs:s.size≤1000):
 Calls Tryz.prog 71 #[.string s] w fun e w'=>e= .returned (.string ⟨(sgn (bitsL s.data.toList)).toArray⟩)∧Below w.heap.size w w':=by
 obtain⟨i0,hi,hz0,hz1,hz2⟩:=Pk.info_of info_u8
 obtain⟨w1,hmk,O1,G1⟩:=run_make_own (P:=Tryz.prog) w w.heap.size 58 5 i0 (.int .u8 0) 1 Tryz.underlying58 hi hz0 hz1 .i64 .i64 (8*s.size) (by rw[hz2];omega) (by unfold maxLen;omega) (Nat.le_refl _)
 have e8:((8*s.size:Nat):Int)=8*(s.size:Int):=by omega
 rw[e8]at hmk
 have L1:Below w.heap.size w w1:=(Below.refl _ _).grown G1 (Nat.le_refl _) (by intro k hk;cases hk)
 clear e8 G1
 go_enter Tryz.func71,Tryz.ntmps71
 go_wp2
 go_loopw [3,12] (fun v i wr=>∃k:Nat,k≤s.size∧i= .int .i64 k∧wr.ownsRow w.heap.size 5 1 v (8*k) (Pk.bcells (sgn (bitsL (s.data.toList.take k))))∧Hid (Below w.heap.size w wr)) (fun _ i _=>s.size-(intOf i).toNat)
 case atStart=>exact⟨0,by omega,rfl,O1,L1⟩
 case round=>
  clear O1 L1 hmk
  obtain⟨k,hk,rfl,O,L⟩:=hrel
  by_cases hlt:k<s.size
  ·have HN:Hid (sgn (bitsL (s.data.toList.take (k+1)))=sgn (bitsL (s.data.toList.take k))++sgn (Math.highP s[k].toNat 8 8)):=by
    show _=_
    rw[Math.take_snoc s k hlt,bitsL_snoc,sgn_append,Math.highP_all]
   have hb:=s[k].toNat_lt
   generalize sgn (bitsL (s.data.toList.take k))=G at*
   go_wp2
   go_loopw [3,5] (fun v i wr=>∃j:Nat,j≤8∧i= .int .i64 (7-(j:Int))∧wr.ownsRow w.heap.size 5 1 v (8*k+j) (Pk.bcells (G++sgn (Math.highP s[k].toNat 8 j)))∧Hid (Below w.heap.size w wr)) (fun _ i _=>(intOf i+1).toNat)
   case atStart=>
    refine⟨0,by omega,by simp,?_,L⟩
    have e0:G++sgn (Math.highP s[k].toNat 8 0)=G:=by simp[Math.highP,sgn]
    rw[e0]
    exact O
   case round=>
    clear O L
    obtain⟨j,hj,rfl,O,L⟩:=hrel
    by_cases hj8:j<8
    ·have e1:7-(j:Int)=((7-j:Nat):Int):=by omega
     have HS:Hid (Math.highP s[k].toNat 8 (j+1)=Math.highP s[k].toNat 8 j++ [s[k].toNat/2^(7-j)%2]):=Math.highP_succ _ _ _
     have HQ:Hid ((7-j:Nat)+j=7):=by show _=_;omega
     have hzb:s[k].toNat/2^(7-j)≤s[k].toNat:=Nat.div_le_self _ _
     have hand:=and_one_u8 (s[k].toNat/2^(7-j)) (by omega)
     have hcast:(s[k].toNat:Int)/2^(7-j)=((s[k].toNat/2^(7-j):Nat):Int):=by simp
     have hb1:s[k].toNat/2^(7-j)%2≤1:=by omega
     have HO:Hid (∀b,b≤1→_):=fun b hb=>bcells_snoc1 (G++sgn (Math.highP s[k].toNat 8 j)) b hb
     have hq7:(7-j:Nat)≤7:=by omega
     rw[e1]
     clear e1
     generalize s[k].toNat/2^(7-j)=z at*
     generalize z%2=b at*
     generalize 7-j=q at*
     have hBr:w.heap.size≤wr.heap.size:=L.out.size
     go_wp2_with (at_builtin;refine wpList_append_own _ rfl _ _ 58 rfl w.heap.size 5 i0 (.int .u8 0) 1 1 Tryz.underlying58 hi hz0 hz1 hz2 rfl (by decide) _ _ _ rfl (O.alloc _) ⟨wr.heap.size,0,none⟩ 1 1 [.int .u8 (48+(b:Int))] rfl rfl ?c1 ?c2 ?c3 ?c4 ?c5 ?_)
     case c1=>exact cell_one_new _ _ _
     case c2=>intro u hu;simp at hu;subst hu;rfl
     case c3=>unfold maxLen;omega
     case c4=>omega
     case c5=>simp;omega
     intro v' w5 own5 grow5 _
     have L5:Below w.heap.size w w5:=(L.out.alloc hBr _).grown grow5 (by simp;omega) (fun m h=>Pk.own_ge O m h)
     rw[HO.out b hb1,List.append_assoc,←sgn_snoc,←HS.out]at own5
     clear grow5
     go_wp2
     go_roundw
     case rel=>exact⟨j+1,by omega,by have:=HQ.out;go_num,own5,L5⟩
     case measure=>simp[intOf]<;>omega
    ·obtain rfl:j=8:=by omega
     rw[←HN.out]at O
     have e9:8*k+8=8*(k+1):=by omega
     rw[e9]at O
     clear e9
     go_wp2
     go_roundw
     case rel=>exact⟨k+1,by omega,by go_num,O,L⟩
     case measure=>simp[intOf]<;>omega
  ·obtain rfl:k=s.size:=by omega
   rw[Math.take_all s]at O
   have hcv:=Pk.conv_own O
   have LL:=L.out
   go_wp2
   go_ret
   exact⟨rfl,LL⟩

end Sq
end Go.Proofs.YtdcpjicgehdmfaaGreatDoor

/- bytes.Repeat of one byte. -/
namespace Go.Proofs.YtdcpjicgehdmfaaGreatDoor
namespace Sq
open Go.ChangeShapes Go.WideShapes Go.ChangeAt Go.RowKit
set_option linter.unusedSimpArgs false
set_option linter.unusedVariables false

theorem mask_n (n:Nat) (hn:n≤4000):bits .and .u64 (n:Int) 4294967295=(n:Int):=by
 have h:=bits_and_u64_nat n 4294967295 (by omega) (by omega)
 have e:n&&&4294967295=n%4294967296:=Nat.and_two_pow_sub_one_eq_mod n 32
 rw[e,Nat.mod_eq_of_lt (by omega)]at h
 exact h

set_option maxHeartbeats 2000000 in
theorem mul64_one (n:Nat) (w:World) (hn:n≤4000):
 Calls Tryz.prog 138 #[.int .u64 1,.int .u64 n] w fun e w'=>e= .returned (.tuple #[.int .u64 0,.int .u64 n])∧w'=w:=by
 have m1:bits .and .u64 1 4294967295=1:=by decide
 have m0:bits .and .u64 0 4294967295=0:=by decide
 have m2:=mask_n n hn
 have d1:(n:Int)/4294967296=0:=by omega
 have q1:IntKind.u64.wrap (n:Int)=n:=by rw[IntKind.wrap_u64];omega
 go_enter Tryz.func138,Tryz.ntmps138
 go_wp2
 go_ret2
 exact⟨rfl,rfl⟩

theorem mul_one (n:Nat) (w:World) (hn:n≤4000):
 Calls Tryz.prog 112 #[.int .u64 1,.int .u64 n] w fun e w'=>e= .returned (.tuple #[.int .u64 0,.int .u64 n])∧w'=w:=by
 go_enter Tryz.func112,Tryz.ntmps112
 go_wp2_with fail
 refine(mul64_one n w hn).mono ?_
 rintro e w' ⟨rfl,rfl⟩
 go_wp2
 go_ret2
 exact⟨rfl,rfl⟩

theorem splice_at (l:List Value) (b m:Nat) (v:Value) (hb:b+m≤l.length) (h:∀j,j<b→l[j]? =some v) (j:Nat) (hj:j<b+m):(splice l b (List.replicate m v))[j]? =some v:=by
 unfold splice
 by_cases e:j<b
 ·rw[List.getElem?_append_left (by rw[List.length_take];omega),List.getElem?_take,if_pos e]
  exact h j e
 ·rw[List.getElem?_append_right (by rw[List.length_take];omega),List.length_take,Nat.min_eq_left (by omega),List.getElem?_append_left (by rw[List.length_replicate];omega),List.getElem?_replicate,if_pos (by omega)]

theorem copy_run (W w0:World) (ty:TypeId) (g off dLen dCap sLen sCap B:Nat) (ad:Addr) (cur cs:List Value) (hg:W.heap[g]? =some (.cells cur.toArray 5 (0,0))) (hn:cs.length=Nat.min sLen dLen) (hsrc:∀j v,cs[j]? =some v→W.cell? (ad.add j)=some v) (hfit:off+cs.length≤cur.length) (h1:∀v∈cs,v.oneCell'=true) (hb:Below B w0 W) (hBg:B≤g):
 ∃w',(Builtin.copy_ #[58,58] ty #[.slice (some ⟨g,off,none⟩) dLen dCap,.slice (some ad) sLen sCap]).run Tryz.prog W= .ok (.int .i64 (cs.length:Int)) w'∧Hid (w'.heap[g]? =some (.cells (splice cur off cs).toArray 5 (0,0)))∧Hid (Below B w0 w'):=by
 have hsz1:(Tryz.prog.info? 5).map (·.size)=some 1:=by kernel_rfl
 have hrun:=run_copy_row (P:=Tryz.prog) W 58 58 ty 5 g off dLen dCap ad sLen sCap cur.toArray 5 cs Tryz.underlying58 hsz1 hg hn hsrc (by simpa using hfit) h1
 exact⟨_,hrun,(show _=_ by simpa [splice]using setRow_heap W g _ _ 5 _ hg),below_setRow hb hBg _⟩

set_option maxRecDepth 100000 in
set_option maxHeartbeats 4000000 in
theorem repeat_val (n g0:Nat) (w:World) (h0:w.cell? ⟨g0,0,none⟩=some (.int .u8 48)) (hg0:g0<w.heap.size) (hn1:1≤n) (hn:n≤4000):
 Calls Tryz.prog 74 #[.slice (some ⟨g0,0,none⟩) 1 1,.int .i64 n] w fun e w'=>e= .returned (.slice (some ⟨w.heap.size,0,none⟩) n n)∧Below w.heap.size w w'∧w.heap.size<w'.heap.size∧Cl w' w.heap.size n (fun _=> .int .u8 48):=by
 obtain⟨i0,hi,hz0,hz1,hz2⟩:=Pk.info_of info_u8
 have hsz1:(Tryz.prog.info? 5).map (·.size)=some 1:=by kernel_rfl
 have hszw:∀w,(Go.sizeOf 5).run Tryz.prog w= .ok 1 w:=fun w=>by simp[Go.sizeOf,typeInfo,hi,hz1]
 obtain⟨cs,hrunM,hle,-⟩:=Lib.run_makeNoZero (P:=Tryz.prog) w #[3] 58 5 Tryz.underlying58 n (by omega)
 have hcall:(callFunc 113 #[.int .i64 (n:Int)]).run Tryz.prog w= .ok (.value (.slice (some ⟨w.heap.size,0,none⟩) n cs.size)) (w.drew.drew.alloc (.cells cs 5)):=by
  rw[run_callFunc_extern Tryz.func113 (by kernel_rfl) (by kernel_rfl) (by kernel_rfl) (e:=Extern.BytealgMakeNoZero.makeNoZero #[3] #[58]) (by kernel_rfl),hrunM]
  rfl
 clear hrunM
 have i1:(n:Int)≤(cs.size:Int):=by omega
 have hg1:((w.alloc (.cells cs 5)).drew.drew).heap[w.heap.size]? =some (.cells cs.toList.toArray 5 (0,0)):=by
  rw[Array.toArray_toList]
  exact Pk.heap_new w (.cells cs 5)
 have hb1:Below w.heap.size w ((w.alloc (.cells cs 5)).drew.drew):=(((Below.refl _ _).alloc (Nat.le_refl _) _).drew).drew
 have hc1:((w.alloc (.cells cs 5)).drew.drew).cell? ⟨g0,0,none⟩=some (.int .u8 48):=(hb1.cell hg0).trans h0
 have q1:IntKind.u64.wrap (n:Int)=n:=by rw[IntKind.wrap_u64];omega
 have q2:IntKind.i64.wrap (n:Int)=n:=by rw[IntKind.wrap_i64];omega
 go_enter Tryz.func74,Tryz.ntmps74
 go_wp2_with fail
 refine(mul_one n w hn).mono ?_
 rintro e w1 ⟨rfl,hw1⟩
 have hw2:=hw1.symm
 subst hw2
 have F1:Hid (([Value.int .u8 48]:List Value).length=Nat.min 1 n):=by show 1=min 1 n;omega
 have F2:Hid (∀j v,([Value.int .u8 48]:List Value)[j]? =some v→((w.alloc (.cells cs 5)).drew.drew).cell? ((⟨g0,0,none⟩:Addr).add j)=some v):=by
  intro j v hv
  match j with
  |0=>
   simp at hv
   subst hv
   simpa [Addr.add]using hc1
  |j+1=>simp at hv
 have F3:Hid (0+([Value.int .u8 48]:List Value).length≤cs.toList.length):=by show _≤_;simp;omega
 have F4:Hid (∀v∈([Value.int .u8 48]:List Value),v.oneCell'=true):=by intro v hv;simp at hv;subst hv;rfl
 obtain⟨w2,hcp,hg2,hb2⟩:=copy_run _ w 3 w.heap.size 0 n n 1 1 w.heap.size ⟨g0,0,none⟩ cs.toList [Value.int .u8 48] hg1 F1.out F2.out F3.out F4.out hb1 (Nat.le_refl _)
 rw[show(([Value.int .u8 48]:List Value).length:Int)=1 from rfl]at hcp
 clear F1 F2 F3 F4
 have hl2:Hid ((splice cs.toList 0 [Value.int .u8 48]).length=cs.size):=by
  show _=_
  rw[length_splice _ _ _ (by simp;omega)]
  simp
 have ha2:Hid (∀j,j<1→(splice cs.toList 0 [Value.int .u8 48])[j]? =some (.int .u8 48)):=fun j hj=>by
  have:=splice_at cs.toList 0 1 (.int .u8 48) (by simp;omega) (fun j hj=>by omega) j (by omega)
  simpa using this
 generalize splice cs.toList 0 [Value.int .u8 48]=c2 at*
 have hdr:(w.alloc (.cells cs 5)).drew.drew=w.drew.drew.alloc (.cells cs 5):=rfl
 clear hg1 hb1 hc1 hdr
 go_wp2
 go_loopw [10,11] (fun b10 _ wr=>∃(bp:Nat) (cur:List Value),1≤bp∧bp≤n∧b10= .int .i64 bp∧Hid (wr.heap[w.heap.size]? =some (.cells cur.toArray 5 (0,0)))∧Hid (cur.length=cs.size)∧Hid (∀j,j<bp→cur[j]? =some (.int .u8 48))∧Hid (Below w.heap.size w wr)) (fun b _ _=>n-(intOf b).toNat)
 case atStart=>exact⟨1,c2,by omega,hn1,rfl,hg2,hl2,ha2,hb2⟩
 case round=>
  clear hg2 hl2 ha2 hb2
  obtain⟨bp,cur,hb1,hbn,rfl,HG,HL,HA,HB⟩:=hrel
  by_cases hlt:bp<n
  ·obtain⟨m,hm⟩:∃m,Nat.min bp (n-bp)=m:=⟨_,rfl⟩
   have hm':min bp (n-bp)=m:=hm
   have hm1:1≤m:=by omega
   have hm2:bp+m≤n:=by omega
   have hmn:¬((n:Int)<(bp:Int)):=by omega
   have hln:=HL.out
   have hmin:min (bp:Int) (n:Int)=bp:=by omega
   have hsl1:∀W,(Instr.slice 58 (.slice (some ⟨w.heap.size,0,none⟩) n n) (some (.int .i64 (bp:Int))) none none).run Tryz.prog W= .ok (.slice (some ⟨w.heap.size,bp,none⟩) (n-bp) (n-bp)) W:=fun W=>by
    have:=Lib.run_slice_tailV (P:=Tryz.prog) W 58 5 Tryz.underlying58 hszw w.heap.size n bp hbn
    unfold Lib.tailV at this
    rw[if_neg (by omega)]at this
    exact this
   have hgd:wr.drew.heap[w.heap.size]? =some (.cells cur.toArray 5 (0,0)):=HG.out
   have hbd:Below w.heap.size w wr.drew:=HB.out.drew
   have e1:(List.replicate m (Value.int .u8 48)).length=Nat.min bp (n-bp):=by rw[List.length_replicate];exact hm.symm
   have e2:bp+(List.replicate m (Value.int .u8 48)).length≤cur.length:=by rw[List.length_replicate];omega
   have e3:∀v∈List.replicate m (Value.int .u8 48),v.oneCell'=true:=fun v hv=>by rw[(List.mem_replicate.1 hv).2];rfl
   have e4:∀j v,(List.replicate m (Value.int .u8 48))[j]? =some v→wr.drew.cell? ((⟨w.heap.size,0,none⟩:Addr).add j)=some v:=fun j v hv=>by
    rw[List.getElem?_replicate]at hv
    split at hv
    ·rename_i hj
     cases hv
     rw[show Addr.add ⟨w.heap.size,0,none⟩ j=⟨w.heap.size,j,none⟩from by simp[Addr.add];exact Eq.symm,Pk.cell_at hgd j]
     simpa using HA.out j (by omega)
    ·cases hv
   obtain⟨w4,hcp,hg4,hb4⟩:=copy_run wr.drew w 3 w.heap.size bp (n-bp) (n-bp) bp n w.heap.size ⟨w.heap.size,0,none⟩ cur (List.replicate m (Value.int .u8 48)) hgd e1 e4 e2 e3 hbd (Nat.le_refl _)
   rw[List.length_replicate]at hcp
   clear e1 e2 e3 e4 hgd hbd
   go_wp2
   go_region
   all_goals
    go_wp2
    go_roundw
    case rel=>
     refine⟨bp+m,splice cur bp (List.replicate m (Value.int .u8 48)),by omega,hm2,by go_num,hg4,?_,?_,hb4⟩
     ·show _=_
      rw[length_splice _ _ _ (by rw[List.length_replicate];omega)]
      exact HL.out
     ·exact fun j hj=>splice_at cur bp m _ (by omega) HA.out j hj
    case measure=>simp[intOf];omega
  ·obtain rfl:bp=n:=by omega
   have CLX:Hid (Cl wr w.heap.size bp (fun _=> .int .u8 48)):=fun j hj=>⟨by rw[Pk.cell_at HG.out j];simpa using HA.out j hj,Pk.frozen_at HG.out j⟩
   have HLT:Hid (w.heap.size<wr.heap.size):=Pk.lt_of HG.out
   go_wp2
   go_ret
   exact⟨rfl,HB.out,HLT.out,CLX.out⟩

end Sq
end Go.Proofs.YtdcpjicgehdmfaaGreatDoor

/- The program's Paint. -/
namespace Go.Proofs.YtdcpjicgehdmfaaGreatDoor
namespace Sq
open Go.ChangeShapes Go.WideShapes Go.ChangeAt Go.RowKit
set_option linter.unusedSimpArgs false
set_option linter.unusedVariables false

def sgS (s:ByteArray):ByteArray:=(⟨#[49,48,48,48,48,48,48,48,48,49,49,49,48,49,49,49,49,49,49,49,48,49,49,49,48]⟩:ByteArray)++⟨(sgn (bitsL (bodyS s).data.toList)).toArray⟩

theorem sgS_list (s:ByteArray):(sgS s).data.toList=hsS.data.toList++sgn (bodyB s):=by
 unfold sgS bodyB
 rw[ByteArray.data_append,Array.toList_append]
 rfl

theorem sgS_size (s:ByteArray):(sgS s).size=8*(s.size+6)+25:=by
 have h:(sgS s).data.toList.length=8*(s.size+6)+25:=by
  rw[sgS_list,List.length_append]
  unfold sgn
  rw[List.length_map,bodyB_length]
  show 25+_=_
  omega
 rw[Array.length_toList]at h
 exact h

theorem sgS_at (s:ByteArray) (k:Nat) (hk:k<(sgS s).size):pSign s k=(sgS s)[k]:=by
 rw[←getD_at (sgS s) k hk,sgS_list,List.getD_eq_getElem?_getD]
 rw[sgS_size]at hk
 unfold pSign
 have h25:hsS.data.toList.length=25:=rfl
 by_cases h:k<25
 ·rw[if_pos h,List.getElem?_append_left (by omega)]
  unfold tb
  rw[List.getD_eq_getElem?_getD]
 ·rw[if_neg h,List.getElem?_append_right (by omega),h25]
  unfold sgn bitAt
  have hl:k-25<(bodyB s).length:=by rw[bodyB_length];omega
  rw[List.getElem?_map,List.getD_eq_getElem?_getD,List.getElem?_eq_getElem hl]
  rfl

theorem pF_all (s:ByteArray) (h j:Nat):pF h (pSign s) (8*(s.size+6)+25) j= .int .u8 ((pSign s (kOf (cX h j) (cY h j))).toNat:Int):=by
 unfold pF
 by_cases e:kOf (cX h j) (cY h j)<8*(s.size+6)+25
 ·rw[if_pos e]
 ·rw[if_neg e,pSign_bit _ _ (by omega),bitAt_end _ _ (by omega)]
  rfl

set_option maxRecDepth 100000 in
set_option maxHeartbeats 8000000 in
theorem implPaint_ok (s:ByteArray) (w:World) (hs:s.size≤400):
 Calls Tryz.prog 48 #[.string s] w fun e w'=>e= .returned (.tuple #[sqV (2*(pH s:Int)+1) (paintS s),.bool true])∧Below w.heap.size w w':=by
 obtain⟨hh4,hh30⟩:=pH_bd s
 have hge:=pH_ge s hs
 have HSF:Hid (∀W,Calls Tryz.prog 73 #[.int .i64 ((sgS s).size:Int)] W fun e w'=>e= .returned (.int .i64 (2*(pH s:Int)+1))∧w'=W):=fun W=>by
  have:=sizeFor_val (8*(s.size+6)) W (by omega)
  rw[show(((8*(s.size+6):Nat):Int)+25)=((sgS s).size:Int)from by rw[sgS_size];omega]at this
  exact this
 have HBO:Hid (∀W,_):=fun W=>bodyOf_val s W hs
 have HSI:Hid (∀W,_):=fun W=>signsOf_val (bodyS s) W (by rw[bodyS_size];omega)
 have HAT:Hid (∀k (hk:k<(sgS s).size),pSign s k=(sgS s)[k]):=sgS_at s
 have HZ:Hid ((sgS s).size=8*(s.size+6)+25):=sgS_size s
 have HEN:Hid (∀j,pF (pH s) (pSign s) (sgS s).size j= .int .u8 ((pSign s (kOf (cX (pH s) j) (cY (pH s) j))).toNat:Int)):=fun j=>by
  rw[sgS_size]
  exact pF_all s (pH s) j
 have hcat:(⟨#[49,48,48,48,48,48,48,48,48,49,49,49,48,49,49,49,49,49,49,49,48,49,49,49,48]⟩:ByteArray)++⟨(sgn (bitsL (bodyS s).data.toList)).toArray⟩=sgS s:=rfl
 have hTs:(⟨(sgn (bitsL (bodyS s).data.toList)).toArray⟩:ByteArray).size≤4000:=by
  show(sgn (bodyB s)).toArray.size≤_
  unfold sgn
  rw[List.size_toArray,List.length_map,bodyB_length]
  omega
 have HP:Hid (paintS s=strT ((2*pH s+1)*(2*pH s+1)) (fun j=>pSign s (kOf (cX (pH s) j) (cY (pH s) j)))):=rfl
 have hc1:1≤(sgS s).size:=by rw[HZ.out];omega
 have hcM:(sgS s).size≤(2*pH s+1)*(2*pH s+1):=by rw[HZ.out];exact hge
 have hsz:(2*pH s+1)*(2*pH s+1)≤3721:=Nat.mul_le_mul (by omega:2*pH s+1≤61) (by omega:2*pH s+1≤61)
 have hsp:81≤(2*pH s+1)*(2*pH s+1):=Nat.mul_le_mul (by omega:9≤2*pH s+1) (by omega:9≤2*pH s+1)
 clear hge HZ
 generalize (⟨(sgn (bitsL (bodyS s).data.toList)).toArray⟩:ByteArray)=T at*
 generalize bodyS s=bd at*
 generalize sgS s=SG at*
 generalize paintS s=PS at*
 generalize pH s=h at*
 obtain⟨M,hM⟩:∃M:Nat,(2*h+1)*(2*h+1)=M:=⟨_,rfl⟩
 have hMi:(2*(h:Int)+1)*(2*(h:Int)+1)=(M:Int):=by rw[←hM];push_cast;rfl
 have HMM:Hid ((2*h+1)*(2*h+1)=M):=hM
 rw[hM]at hcM hsz hsp HP
 clear hM
 obtain⟨c,hc⟩:∃c,SG.size=c:=⟨_,rfl⟩
 have HP2:Hid (∀(k:Nat) (W:World),k<c→_):=fun k W hk=>index_val h ⟨#[]⟩ (E (wx k)) (E (wy k)) (wx k) (wy k) W (E_int (by have:=way_bd k (by omega);omega) (by have:=way_bd k (by omega);omega)) (E_int (by have:=way_bd k (by omega);omega) (by have:=way_bd k (by omega);omega)) hh30 (dist_in (way_dist k h (by rw[HMM.out];omega))).1 (dist_in (way_dist k h (by rw[HMM.out];omega))).2.1 (dist_in (way_dist k h (by rw[HMM.out];omega))).2.2.1 (dist_in (way_dist k h (by rw[HMM.out];omega))).2.2.2
 have HI2:Hid (∀k,k<c→idx h (wx k) (wy k)<M):=fun k hk=>by
  obtain⟨a1,a2,a3,a4⟩:=dist_in (way_dist k h (by rw[HMM.out];omega))
  rw[←HMM.out];exact idx_lt a1 a2 a3 a4
 have HST:Hid (∀k,k<c→∀j,j<M→pF h (pSign s) (k+1) j=if j=idx h (wx k) (wy k)then .int .u8 ((pSign s k).toNat:Int)else pF h (pSign s) k j):=fun k hk j _=>pF_step h (pSign s) k (by rw[HMM.out];omega) j
 have HW:Hid (∀W,_):=fun W=>wayOf_val c W (by omega) (by omega)
 have hcI:(SG.size:Int)=(c:Int):=by omega
 rw[hcI]at HSF
 rw[hc]at HEN
 unfold sqV at*
 have N1:=Pk.new_below w (.cells #[.int .i64 0,.string ⟨#[]⟩] 39)
 have m1:Box (w.alloc (.cells #[.int .i64 0,.string ⟨#[]⟩] 39)) w.heap.size 0 ⟨#[]⟩:=Pk.heap_new _ _
 go_enter Tryz.func48,Tryz.ntmps48
 go_wp2_with fail
 with_reducible refine(HBO.out _).mono ?_
 generalize w.alloc (.cells #[.int .i64 0,.string ⟨#[]⟩] 39)=w1 at*
 rintro e w2 ⟨rfl,L2⟩
 have m2:=m1.on L2
 have K2:=Pk.join_below N1 L2
 clear N1 m1 L2 HBO
 go_wp2_with fail
 with_reducible refine(HSI.out _).mono ?_
 rintro e w3 ⟨rfl,L3⟩
 have m3:=m2.on L3
 have K3:=Pk.join_below K2 L3
 clear m2 K2 L3 HSI
 go_wp2_with fail
 with_reducible refine(HSF.out _).mono ?_
 rintro e w4 ⟨rfl,hw4⟩
 have hw5:=hw4.symm
 subst hw5
 clear HSF
 have HWQ:Hid (w.heap.size≠w3.heap.size):=by have:=Pk.lt_of m3;show _≠_;omega
 have HQW:Hid (w.heap.size≤w3.heap.size):=K3.size
 have N5:=Pk.new_below w3 (.cells #[.int .i64 (2*(h:Int)+1),.string ⟨#[]⟩] 39)
 have mq:Box (w3.alloc (.cells #[.int .i64 (2*(h:Int)+1),.string ⟨#[]⟩] 39)) w3.heap.size (2*(h:Int)+1) ⟨#[]⟩:=Pk.heap_new _ _
 have m5:=m3.on N5
 have K5:=Pk.join_below K3 N5
 have e5:(w3.alloc (.cells #[.int .i64 (2*(h:Int)+1),.string ⟨#[]⟩] 39)).heap.size=w3.heap.size+1:=by simp
 have N6:=Pk.new_below (w3.alloc (.cells #[.int .i64 (2*(h:Int)+1),.string ⟨#[]⟩] 39)) (.cells #[.int .u8 48] 5)
 have c6:((w3.alloc (.cells #[.int .i64 (2*(h:Int)+1),.string ⟨#[]⟩] 39)).alloc (.cells #[.int .u8 48] 5)).cell? ⟨w3.heap.size+1,0,none⟩=some (.int .u8 48):=by
  have:=Pk.cell_at (Pk.heap_new (w3.alloc (.cells #[.int .i64 (2*(h:Int)+1),.string ⟨#[]⟩] 39)) (.cells #[.int .u8 48] 5)) 0
  rw[e5]at this
  exact this
 have mq6:=mq.on N6
 have m6:=m5.on N6
 have K6:=Pk.join_below K5 N6
 have l6:w3.heap.size+1<((w3.alloc (.cells #[.int .i64 (2*(h:Int)+1),.string ⟨#[]⟩] 39)).alloc (.cells #[.int .u8 48] 5)).heap.size:=by
  have:=Pk.lt_of (Pk.heap_new (w3.alloc (.cells #[.int .i64 (2*(h:Int)+1),.string ⟨#[]⟩] 39)) (.cells #[.int .u8 48] 5))
  rw[e5]at this
  exact this
 have HRP:Hid (_):=(fun _:Unit=>repeat_val M (w3.heap.size+1) _ c6 l6 (by omega) (by omega))
 have lq:w3.heap.size<((w3.alloc (.cells #[.int .i64 (2*(h:Int)+1),.string ⟨#[]⟩] 39)).alloc (.cells #[.int .u8 48] 5)).heap.size:=by omega
 have lw:w.heap.size<((w3.alloc (.cells #[.int .i64 (2*(h:Int)+1),.string ⟨#[]⟩] 39)).alloc (.cells #[.int .u8 48] 5)).heap.size:=Pk.lt_of m6
 clear N5 mq m5 K5 N6 m3 K3 c6 l6 e5
 go_wp2_with fail
 with_reducible refine(HRP.out ()).mono ?_
 generalize hR6:(w3.alloc (.cells #[.int .i64 (2*(h:Int)+1),.string ⟨#[]⟩] 39)).alloc (.cells #[.int .u8 48] 5)=w6 at*
 clear hR6 HRP
 rintro e w7 ⟨rfl,L7,l7,CL7⟩
 have mq7:=mq6.on L7
 have m7:=m6.on L7
 have K7:=Pk.join_below K6 L7
 have lww:w.heap.size≤w6.heap.size:=K6.size
 clear mq6 m6 K6 L7
 go_wp2_with fail
 with_reducible refine(HW.out _).mono ?_
 rintro e w8 ⟨rfl,mp,L8⟩
 have mq8:=mq7.on L8
 have m8:=m7.on L8
 have K8:=Pk.join_below K7 L8
 have CL8:=CL7.on L8 l7
 generalize hG:w6.heap.size=G at*
 generalize hQ:w3.heap.size=Q at*
 generalize hP8:w7.heap.size=p at*
 have lG8:G<w8.heap.size:=by have:=L8.size;omega
 have R0:Run w.heap.size w w8 w8 G M (pF h (pSign s) 0):=Run.start K8 lG8 lww (CL8.congr (fun j _=>pF_zero h (pSign s) j))
 clear mq7 m7 K7 CL7 CL8 L8 HW K8
 have hqG:Q≠G:=by omega
 have hwG:w.heap.size≠G:=by omega
 have hpG:p≠G:=by omega
 have hwQ:w.heap.size≠Q:=HWQ.out
 go_wp2
 go_loopw [32] (fun i wr=>∃k:Nat,k≤c∧i= .int .i64 k∧Run w.heap.size w w8 wr G M (pF h (pSign s) k)) (fun i _=>c-(intOf i).toNat)
 case atStart=>exact⟨0,by omega,rfl,R0⟩
 case round=>
  clear R0
  obtain⟨k,hk,rfl,R⟩:=hrel
  by_cases hlt:k<c
  ·have MQ:Box wr Q (2*(h:Int)+1) ⟨#[]⟩:=R.keep mq8 hqG
   have hcl:=row_at (R.keep mp hpG) k hlt
   unfold plV at hcl
   have J2:=HI2.out k hlt
   have X2:Hid (∀W,_):=fun W=>HP2.out k W hlt
   have XS:Hid (_):=HST.out k hlt
   have hkS:k<SG.size:=by omega
   rw[HAT.out k hkS]at XS
   generalize E (wx k)=a at*
   generalize E (wy k)=b at*
   generalize idx h (wx k) (wy k)=i2 at*
   have hk1:(0:Int)≤(i2:Int):=by omega
   have hk2:(i2:Int)<(M:Int):=by omega
   have hk3:(0:Int)≤(k:Int):=by omega
   have hk4:(k:Int)<(c:Int):=by omega
   have hk5:(k:Int)<(SG.size:Int):=by omega
   have z1:¬G=Q:=fun h=>hqG h.symm
   have z2:¬Q=G:=hqG
   have c0:=MQ.n
   have c1:=MQ.s
   have r0:=(R.row i2 J2).1
   have r1:=(R.row i2 J2).2
   go_wp2
   go_region_held3 (fun w'=>w'.cell? ⟨Q,0,none⟩=some (.int .i64 (2*(h:Int)+1))∧w'.cell? ⟨Q,1,none⟩=some (.string ⟨#[]⟩)) (go_keep) (first
    |(go_at_call 69;refine(X2.out _).mono ?_;rintro e x2 ⟨rfl,L3⟩;replace R:=(by first|exact R.on L3|exact R.drew.on L3);have MQ:Box x2 Q (2*(h:Int)+1) ⟨#[]⟩:=R.keep mq8 hqG;have c0:=MQ.n;have c1:=MQ.s;have r0:=(R.row i2 J2).1;have r1:=(R.row i2 J2).2))
   all_goals
    go_wp2
    go_roundw
    case rel=>exact⟨k+1,by omega,by go_num,by first|exact R.set i2 _ XS.out|exact R.drew.set i2 _ XS.out|exact(R.set i2 _ XS.out).drew⟩
    case measure=>simp[intOf];omega
  ·obtain rfl:k=c:=by omega
   have hcv:=R.row.text (cap:=M) (fun j _=>HEN.out j)
   rw[←HP.out]at hcv
   have MQ:Box wr Q (2*(h:Int)+1) ⟨#[]⟩:=R.keep mq8 hqG
   have MR:Box wr w.heap.size 0 ⟨#[]⟩:=R.keep m8 hwG
   have c0:=MQ.n
   have c1:=MQ.s
   have f0:=MQ.f 0
   have f1:=MQ.f 1
   have d0:=MR.n
   have d1:=MR.s
   have g0:=MR.f 0
   have g1:=MR.f 1
   have LL:=R.below
   have hQW:w.heap.size≤Q:=HQW.out
   go_wp2
   refine bodyPost_ret (v:= .tuple #[.agg #[.int .i64 (2*(h:Int)+1),.string PS],.bool true]) (by simp[results,Tryz.results48,go_sem,d0,d1]) rfl ?_
   exact⟨rfl,((LL.setCell (p:=⟨Q,1,none⟩) hQW _).setCell (Nat.le_refl _) _).setCell (Nat.le_refl _) _⟩

end Sq
end Go.Proofs.YtdcpjicgehdmfaaGreatDoor

/- The program's Paint, whatever the text. -/
namespace Go.Proofs.YtdcpjicgehdmfaaGreatDoor
namespace Sq
open Go.ChangeShapes Go.WideShapes Go.ChangeAt Go.RowKit
set_option linter.unusedSimpArgs false
set_option linter.unusedVariables false

theorem implPaint_val (s:ByteArray) (w:World) (hs:s.size≤maxLen):
 Calls Tryz.prog 48 #[.string s] w fun e w'=>e= .returned (.tuple #[sqV (pnV s) (ptV s),.bool (decide (s.size≤400))])∧Below w.heap.size w w':=by
 unfold pnV ptV
 by_cases h:s.size≤400
 ·rw[if_pos h,if_pos h,decide_eq_true h]
  exact implPaint_ok s w h
 ·rw[if_neg h,if_neg h,decide_eq_false h]
  unfold maxLen at hs
  have N:=Pk.new_below w (.cells #[.int .i64 0,.string ⟨#[]⟩] 39)
  have m0:Box (w.alloc (.cells #[.int .i64 0,.string ⟨#[]⟩] 39)) w.heap.size 0 ⟨#[]⟩:=Pk.heap_new w _
  have d0:=m0.n
  have d1:=m0.s
  have f0:=m0.f 0
  have f1:=m0.f 1
  unfold sqV
  go_enter Tryz.func48,Tryz.ntmps48
  go_wp2
  refine bodyPost_ret (v:= .tuple #[.agg #[.int .i64 0,.string ⟨#[]⟩],.bool false]) (by simp[results,Tryz.results48,go_sem,d0,d1]) rfl ?_
  exact⟨rfl,N⟩

end Sq
end Go.Proofs.YtdcpjicgehdmfaaGreatDoor

/- Contracts of DarkAt, of the program and of its model. -/
namespace Go.Proofs.YtdcpjicgehdmfaaGreatDoor
namespace Sq
open Go.ChangeShapes Go.WideShapes Go.ChangeAt Go.RowKit
open Pk (Drawn)
set_option linter.unusedSimpArgs false
set_option linter.unusedVariables false

end Sq
end Go.Proofs.YtdcpjicgehdmfaaGreatDoor

/- Four quarters leave a square as it was; a field stands where it should behind one: the mathematics. And squares compared. -/
namespace Go.Proofs.YtdcpjicgehdmfaaGreatDoor
namespace Sq
open Go.ChangeShapes Go.WideShapes Go.ChangeAt Go.RowKit
set_option linter.unusedSimpArgs false
set_option linter.unusedVariables false

theorem tb_turn {h:Nat} {s:ByteArray} {j:Nat} (hj:j<(2*h+1)*(2*h+1)):tb (turnS h s) j=tb s (idx h (cY h j) (-(cX h j))):=by
 unfold turnS
 rw[strT_at _ _ _ hj]
 rfl

theorem idxLt {h:Nat} {x y:Int} (hx1: -(h:Int)≤x) (hx2:x≤h) (hy1: -(h:Int)≤y) (hy2:y≤h):idx h x y<(2*h+1)*(2*h+1):=by
 obtain⟨a,ha⟩:∃a:Nat,x+h=a:=⟨(x+h).toNat,by omega⟩
 obtain⟨b,hb⟩:∃b:Nat,y+h=b:=⟨(y+h).toNat,by omega⟩
 have e1:=cX_idx (y:=y) hx1 hx2
 have e2:=cY_idx hx1 hx2 hy1
 apply Nat.lt_of_not_le
 intro hle
 unfold cY at e2
 have:(2*h+1)≤idx h x y/(2*h+1):=(Nat.le_div_iff_mul_le (by omega)).2 hle
 omega

theorem tbAt {h:Nat} {s:ByteArray} {x y:Int} (hx1: -(h:Int)≤x) (hx2:x≤h) (hy1: -(h:Int)≤y) (hy2:y≤h):tb (turnS h s) (idx h x y)=tb s (idx h y (-x)):=by
 rw[tb_turn (idxLt hx1 hx2 hy1 hy2),cX_idx hx1 hx2,cY_idx hx1 hx2 hy1]

theorem turnS_size (h:Nat) (s:ByteArray):(turnS h s).size=(2*h+1)*(2*h+1):=by
 unfold turnS
 rw[strT_size]

theorem four {h:Nat} {s:ByteArray} (hz:s.size=(2*h+1)*(2*h+1)):turnS h (turnS h (turnS h (turnS h s)))=s:=by
 apply text_ext
 ·rw[turnS_size,hz]
 ·intro j hj
  rw[turnS_size]at hj
  obtain⟨⟨x1,x2⟩,y1,y2⟩:=c_in hj
  rw[tb_turn hj,tbAt y1 y2 (by omega) (by omega),tbAt (by omega) (by omega) (by omega) (by omega),tbAt (by omega) (by omega) (by omega) (by omega)]
  rw[Int.neg_neg,Int.neg_neg,idx_of]

end Sq
end Go.Proofs.YtdcpjicgehdmfaaGreatDoor

/- Squares compared. -/
namespace Go.Proofs.YtdcpjicgehdmfaaGreatDoor
namespace Sq
open Go.ChangeShapes Go.WideShapes Go.ChangeAt Go.RowKit
set_option linter.unusedSimpArgs false
set_option linter.unusedVariables false

end Sq
end Go.Proofs.YtdcpjicgehdmfaaGreatDoor

/- What Scan answers: the mathematics. -/
namespace Go.Proofs.YtdcpjicgehdmfaaGreatDoor
namespace Sq
open Go.ChangeShapes Go.WideShapes Go.ChangeAt Go.RowKit
set_option linter.unusedSimpArgs false
set_option linter.unusedVariables false

def restS (h:Nat) (s:ByteArray):ByteArray:=(strT s.size (alongF h s)).extract 25 s.size

theorem restS_size {h:Nat} {s:ByteArray} (hz:25≤s.size):(restS h s).size=s.size-25:=by
 unfold restS
 rw[ByteArray.size_extract,strT_size]
 omega

def bodyR (h:Nat) (s:ByteArray):ByteArray:=strT ((restS h s).size/8) (fun j=>UInt8.ofNat (bv (sbit (restS h s)) j 8))

def told (B:ByteArray):Nat:=(tb B 0).toNat*256+(tb B 1).toNat

def scanT (n:Int) (s B:ByteArray):ByteArray:=if told B≤400∧told B+6≤B.size∧B.extract (2+told B) (2+told B+4)=Num.wordS (Math.crc (B.extract 2 (2+told B)).data.toList)∧pnV (B.extract 2 (2+told B))=n∧ptV (B.extract 2 (2+told B))=s then B.extract 2 (2+told B)else⟨#[]⟩

def scanC (n:Int) (s B:ByteArray):Int:=
 if ¬(told B≤400∧told B+6≤B.size)then 2
 else if ¬(B.extract (2+told B) (2+told B+4)=Num.wordS (Math.crc (B.extract 2 (2+told B)).data.toList))then 3
 else if ¬(pnV (B.extract 2 (2+told B))=n∧ptV (B.extract 2 (2+told B))=s)then 4 else 0

theorem neq_any (n m:Int) (s t:ByteArray) (w:World):(binOp .neq 39 (.agg #[.int .i64 n,.string s]) (.agg #[.int .i64 m,.string t])).run Tryz.prog w= .ok (.bool (!(decide (n=m)&&decide (s=t)))) w:=by
 rw[run_neq_struct,run_equalIn_struct w 9999 39 _ _ (by kernel_rfl) (by kernel_rfl)]
 have hf:(Tryz.prog.fieldsOf 39).toList.map (fun f=>(f.name== "_",f.type,f.offset))= [(false,3,0),(false,9,1)]:=by kernel_rfl
 generalize (Tryz.prog.fieldsOf 39).toList=l at hf
 obtain⟨f0,l,rfl,e0,hf⟩:=List.map_eq_cons_iff.1 hf
 obtain⟨f1,l,rfl,e1,hf⟩:=List.map_eq_cons_iff.1 hf
 obtain rfl:=List.map_eq_nil_iff.1 hf
 simp only[Prod.mk.injEq,beq_eq_false_iff_ne]at e0 e1
 obtain⟨n0,t0,o0⟩:=e0
 obtain⟨n1,t1,o1⟩:=e1
 simp only[Op.eqFields,if_pos n0,if_pos n1,t0,t1,o0,o1]
 by_cases h1:n=m
 ·subst h1
  by_cases h2:s=t
  ·subst h2
   simp[part,go_sem,Tryz.underlying3,Tryz.underlying9,run_equalIn_int,Result.andThen]
  ·have h3:¬s.toList=t.toList:=fun e=>h2 (Go.WideShapes.bytes_inj (by rw[←ByteArray.toList_eq,←ByteArray.toList_eq];exact e))
   simp[part,go_sem,Tryz.underlying3,Tryz.underlying9,run_equalIn_int,Result.andThen,h2,h3]
 ·simp[part,go_sem,Tryz.underlying3,Tryz.underlying9,run_equalIn_int,Result.andThen,h1]

theorem hv_bd (p:Nat→Bool):∀f m:Nat,hv p f m= -1∨(m:Int)≤hv p f m∧hv p f m<(m:Int)+f
 |0,_=> .inl rfl
 |f+1,m=>by
  rw[hv]
  split
  ·exact .inr ⟨by omega,by omega⟩
  ·rcases hv_bd p f (m+1)with h|h
   ·exact .inl h
   ·exact .inr ⟨by omega,by omega⟩

theorem heart_bd {n:Int} {s:ByteArray}:heartV n s= -1∨0≤heartV n s∧heartV n s≤3:=by
 unfold heartV
 split
 ·rcases hv_bd (hAt (Int.tdiv n 2).toNat n s) 4 0 with h|h
  ·exact .inl h
  ·exact .inr ⟨by omega,by omega⟩
 ·exact .inl rfl

theorem tb_extract {s:ByteArray} {a b j:Nat} (h:a+j<b) (hb:b≤s.size):tb (s.extract a b) j=tb s (a+j):=by
 have hj:j<(s.extract a b).size:=by rw[ByteArray.size_extract];omega
 have ha:a+j<s.size:=by omega
 unfold tb
 rw[getD_at _ _ hj,getD_at _ _ ha,ByteArray.getElem_extract]

theorem rest_sign {h:Nat} {n:Int} {s:ByteArray} (h1:h≤30) (hz:s.size=(2*h+1)*(2*h+1)) (h25:25≤s.size) (hg:signsFrom s 0=true) (i:Nat) (hi:i<(restS h s).size):(tb (restS h s) i).toNat=48∨(tb (restS h s) i).toNat=49:=by
 rw[restS_size h25]at hi
 have e:tb (restS h s) i=alongF h s (25+i):=by
  unfold restS
  rw[tb_extract (by omega) (by rw[strT_size];omega),strT_at _ _ _ (by omega)]
 rw[e]
 unfold alongF
 obtain⟨a1,a2,a3,a4⟩:=dist_in (way_dist (25+i) h (by omega))
 have hx:idx h (wx (25+i)) (wy (25+i))<s.size:=by rw[hz];exact idx_lt a1 a2 a3 a4
 rw[show tb s (idx h (wx (25+i)) (wy (25+i)))=s[idx h (wx (25+i)) (wy (25+i))]from getD_at s _ hx]
 exact sign_at hg _ hx

end Sq
end Go.Proofs.YtdcpjicgehdmfaaGreatDoor

/- The program's Scan. -/
namespace Go.Proofs.YtdcpjicgehdmfaaGreatDoor
namespace Sq
open Go.ChangeShapes Go.WideShapes Go.ChangeAt Go.RowKit
set_option linter.unusedSimpArgs false
set_option linter.unusedVariables false

set_option maxRecDepth 100000 in
set_option maxHeartbeats 4000000 in
theorem implScan_no (n:Int) (s:ByteArray) (w:World) (hs:s.size≤maxLen) (hh:heartV n s= -1):
 Calls Tryz.prog 20 #[sqV n s] w fun e w'=>e= .returned (.tuple #[.string ⟨#[]⟩,.int .i64 1])∧Below w.heap.size w w':=by
 have HH:Hid (∀W,_):=fun W=>implHeart_val n s W hs
 rw[hh]at HH
 unfold sqV at*
 have N:=Pk.new_below w (.cells #[.int .i64 n,.string s] 39)
 go_enter Tryz.func20,Tryz.ntmps20
 go_wp2_with fail
 with_reducible refine(HH.out _).mono ?_
 rintro e w1 ⟨rfl,L1⟩
 have K:=Pk.join_below N L1
 go_wp2
 go_ret2
 exact⟨rfl,K⟩

set_option maxRecDepth 100000 in
set_option maxHeartbeats 8000000 in
theorem implScan_ok (h:Nat) (s:ByteArray) (w:World) (hok:okQ (2*(h:Int)+1) s=true) (h4:4≤h) (h1:h≤30) (hz:s.size=(2*h+1)*(2*h+1)) (t:Int) (hh:heartV (2*(h:Int)+1) s=t) (ht0:0≤t) (ht3:t≤3) (u B:ByteArray) (hu:turnN (2*(h:Int)+1) s (t%4).toNat=u) (hB:bodyR h u=B):
 Calls Tryz.prog 20 #[sqV (2*(h:Int)+1) s] w fun e w'=>e= .returned (.tuple #[.string (scanT (2*(h:Int)+1) u B),.int .i64 (scanC (2*(h:Int)+1) u B)])∧Below w.heap.size w w':=by
 have hsz:(2*h+1)*(2*h+1)≤3721:=Nat.mul_le_mul (by omega:2*h+1≤61) (by omega:2*h+1≤61)
 have hsp:81≤(2*h+1)*(2*h+1):=Nat.mul_le_mul (by omega:9≤2*h+1) (by omega:9≤2*h+1)
 have huz:u.size=(2*h+1)*(2*h+1):=by rw[←hu,turnN_size];exact hz
 have huk:okQ (2*(h:Int)+1) u=true:=by rw[←hu];exact ok_turnN hok _
 have hug:signsFrom u 0=true:=(ok_form huk).choose_spec.2.2.2.2
 have HH:Hid (∀W,_):=fun W=>implHeart_val (2*(h:Int)+1) s W (by unfold maxLen;omega)
 rw[hh]at HH
 have HT:Hid (∀W,_):=fun W=>implTurnBy_val (2*(h:Int)+1) s t W (WalkArith.wf_i64 (by omega)) (by omega)
 rw[hu]at HT
 have HA:Hid (∀W,_):=fun W=>along_val h u u.size W h1 huz (by omega) (Nat.le_refl _)
 have hrs:(restS h u).size=u.size-25:=restS_size (by omega)
 have HBY:Hid (∀W,_):=fun W=>bytesOf_val (restS h u) W (by omega) (by omega) (rest_sign (n:=0) h1 huz (by omega) hug)
 have HBZ:Hid (B.size=(u.size-25)/8):=by rw[←hB];show(bodyR h u).size=_;unfold bodyR;rw[strT_size,hrs]
 rw[show strT ((restS h u).size/8) (fun j=>UInt8.ofNat (bv (sbit (restS h u)) j 8))=B from hB]at HBY
 have hal:(strT u.size (alongF h u)).size=u.size:=strT_size _ _
 have hre:(strT u.size (alongF h u)).extract 25 u.size=restS h u:=rfl
 generalize restS h u=rs at*
 generalize strT u.size (alongF h u)=al at*
 have hu81:81≤u.size∧u.size≤3721:=by omega
 have hB7:7≤B.size∧B.size≤500:=by have:=HBZ.out;omega
 clear hsz hsp huz huk hug hrs hu hB hz hok hh
 have N:=Pk.new_below w (.cells #[.int .i64 (2*(h:Int)+1),.string s] 39)
 have m0:Box (w.alloc (.cells #[.int .i64 (2*(h:Int)+1),.string s] 39)) w.heap.size (2*(h:Int)+1) s:=Pk.heap_new _ _
 unfold sqV at*
 obtain⟨b0,hb0⟩:∃b:Nat,(tb B 0).toNat=b:=⟨_,rfl⟩
 obtain⟨b1,hb1⟩:∃b:Nat,(tb B 1).toNat=b:=⟨_,rfl⟩
 have l0:b0<256:=by rw[←hb0];exact(tb B 0).toNat_lt
 have l1:b1<256:=by rw[←hb1];exact(tb B 1).toNat_lt
 have g0:B[0].toNat=b0:=by rw[←hb0];unfold tb;rw[getD_at B 0 (by omega)]
 have g1:B[1].toNat=b1:=by rw[←hb1];unfold tb;rw[getD_at B 1 (by omega)]
 generalize 2*(h:Int)+1=n at*
 go_enter Tryz.func20,Tryz.ntmps20
 go_wp2_with fail
 with_reducible refine(HH.out _).mono ?_
 generalize w.alloc (.cells #[.int .i64 n,.string s] 39)=w0 at*
 rintro e w1 ⟨rfl,L1⟩
 have m1:=m0.on L1
 have K1:=Pk.join_below N L1
 clear N L1 m0 HH
 have c0:=m1.n
 have c1:=m1.s
 have ht1:¬t= -1:=by omega
 go_wp2_with fail
 with_reducible refine(HT.out _).mono ?_
 rintro e w2 ⟨rfl,L2⟩
 have m2:=m1.on L2
 have K2:=Pk.join_below K1 L2
 have m3:=m2.put n u
 have K3:=(K2.setCell (p:=⟨w.heap.size,0,none⟩) (Nat.le_refl _) (.int .i64 n)).setCell (p:=⟨w.heap.size,1,none⟩) (Nat.le_refl _) (.string u)
 clear L2 m1 K1 c0 c1 HT
 have c0:=m2.n
 have c1:=m2.s
 have f0:=m2.f 0
 have f1:=m2.f 1
 have d0:=m3.n
 have d1:=m3.s
 go_wp2_with fail
 with_reducible refine(HA.out _).mono ?_
 generalize (w2.setCell ⟨w.heap.size,0,none⟩ (.int .i64 n)).setCell ⟨w.heap.size,1,none⟩ (.string u)=w3 at*
 rintro e w4 ⟨rfl,L4⟩
 have m4:=m3.on L4
 have K4:=Pk.join_below K3 L4
 clear m2 K2 m3 K3 L4 c0 c1 f0 f1 d0 d1 HA
 go_wp2_with fail
 with_reducible refine(HBY.out _).mono ?_
 rintro e w5 ⟨rfl,L5⟩
 have m5:=m4.on L5
 have K5:=Pk.join_below K4 L5
 clear m4 K4 L5 HBY hre hal
 have q1:bits .or .i64 ((b0:Int)*256) (b1:Int)=((b0*256+b1:Nat):Int):=by
  have h2:=Math.bits_or_i64 (b0*256) b1 (by omega) (by omega)
  rw[show((b0*256:Nat):Int)=(b0:Int)*256 from by omega]at h2
  rw[h2]
  have h3:=Nat.shiftLeft_add_eq_or_of_lt (i:=8) (b:=b1) (by omega) b0
  rw[Nat.shiftLeft_eq]at h3
  rw[show(2:Nat)^8=256 from rfl]at h3
  rw[h3]
 obtain⟨D,hD⟩:∃D:Nat,b0*256+b1=D:=⟨_,rfl⟩
 have HTD:Hid (told B=D):=by show _=_;unfold told;rw[hb0,hb1];exact hD
 rw[hD]at q1
 have hD6:D<65536:=by omega
 clear hD hb0 hb1
 go_wp2
 go_region
 all_goals
  by_cases hDD:D≤400∧D+6≤B.size
  ·obtain⟨hD4,hD5⟩:=hDD
   have hDi:(D:Int)+6≤(B.size:Int):=by omega
   go_wp2
   have htz:(B.extract 2 (2+D)).size≤400:=by rw[ByteArray.size_extract];omega
   have HCS:Hid (∀W,_):=fun W=>Num.implCheckSum_any (B.extract 2 (2+D)) W (by unfold maxLen;omega)
   have HWT:Hid (∀W,_):=fun W=>Num.implWordText_any (Math.crc (B.extract 2 (2+D)).data.toList) W (Math.crc_lt _)
   have HPA:Hid (∀W,_):=fun W=>implPaint_val (B.extract 2 (2+D)) W (by unfold maxLen;omega)
   have HCC:Hid (scanC n u B=if ¬(B.extract (2+D) (2+D+4)=Num.wordS (Math.crc (B.extract 2 (2+D)).data.toList))then 3 else if ¬(pnV (B.extract 2 (2+D))=n∧ptV (B.extract 2 (2+D))=u)then 4 else 0):=by
    show _=_
    unfold scanC
    rw[HTD.out,if_neg (fun h=>h ⟨hD4,hD5⟩)]
   have HTT:Hid (scanT n u B=if B.extract (2+D) (2+D+4)=Num.wordS (Math.crc (B.extract 2 (2+D)).data.toList)∧pnV (B.extract 2 (2+D))=n∧ptV (B.extract 2 (2+D))=u then B.extract 2 (2+D)else⟨#[]⟩):=by
    show _=_
    unfold scanT
    rw[HTD.out]
    by_cases hx:B.extract (2+D) (2+D+4)=Num.wordS (Math.crc (B.extract 2 (2+D)).data.toList)∧pnV (B.extract 2 (2+D))=n∧ptV (B.extract 2 (2+D))=u
    ·rw[if_pos ⟨hD4,hD5,hx⟩,if_pos hx]
    ·rw[if_neg (fun h=>hx h.2.2),if_neg hx]
   unfold sqV at HPA
   generalize B.extract 2 (2+D)=tx at*
   generalize Math.crc tx.data.toList=cr at*
   generalize Num.wordS cr=wd at*
   generalize pnV tx=pn at*
   generalize ptV tx=pt at*
   generalize decide (tx.size≤400)=bt at*
   have y1:2+(D:Int)+4≤(B.size:Int):=by omega
   have y2:(0:Int)≤2+(D:Int):=by omega
   have y3:2+(D:Int)≤2+(D:Int)+4:=by omega
   have y4:(2+(D:Int)+4).toNat=2+D+4:=by omega
   have y5:(2+(D:Int)).toNat=2+D:=by omega
   have y6:(0:Int)≤2+(D:Int)+4:=by omega
   have y7:IntKind.i64.wrap (2+(D:Int)+4)=2+(D:Int)+4:=by rw[IntKind.wrap_i64];omega
   have hsl:∀W,(Instr.slice 9 (.string B) (some (.int .i64 (2+(D:Int)))) (some (.int .i64 (2+(D:Int)+4))) none).run Tryz.prog W= .ok (.string (B.extract (2+D) (2+D+4))) W:=fun W=>by
    simp[go_sem,Tryz.underlying9,y1,y2,y3,y4,y5,y6]
    try omega
   by_cases hEq:B.extract (2+D) (2+D+4)=wd
   ·go_cut [55]from 11 (fun v wc=>v= .bool false∧Below w5.heap.size w5 wc)
    case first=>
     go_region_with (first
      |(go_at_call 47;(with_reducible refine(HCS.out _).mono ?_);rintro e x1 ⟨rfl,hx1⟩;subst hx1)
      |(go_at_call 46;(with_reducible refine(HWT.out _).mono ?_);rintro e x2 ⟨rfl,-,LX⟩))
     all_goals
      go_wp2
      go_meet
      case rel=>exact⟨by first|rfl|simp[hEq],by first|exact LX|exact((Below.refl _ _).drew).trans LX|exact(((Below.refl _ _).drew).drew).trans LX⟩
    case rest=>
     obtain⟨rfl,LX⟩:=hcut
     have m6:=m5.on LX
     have K6:=Pk.join_below K5 LX
     clear m5 K5 LX HCS HWT hsl y1 y2 y3 y4 y5 y6 y7 q1
     go_wp2_with fail
     with_reducible refine(HPA.out _).mono ?_
     rintro e w7 ⟨rfl,L7⟩
     have m7:=m6.on L7
     have K7:=Pk.join_below K6 L7
     have hne:w.heap.size≠w7.heap.size:=by
      have:=Pk.lt_of m7
      omega
     have x9:Box (w7.alloc (.cells #[.int .i64 pn,.string pt] 39)) w7.heap.size pn pt:=Pk.heap_new w7 _
     have N8:=Pk.new_below w7 (.cells #[.int .i64 pn,.string pt] 39)
     have m9:=m7.on N8
     have K9:=Pk.join_below K7 N8
     have c0:=m9.n
     have c1:=m9.s
     have d0:=x9.n
     have d1:=x9.s
     have hq:=neq_any pn n pt u
     by_cases hpq:pn=n∧pt=u
     ·have HC:Hid (scanC n u B=0):=by
       show _=_
       rw[HCC.out,if_neg (fun h=>h hEq),if_neg (fun h=>h hpq)]
      have HX:Hid (scanT n u B=tx):=by
       show _=_
       rw[HTT.out,if_pos ⟨hEq,hpq⟩]
      rw[show(!(decide (pn=n)&&decide (pt=u)))=false from by simp[hpq]]at hq
      clear HCC HTT hpq
      go_wp2
      go_ret2
      exact⟨by rw[HC.out,HX.out];rfl,K9⟩
     ·have HC:Hid (scanC n u B=4):=by
       show _=_
       rw[HCC.out,if_neg (fun h=>h hEq),if_pos hpq]
      have HX:Hid (scanT n u B=⟨#[]⟩):=by
       show _=_
       rw[HTT.out,if_neg (fun h=>hpq h.2)]
      rw[show(!(decide (pn=n)&&decide (pt=u)))=true from by
       rw[Bool.not_eq_true',Bool.and_eq_false_iff,decide_eq_false_iff_not,decide_eq_false_iff_not]
       by_cases e:pn=n
       ·exact .inr (fun e2=>hpq ⟨e,e2⟩)
       ·exact .inl e]at hq
      clear HCC HTT hpq
      go_wp2
      go_ret2
      exact⟨by rw[HC.out,HX.out];rfl,K9⟩
   ·have HC:Hid (scanC n u B=3):=by
     show _=_
     rw[HCC.out,if_pos hEq]
    have HX:Hid (scanT n u B=⟨#[]⟩):=by
     show _=_
     rw[HTT.out,if_neg (fun h=>hEq h.1)]
    have z1:¬(B.extract (2+D) (2+D+4)).toList=wd.toList:=fun e=>hEq (Go.WideShapes.bytes_inj (by rw[←ByteArray.toList_eq,←ByteArray.toList_eq];exact e))
    clear HCC HTT HPA
    go_cut [55]from 11 (fun v wc=>v= .bool true∧Below w5.heap.size w5 wc)
    case first=>
     go_region_with (first
      |(go_at_call 47;(with_reducible refine(HCS.out _).mono ?_);rintro e x1 ⟨rfl,hx1⟩;subst hx1)
      |(go_at_call 46;(with_reducible refine(HWT.out _).mono ?_);rintro e x2 ⟨rfl,-,LX⟩))
     all_goals
      go_wp2
      go_meet
      case rel=>exact⟨by first|rfl|(simp[z1];done)|(simp[hEq];done)|(simp[hEq];exact z1),by first|exact LX|exact((Below.refl _ _).drew).trans LX|exact(((Below.refl _ _).drew).drew).trans LX⟩
    case rest=>
     obtain⟨rfl,LX⟩:=hcut
     have K6:=Pk.join_below K5 LX
     go_wp2
     go_ret2
     exact⟨by rw[HC.out,HX.out];rfl,K6⟩
  ·have HC:Hid (scanC n u B=2):=by
    show _=_
    unfold scanC
    rw[HTD.out,if_pos hDD]
   have HX:Hid (scanT n u B=⟨#[]⟩):=by
    show _=_
    unfold scanT
    rw[HTD.out,if_neg (fun h=>hDD ⟨h.1,h.2.1⟩)]
   by_cases hD4:D≤400
   ·have hD5:¬D+6≤B.size:=fun h=>hDD ⟨hD4,h⟩
    go_wp2
    go_ret2
    exact⟨by rw[HC.out,HX.out];rfl,by first|exact K5|exact K5.drew⟩
   ·go_wp2
    go_ret2
    exact⟨by rw[HC.out,HX.out];rfl,by first|exact K5|exact K5.drew⟩

end Sq
end Go.Proofs.YtdcpjicgehdmfaaGreatDoor

/- The model's Scan. -/
namespace Go.Proofs.YtdcpjicgehdmfaaGreatDoor
namespace Sq
open Go.ChangeShapes Go.WideShapes Go.ChangeAt Go.RowKit
set_option linter.unusedSimpArgs false
set_option linter.unusedVariables false

set_option maxRecDepth 100000 in
set_option maxHeartbeats 4000000 in
theorem specScan_no (n:Int) (s:ByteArray) (w:World) (hs:s.size≤maxLen) (hh:heartV n s= -1):
 Calls Tryz.prog 15 #[sqV n s] w fun e w'=>e= .returned (.tuple #[.string ⟨#[]⟩,.int .i64 1])∧Below w.heap.size w w':=by
 have HH:Hid (∀W,_):=fun W=>specHeart_val n s W hs
 rw[hh]at HH
 unfold sqV at*
 have N:=Pk.new_below w (.cells #[.int .i64 n,.string s] 39)
 go_enter Tryz.func15,Tryz.ntmps15
 go_wp2_with fail
 with_reducible refine(HH.out _).mono ?_
 rintro e w1 ⟨rfl,L1⟩
 have K:=Pk.join_below N L1
 go_wp2
 go_ret2
 exact⟨rfl,K⟩

theorem conv_part {W:World} {g c:Nat} {B:ByteArray} (C:Cl W g c (fun i=> .int .u8 ((tb B i).toNat:Int))) (hc:c≤B.size) (a b cap:Nat) (hab:a≤b) (hb:b≤c):
 (convert 58 9 (.slice (some ⟨g,a,none⟩) (b-a) cap)).run Tryz.prog W= .ok (.string (B.extract a b)) W:=by
 have hl:(B.extract a b).data.toList.length=b-a:=by
  rw[Array.length_toList]
  show(B.extract a b).size=_
  rw[ByteArray.size_extract]
  omega
 have:=run_convert_bytes_back W 58 9 5 ⟨g,a,none⟩ cap (B.extract a b).data.toList Tryz.underlying58 Tryz.underlying5 Tryz.underlying9 (by
  intro j hj
  have hj2:j<(B.extract a b).size:=hj
  rw[show Addr.add ⟨g,a,none⟩ j=⟨g,a+j,none⟩from by simp[Addr.add],(C (a+j) (by omega)).1]
  have e:(B.extract a b).data.toList[j]=tb B (a+j):=by
   rw[←tb_extract (s:=B) (a:=a) (b:=b) (j:=j) (by omega) (by omega)]
   unfold tb
   rw[List.getD_eq_getElem?_getD,List.getElem?_eq_getElem hj]
   rfl
  rw[e])
 rw[hl]at this
 exact this

set_option maxRecDepth 100000 in
set_option maxHeartbeats 8000000 in
theorem specScan_ok (h:Nat) (s:ByteArray) (w:World) (hok:okQ (2*(h:Int)+1) s=true) (h4:4≤h) (h1:h≤30) (hz:s.size=(2*h+1)*(2*h+1)) (t:Int) (hh:heartV (2*(h:Int)+1) s=t) (ht0:0≤t) (ht3:t≤3) (u B:ByteArray) (hu:turnN (2*(h:Int)+1) s (t%4).toNat=u) (hB:bodyR h u=B):
 Calls Tryz.prog 15 #[sqV (2*(h:Int)+1) s] w fun e w'=>e= .returned (.tuple #[.string (scanT (2*(h:Int)+1) u B),.int .i64 (scanC (2*(h:Int)+1) u B)])∧Below w.heap.size w w':=by
 obtain⟨i0,hi,hz0,hz1,hz2⟩:=Pk.info_of info_u8
 have hsz:(2*h+1)*(2*h+1)≤3721:=Nat.mul_le_mul (by omega:2*h+1≤61) (by omega:2*h+1≤61)
 have hsp:81≤(2*h+1)*(2*h+1):=Nat.mul_le_mul (by omega:9≤2*h+1) (by omega:9≤2*h+1)
 have huz:u.size=(2*h+1)*(2*h+1):=by rw[←hu,turnN_size];exact hz
 have huk:okQ (2*(h:Int)+1) u=true:=by rw[←hu];exact ok_turnN hok _
 have hug:signsFrom u 0=true:=(ok_form huk).choose_spec.2.2.2.2
 have HH:Hid (∀W,_):=fun W=>specHeart_val (2*(h:Int)+1) s W (by unfold maxLen;omega)
 rw[hh]at HH
 have HT:Hid (∀W,_):=fun W=>specTurnBy_val (2*(h:Int)+1) s t W (WalkArith.wf_i64 (by omega)) (by omega)
 rw[hu]at HT
 have hrs:(restS h u).size=u.size-25:=restS_size (by omega)
 have HBZ:Hid (B.size=(u.size-25)/8):=by rw[←hB];show(bodyR h u).size=_;unfold bodyR;rw[strT_size,hrs]
 have HBB:Hid (∀j,j<B.size→(tb B j).toNat=bv (sbit (restS h u)) j 8):=by
  intro j hj
  have hj2:j<(restS h u).size/8:=by have:=HBZ.out;omega
  rw[←hB]
  unfold bodyR
  rw[strT_at _ _ _ hj2,UInt8.toNat_ofNat',Nat.mod_eq_of_lt (bv_lt (sbit_le _) j 8)]
 have HSP:Hid (∀(k:Nat) w,k<u.size→Calls Tryz.prog 31 #[.int .i64 k] w fun e w'=>e= .returned (.tuple #[.int .i64 (wx k),.int .i64 (wy k)])∧w'=w):=by
  intro k w hk
  have:=specSpiral_val k w
  rw[spX_in k (by omega),spY_in k (by omega)]at this
  exact this
 have HIX:Hid (∀k,k<u.size→idx h (wx k) (wy k)<u.size):=fun k hk=>by
  obtain⟨a1,a2,a3,a4⟩:=dist_in (way_dist k h (by omega))
  rw[huz];exact idx_lt a1 a2 a3 a4
 have HP:Hid (∀(k:Nat) (w:World),k<u.size→_):=fun k w hk=>place_val h (wx k) (wy k) w h1 (dist_in (way_dist k h (by omega))).1 (dist_in (way_dist k h (by omega))).2.1 (dist_in (way_dist k h (by omega))).2.2.1 (dist_in (way_dist k h (by omega))).2.2.2
 have HSG:Hid (∀i,25+i<u.size→(tb u (idx h (wx (25+i)) (wy (25+i)))).toNat=48+sbit (restS h u) i):=by
  intro i hi
  have e:tb (restS h u) i=tb u (idx h (wx (25+i)) (wy (25+i))):=by
   unfold restS
   rw[tb_extract (by omega) (by rw[strT_size];omega),strT_at _ _ _ (by omega)]
   rfl
  have h3:=rest_sign (n:=0) h1 huz (by omega) hug i (by omega)
  unfold sbit
  rw[←e]
  rcases h3 with h3|h3<;>rw[h3]<;>rfl
 have HSL:Hid (∀i,_):=sbit_le (restS h u)
 generalize sbit (restS h u)=f at*
 have hA:(2*(h:Int)+1)*(2*(h:Int)+1)=(u.size:Int):=by
  rw[huz,Int.natCast_mul]
  have:((2*h+1:Nat):Int)=2*(h:Int)+1:=by omega
  rw[this]
 have hu81:81≤u.size∧u.size≤3721:=by omega
 have hB7:7≤B.size∧B.size≤500:=by have:=HBZ.out;omega
 have hB8:25+8*B.size≤u.size∧u.size<33+8*B.size:=by have:=HBZ.out;omega
 have hn61:0≤2*(h:Int)+1∧2*(h:Int)+1≤61:=by omega
 clear hsz hsp huz huk hug hrs hu hB hz hok hh HBZ h1 h4
 have N:=Pk.new_below w (.cells #[.int .i64 (2*(h:Int)+1),.string s] 39)
 have m0:Box (w.alloc (.cells #[.int .i64 (2*(h:Int)+1),.string s] 39)) w.heap.size (2*(h:Int)+1) s:=Pk.heap_new _ _
 unfold sqV at*
 generalize 2*(h:Int)+1=n at*
 go_enter Tryz.func15,Tryz.ntmps15
 go_wp2_with fail
 with_reducible refine(HH.out _).mono ?_
 generalize w.alloc (.cells #[.int .i64 n,.string s] 39)=w0 at*
 rintro e w1 ⟨rfl,L1⟩
 have m1:=m0.on L1
 have K1:=Pk.join_below N L1
 clear N L1 m0 HH
 have c0:=m1.n
 have c1:=m1.s
 have ht1:¬t<0:=by omega
 go_wp2_with fail
 with_reducible refine(HT.out _).mono ?_
 rintro e w2 ⟨rfl,L2⟩
 have m2:=m1.on L2
 have K2:=Pk.join_below K1 L2
 have m3:=m2.put n u
 have K3:=(K2.setCell (p:=⟨w.heap.size,0,none⟩) (Nat.le_refl _) (.int .i64 n)).setCell (p:=⟨w.heap.size,1,none⟩) (Nat.le_refl _) (.string u)
 clear L2 m1 K1 c0 c1 HT
 have c0:=m2.n
 have c1:=m2.s
 have f0:=m2.f 0
 have f1:=m2.f 1
 have hS3:((w2.setCell ⟨w.heap.size,0,none⟩ (.int .i64 n)).setCell ⟨w.heap.size,1,none⟩ (.string u)).heap.size=w2.heap.size:=by simp
 go_wp2
 generalize (w2.setCell ⟨w.heap.size,0,none⟩ (.int .i64 n)).setCell ⟨w.heap.size,1,none⟩ (.string u)=w3 at*
 have N4:=Pk.new_below w3 (.cells #[] 5)
 have O4:=own_base (Pk.own_new w3 5) K3.size
 have m4:=m3.on N4
 have K4:=Pk.join_below K3 N4
 clear m2 K2 m3 K3 c0 c1 f0 f1 N4
 generalize w3.alloc (.cells #[] 5)=w4 at*
 rw[hS3]at O4
 clear hS3
 generalize w2.heap.size=g4 at*
 go_loopw [5,6] (fun v i wr=>∃j:Nat,j≤B.size∧i= .int .i64 ((25+8*j:Nat):Int)∧wr.ownsRow w.heap.size 5 1 v j (Pk.bcells (B.data.toList.take j))∧Box wr w.heap.size n u∧Hid (Below w.heap.size w wr)) (fun _ i _=>33+8*B.size-(intOf i).toNat)
 case atStart=>exact⟨0,by omega,rfl,O4,m4,K4⟩
 case round=>
  clear O4 m4 K4
  obtain⟨j,hj,rfl,O,m5,K5⟩:=hrel
  obtain⟨K,hK⟩:∃K,25+8*j=K:=⟨_,rfl⟩
  have c0:=m5.n
  have c1:=m5.s
  by_cases hlt:j<B.size
  ·rw[hK]
   have hKl:(K:Int)+8≤(u.size:Int):=by omega
   have hKu:K<4000:=by omega
   have HXB:Hid (_):=HBB.out j hlt
   have hx8:=bv_lt HSL.out j 8
   have hxT:B.data.toList.take (j+1)=B.data.toList.take j++ [tb B j]:=by
    rw[Math.take_snoc B j hlt]
    unfold tb
    rw[getD_at B j hlt]
   have HTK:Hid (_):=hxT
   clear hxT
   go_wp2
   go_loopw [7,8] (fun b i wx=>∃m:Nat,m≤8∧i= .int .i64 m∧b= .int .i64 ((bv f j m:Nat):Int)∧Box wx w.heap.size n u∧Hid (Below wr.heap.size wr wx)) (fun _ i _=>8-(intOf i).toNat)
   case atStart=>exact⟨0,by omega,rfl,rfl,m5,Below.refl _ _⟩
   case round=>
    obtain⟨m,hm,rfl,rfl,m6,L6⟩:=hrel
    by_cases hm8:m<8
    ·have hkm:K+m<u.size:=by omega
     have J:=HIX.out (K+m) hkm
     have X1:Hid (∀W,Calls Tryz.prog 31 #[.int .i64 ((K:Int)+(m:Int))] W fun e w'=>e= .returned (.tuple #[.int .i64 (wx (K+m)),.int .i64 (wy (K+m))])∧w'=W):=by
      intro W
      rw[show(K:Int)+(m:Int)=((K+m:Nat):Int)from by omega]
      exact HSP.out (K+m) W hkm
     have X2:Hid (∀W,_):=fun W=>HP.out (K+m) W hkm
     have hsg:=HSG.out (8*j+m) (by omega)
     rw[show 25+(8*j+m)=K+m from by omega,show tb u (idx h (wx (K+m)) (wy (K+m)))=u[idx h (wx (K+m)) (wy (K+m))]from getD_at u _ J]at hsg
     have HV:Hid (bv f j (m+1)=2*bv f j m+f (8*j+m)):=rfl
     have hv7:bv f j m<128:=by
      have h1:=bv_lt HSL.out j m
      have h2:2^m≤2^7:=Nat.pow_le_pow_right (by omega) (by omega)
      omega
     have hfl:=HSL.out (8*j+m)
     generalize f (8*j+m)=sb at*
     generalize bv f j m=bb at*
     generalize idx h (wx (K+m)) (wy (K+m))=i2 at*
     generalize wx (K+m)=x at*
     generalize wy (K+m)=y at*
     have hk1:(0:Int)≤(i2:Int):=by omega
     have hk2:(i2:Int)<(u.size:Int):=by omega
     have hsI:(u[i2].toNat:Int)=48+(sb:Int):=by omega
     have z1:IntKind.i64.wrap (48+(sb:Int))=48+(sb:Int):=by rw[IntKind.wrap_i64];omega
     have z2:IntKind.i64.wrap (2*(bb:Int))=2*(bb:Int):=by rw[IntKind.wrap_i64];omega
     have z3:IntKind.i64.wrap (2*(bb:Int)+(48+(sb:Int)))=2*(bb:Int)+(48+(sb:Int)):=by rw[IntKind.wrap_i64];omega
     have z4:IntKind.i64.wrap (2*(bb:Int)+(48+(sb:Int))-48)=2*(bb:Int)+(48+(sb:Int))-48:=by rw[IntKind.wrap_i64];omega
     have c0:=m6.n
     have c1:=m6.s
     go_wp2_with fail
     with_reducible refine(X1.out _).mono ?_
     rintro e w7 ⟨rfl,rfl⟩
     go_wp2
     go_region_held3 (fun w'=>w'.cell? ⟨w.heap.size,0,none⟩=some (.int .i64 n)∧w'.cell? ⟨w.heap.size,1,none⟩=some (.string u)) (go_keep) (first
      |(go_at_call 32;refine(X2.out _).mono ?_;rintro e x2 ⟨rfl,rfl⟩))
     all_goals
      go_wp2
      go_roundw
      case rel=>exact⟨m+1,by omega,by go_num,by rw[HV.out];go_num,by first|exact m6|exact m6.drew,by first|exact L6|exact L6.out.drew⟩
      case measure=>simp[intOf];omega
    ·obtain rfl:m=8:=by omega
     have O6:=Pk.own_below O L6.out (Nat.le_refl _)
     have K6:=Pk.join_below K5.out L6.out
     have hneR:some w.heap.size≠u5.ownBlock:=Pk.own_ne O6 m6 (by decide)
     generalize bv f j 8=xx at*
     have z8:IntKind.u8.wrap (xx:Int)=(xx:Int):=by rw[IntKind.wrap_u8];omega
     have hBr:w.heap.size≤wr.heap.size:=K6.size
     go_wp2_with (at_builtin;refine wpList_append_own _ rfl _ _ 58 rfl w.heap.size 5 i0 (.int .u8 0) 1 1 Tryz.underlying58 hi hz0 hz1 hz2 rfl (by decide) _ _ _ rfl (O6.alloc _) ⟨wr.heap.size,0,none⟩ 1 1 [.int .u8 xx] rfl rfl ?c1 ?c2 ?c3 ?c4 ?c5 ?_)
     case c1=>exact cell_one_new _ _ _
     case c2=>intro u hu;simp at hu;subst hu;rfl
     case c3=>unfold maxLen;omega
     case c4=>omega
     case c5=>simp;omega
     intro v' w8 own8 grow8 _
     have L8:Below w.heap.size w w8:=(K6.alloc hBr _).grown grow8 (by simp;omega) (fun m h=>Pk.own_ge O6 m h)
     have m8:Box w8 w.heap.size n u:=Box.grown (Pk.heap_old m6 (.cells #[.int .u8 xx] 5)) grow8 hneR
     rw[show([.int .u8 (xx:Int)]:List Value)= [.int .u8 ((tb B j).toNat:Int)]from by rw[HXB.out],Pk.bcells_snoc,←HTK.out]at own8
     clear grow8
     go_wp2
     go_roundw
     case rel=>exact⟨j+1,by omega,by rw[←hK];go_num,own8,m8,L8⟩
     case measure=>simp[intOf];omega
  ·obtain rfl:j=B.size:=by omega
   have hKl:¬(K:Int)+8≤(u.size:Int):=by omega
   have hKu:K<4000:=by omega
   rw[hK]
   rw[show B.data.toList.take B.size=B.data.toList from Math.take_all B]at O
   obtain⟨g,cap,rfl⟩:=own_pos O (by omega)
   obtain⟨cur,mg,-,hgw⟩:=own_blk O
   have C:=own_Cl (f:=fun i=> .int .u8 ((tb B i).toNat:Int)) O (fun i hi=>by
    rw[Pk.bcells_at _ _ (by rw[Array.length_toList];exact hi)]
    unfold tb
    rw[List.getD_eq_getElem?_getD,List.getElem?_eq_getElem (by rw[Array.length_toList];exact hi)]
    rfl)
   have hgl:=Pk.lt_of mg
   have hcap:B.size≤cap∧cap≤maxLen:=by
    obtain⟨-,h2⟩:=O
    rcases h2 with⟨hv,-⟩|⟨g2,cap2,cur2,hv,-,-,h3,h4,-,-⟩
    ·cases hv
    ·simp only[Value.slice.injEq]at hv
     rw[hv.2.2]
     exact⟨h3,h4⟩
   unfold maxLen at hcap
   obtain⟨hcap,hcapM⟩:=hcap
   clear O mg HSP HIX HP HSG HBB HSL
   obtain⟨b0,hb0⟩:∃b:Nat,(tb B 0).toNat=b:=⟨_,rfl⟩
   obtain⟨b1,hb1⟩:∃b:Nat,(tb B 1).toNat=b:=⟨_,rfl⟩
   have l0:b0<256:=by rw[←hb0];exact(tb B 0).toNat_lt
   have l1:b1<256:=by rw[←hb1];exact(tb B 1).toNat_lt
   have r0:wr.cell? ⟨g,0,none⟩=some (.int .u8 ((tb B 0).toNat:Int)):=(C 0 (by omega)).1
   have r1:wr.cell? ⟨g,1,none⟩=some (.int .u8 ((tb B 1).toNat:Int)):=(C 1 (by omega)).1
   rw[hb0]at r0
   rw[hb1]at r1
   obtain⟨D,hD⟩:∃D:Nat,b0*256+b1=D:=⟨_,rfl⟩
   have HTD:Hid (told B=D):=by show _=_;unfold told;rw[hb0,hb1];exact hD
   have q1:(b0:Int)*256+(b1:Int)=(D:Int):=by omega
   have hD6:D<65536:=by omega
   have hB0:(0:Int)<(B.size:Int):=by omega
   have hB1:(1:Int)<(B.size:Int):=by omega
   have z0:IntKind.i64.wrap (b0:Int)=b0:=by rw[IntKind.wrap_i64];omega
   have z1:IntKind.i64.wrap (b1:Int)=b1:=by rw[IntKind.wrap_i64];omega
   clear hD hb0 hb1
   have hcv:∀(W:World) (a b cp:Nat),Below wr.heap.size wr W→a≤b→b≤B.size→(convert 58 9 (.slice (some ⟨g,a,none⟩) (b-a) cp)).run Tryz.prog W= .ok (.string (B.extract a b)) W:=fun W a b cp L hab hb=>conv_part (C.on L hgl) (Nat.le_refl _) a b cp hab hb
   have HCV:Hid (_):=hcv
   clear hcv C
   go_wp2
   go_region
   all_goals
    by_cases hDD:D≤400∧D+6≤B.size
    ·obtain⟨hD4,hD5⟩:=hDD
     have hDi:(D:Int)+6≤(B.size:Int):=by omega
     have HCS:Hid (∀W,_):=fun W=>Num.specCheckSum_any (B.extract 2 (2+D)) W (by rw[ByteArray.size_extract];unfold maxLen;omega)
     have HWT:Hid (∀W,_):=fun W=>Num.specWordText_any (Math.crc (B.extract 2 (2+D)).data.toList) W (Math.crc_lt _)
     have HPA:Hid (∀W,_):=fun W=>specPaint_val (B.extract 2 (2+D)) W (by rw[ByteArray.size_extract];unfold maxLen;omega)
     have HCC:Hid (scanC n u B=if ¬(B.extract (2+D) (2+D+4)=Num.wordS (Math.crc (B.extract 2 (2+D)).data.toList))then 3 else if ¬(pnV (B.extract 2 (2+D))=n∧ptV (B.extract 2 (2+D))=u)then 4 else 0):=by
      show _=_
      unfold scanC
      rw[HTD.out,if_neg (fun h=>h ⟨hD4,hD5⟩)]
     have HTT:Hid (scanT n u B=if B.extract (2+D) (2+D+4)=Num.wordS (Math.crc (B.extract 2 (2+D)).data.toList)∧pnV (B.extract 2 (2+D))=n∧ptV (B.extract 2 (2+D))=u then B.extract 2 (2+D)else⟨#[]⟩):=by
      show _=_
      unfold scanT
      rw[HTD.out]
      by_cases hx:B.extract (2+D) (2+D+4)=Num.wordS (Math.crc (B.extract 2 (2+D)).data.toList)∧pnV (B.extract 2 (2+D))=n∧ptV (B.extract 2 (2+D))=u
      ·rw[if_pos ⟨hD4,hD5,hx⟩,if_pos hx]
      ·rw[if_neg (fun h=>hx h.2.2),if_neg hx]
     have hcA:∀cp:Nat,(convert 58 9 (.slice (some ⟨g,2,none⟩) D cp)).run Tryz.prog wr.drew= .ok (.string (B.extract 2 (2+D))) wr.drew:=by
      intro cp
      have h2:=HCV.out wr.drew 2 (2+D) cp (Below.refl _ _).drew (by omega) (by omega)
      rw[show 2+D-2=D from by omega]at h2
      exact h2
     have HCB:Hid (∀(W:World) (cp:Nat),Below wr.heap.size wr W→(convert 58 9 (.slice (some ⟨g,2+D,none⟩) 4 cp)).run Tryz.prog W= .ok (.string (B.extract (2+D) (2+D+4))) W):=by
      intro W cp L
      have h2:=HCV.out W (2+D) (2+D+4) cp L (by omega) (by omega)
      rw[show 2+D+4-(2+D)=4 from by omega]at h2
      exact h2
     clear HCV
     unfold sqV at HPA
     generalize B.extract 2 (2+D)=tx at*
     generalize Math.crc tx.data.toList=cr at*
     generalize Num.wordS cr=wd at*
     generalize pnV tx=pn at*
     generalize ptV tx=pt at*
     generalize decide (tx.size≤400)=bt at*
     have y1:2+(D:Int)≤(cap:Int):=by omega
     have y2:6+(D:Int)≤(cap:Int):=by omega
     have y3:¬cap=2:=by omega
     have y4:¬cap=2+D:=by omega
     have y5:(2+(D:Int)).toNat=2+D:=by omega
     have y6:(6+(D:Int)).toNat=6+D:=by omega
     have y7:6+D-(2+D)=4:=by omega
     have y8:2+D-2=D:=by omega
     have y9:(2:Int)≤2+(D:Int):=by omega
     have y10:2+(D:Int)≤6+(D:Int):=by omega
     have y11:IntKind.i64.wrap (6+(D:Int))=6+(D:Int):=by rw[IntKind.wrap_i64];omega
     have y12:IntKind.i64.wrap (2+(D:Int))=2+(D:Int):=by rw[IntKind.wrap_i64];omega
     have y13:(0:Int)≤6+(D:Int):=by omega
     have y14:(0:Int)≤2+(D:Int):=by omega
     have hsl:∀W,(Instr.slice 58 (.slice (some ⟨g,0,none⟩) B.size cap) (some (.int .i64 (2+(D:Int)))) (some (.int .i64 (6+(D:Int)))) none).run Tryz.prog W= .ok (.slice (some ⟨g,2+D,none⟩) 4 (cap-(2+D))) W:=fun W=>by
      simp[go_sem,Tryz.underlying58,y1,y2,y3,y4,y5,y6,y7,y9,y10,y13,y14]
      try omega
     have hcB1:=fun cp=>HCB.out wr.drew.drew cp ((Below.refl _ _).drew).drew
     have hcB0:=fun cp=>HCB.out wr.drew cp (Below.refl _ _).drew
     go_wp2
     by_cases hEq:B.extract (2+D) (2+D+4)=wd
     ·go_cut [96]from 15 (fun v wc=>v= .bool false∧Below wr.heap.size wr wc)
      case first=>
       go_region_with (first
        |(go_at_call 34;(with_reducible refine(HCS.out _).mono ?_);rintro e x1 ⟨rfl,hx1⟩;subst hx1)
        |(go_at_call 33;(with_reducible refine(HWT.out _).mono ?_);rintro e x2 ⟨rfl,-,LX⟩;have L2:Below wr.heap.size wr x2:=(by first|exact LX|exact((Below.refl _ _).drew).trans LX|exact(((Below.refl _ _).drew).drew).trans LX|exact((((Below.refl _ _).drew).drew).drew).trans LX);have hcB2:=fun cp=>HCB.out x2 cp L2))
       all_goals
        go_wp2
        go_meet
        case rel=>exact⟨by first|rfl|(simp[hEq];done),by first|exact L2|exact L2.drew⟩
      case rest=>
       obtain⟨rfl,LX⟩:=hcut
       have m6:=m5.on LX
       have K6:=Pk.join_below K5.out LX
       clear m5 K5 LX HCS HWT HCB hcB1 hcB0 hcA hsl y1 y2 y3 y4 y5 y6 y7 y8 y9 y10 y11 y12 y13 y14 q1
       go_wp2_with fail
       with_reducible refine(HPA.out _).mono ?_
       rintro e w7 ⟨rfl,L7⟩
       have m7:=m6.on L7
       have K7:=Pk.join_below K6 L7
       have hne:w.heap.size≠w7.heap.size:=by
        have:=Pk.lt_of m7
        omega
       have x9:Box (w7.alloc (.cells #[.int .i64 pn,.string pt] 39)) w7.heap.size pn pt:=Pk.heap_new w7 _
       have N8:=Pk.new_below w7 (.cells #[.int .i64 pn,.string pt] 39)
       have m9:=m7.on N8
       have K9:=Pk.join_below K7 N8
       have c0:=m9.n
       have c1:=m9.s
       have d0:=x9.n
       have d1:=x9.s
       have hq:=neq_any pn n pt u
       by_cases hpq:pn=n∧pt=u
       ·have HC:Hid (scanC n u B=0):=by
         show _=_
         rw[HCC.out,if_neg (fun h=>h hEq),if_neg (fun h=>h hpq)]
        have HX:Hid (scanT n u B=tx):=by
         show _=_
         rw[HTT.out,if_pos ⟨hEq,hpq⟩]
        rw[show(!(decide (pn=n)&&decide (pt=u)))=false from by simp[hpq]]at hq
        clear HCC HTT hpq
        go_wp2
        go_ret2
        exact⟨by rw[HC.out,HX.out];rfl,K9⟩
       ·have HC:Hid (scanC n u B=4):=by
         show _=_
         rw[HCC.out,if_neg (fun h=>h hEq),if_pos hpq]
        have HX:Hid (scanT n u B=⟨#[]⟩):=by
         show _=_
         rw[HTT.out,if_neg (fun h=>hpq h.2)]
        rw[show(!(decide (pn=n)&&decide (pt=u)))=true from by
         rw[Bool.not_eq_true',Bool.and_eq_false_iff,decide_eq_false_iff_not,decide_eq_false_iff_not]
         by_cases e:pn=n
         ·exact .inr (fun e2=>hpq ⟨e,e2⟩)
         ·exact .inl e]at hq
        clear HCC HTT hpq
        go_wp2
        go_ret2
        exact⟨by rw[HC.out,HX.out];rfl,K9⟩
     ·have HC:Hid (scanC n u B=3):=by
       show _=_
       rw[HCC.out,if_pos hEq]
      have HX:Hid (scanT n u B=⟨#[]⟩):=by
       show _=_
       rw[HTT.out,if_neg (fun h=>hEq h.1)]
      have z1:¬(B.extract (2+D) (2+D+4)).toList=wd.toList:=fun e=>hEq (Go.WideShapes.bytes_inj (by rw[←ByteArray.toList_eq,←ByteArray.toList_eq];exact e))
      clear HCC HTT HPA
      go_cut [96]from 15 (fun v wc=>v= .bool true∧Below wr.heap.size wr wc)
      case first=>
       go_region_with (first
        |(go_at_call 34;(with_reducible refine(HCS.out _).mono ?_);rintro e x1 ⟨rfl,hx1⟩;subst hx1)
        |(go_at_call 33;(with_reducible refine(HWT.out _).mono ?_);rintro e x2 ⟨rfl,-,LX⟩;have L2:Below wr.heap.size wr x2:=(by first|exact LX|exact((Below.refl _ _).drew).trans LX|exact(((Below.refl _ _).drew).drew).trans LX|exact((((Below.refl _ _).drew).drew).drew).trans LX);have hcB2:=fun cp=>HCB.out x2 cp L2))
       all_goals
        go_wp2
        go_meet
        case rel=>exact⟨by first|rfl|(simp[z1];done)|(simp[hEq];done)|(simp[hEq];exact z1),by first|exact L2|exact L2.drew⟩
      case rest=>
       obtain⟨rfl,LX⟩:=hcut
       have K6:=Pk.join_below K5.out LX
       go_wp2
       go_ret2
       exact⟨by rw[HC.out,HX.out];rfl,K6⟩
    ·have HC:Hid (scanC n u B=2):=by
      show _=_
      unfold scanC
      rw[HTD.out,if_pos hDD]
     have HX:Hid (scanT n u B=⟨#[]⟩):=by
      show _=_
      unfold scanT
      rw[HTD.out,if_neg (fun h=>hDD ⟨h.1,h.2.1⟩)]
     by_cases hD4:D≤400
     ·have hD5:¬D+6≤B.size:=fun h=>hDD ⟨hD4,h⟩
      go_wp2
      go_ret2
      exact⟨by rw[HC.out,HX.out];rfl,by first|exact K5.out|exact K5.out.drew⟩
     ·go_wp2
      go_ret2
      exact⟨by rw[HC.out,HX.out];rfl,by first|exact K5.out|exact K5.out.drew⟩

end Sq
end Go.Proofs.YtdcpjicgehdmfaaGreatDoor

/- Scan, of the program and of its model, whatever the square. -/
namespace Go.Proofs.YtdcpjicgehdmfaaGreatDoor
namespace Sq
open Go.ChangeShapes Go.WideShapes Go.ChangeAt Go.RowKit
set_option linter.unusedSimpArgs false
set_option linter.unusedVariables false

def upS (n:Int) (s:ByteArray):ByteArray:=turnN n s (heartV n s%4).toNat

def scT (n:Int) (s:ByteArray):ByteArray:=if heartV n s= -1 then⟨#[]⟩else scanT n (upS n s) (bodyR (Int.tdiv n 2).toNat (upS n s))

def scC (n:Int) (s:ByteArray):Int:=if heartV n s= -1 then 1 else scanC n (upS n s) (bodyR (Int.tdiv n 2).toNat (upS n s))

theorem heart_ok {n:Int} {s:ByteArray} (h:¬heartV n s= -1):okQ n s=true:=by
 cases hok:okQ n s
 ·exact absurd (heartV_no hok) h
 ·rfl

theorem implScan_val (n:Int) (s:ByteArray) (w:World) (hs:s.size≤maxLen):
 Calls Tryz.prog 20 #[sqV n s] w fun e w'=>e= .returned (.tuple #[.string (scT n s),.int .i64 (scC n s)])∧Below w.heap.size w w':=by
 unfold scT scC
 by_cases hh:heartV n s= -1
 ·rw[if_pos hh,if_pos hh]
  exact implScan_no n s w hs hh
 ·rw[if_neg hh,if_neg hh]
  have hok:=heart_ok hh
  obtain⟨h,h4,h1,rfl,hz,hg⟩:=ok_form hok
  have hb:=heart_bd (n:=2*(h:Int)+1) (s:=s)
  rw[half_is,Int.toNat_natCast]
  exact implScan_ok h s w hok h4 h1 hz _ rfl (by omega) (by omega) _ _ rfl rfl

theorem specScan_val (n:Int) (s:ByteArray) (w:World) (hs:s.size≤maxLen):
 Calls Tryz.prog 15 #[sqV n s] w fun e w'=>e= .returned (.tuple #[.string (scT n s),.int .i64 (scC n s)])∧Below w.heap.size w w':=by
 unfold scT scC
 by_cases hh:heartV n s= -1
 ·rw[if_pos hh,if_pos hh]
  exact specScan_no n s w hs hh
 ·rw[if_neg hh,if_neg hh]
  have hok:=heart_ok hh
  obtain⟨h,h4,h1,rfl,hz,hg⟩:=ok_form hok
  have hb:=heart_bd (n:=2*(h:Int)+1) (s:=s)
  rw[half_is,Int.toNat_natCast]
  exact specScan_ok h s w hok h4 h1 hz _ rfl (by omega) (by omega) _ _ rfl rfl

end Sq
end Go.Proofs.YtdcpjicgehdmfaaGreatDoor

/- For every device, square, train and day the law of InspectFrame answers true: the program's InspectFrame and its model return the same device and the same answer, the program's in memory of its own; nothing of what came in is turned, and a further call leaves the first answer as it was. The program's own errors and its table of runs, and the tables of the library that are listed, are as their text lays them (the card ties them; over a pruned copy of the project). -/
import Derived.Test.YtdcpjicgehdmfaaGreatDoorErrs
import Derived.Test.YtdcpjicgehdmfaaGreatDoorManyAFnExactInspectFrame
import Derived.ShutString
import Derived.Lib.SmallJoins
import Derived.Test.YtdcpjicgehdmfaaGreatDoorCards
import Derived.Test.YtdcpjicgehdmfaaGreatDoorTie
import Derived.Test.YtdcpjicgehdmfaaGreatDoorManyCFnExactInspectFrame
import Derived.Deep.Cut
import Derived.Test.YtdcpjicgehdmfaaGreatDoorManyDFnExactInspectFrame
namespace Go.Proofs.YtdcpjicgehdmfaaGreatDoor.fnExactInspectFrame
open Go.ChangeShapes Go.WideShapes Go.ChangeAt Go.RowKit Go.Joins
open Go.ChangeMaps (open_string shut_string)
set_option linter.unusedVariables false
set_option linter.unusedSimpArgs false

theorem rdok_of {t:Tk.Hd} {nm:ByteArray} {ls:List Tk.Lg} {c base:Nat} {e:Ending} {w:World} (h:Re.ReadIs t nm ls c base e w):Hn.RdOk t nm ls c base e w:=by
 obtain⟨a,cap,he,O⟩:=h
 obtain⟨x1,y1,e1,I1⟩:=Gt.own_legs O
 simp only[Value.slice.injEq,true_and]at e1
 obtain⟨rfl,rfl⟩:=e1
 refine⟨a,cap,he,I1,fun b o hb hne=> ?_⟩
 subst hb
 exact(O.lt b rfl).1

theorem rt_zero {C:Nat} {t:Tk.Hd} (h:C≠0):(Re.rT C t).id=0:=by
 unfold Re.rT
 rw[if_neg h]

theorem far_mine {lo hi lo':Nat} {w:World} {x:Hn.Pl} {o:Hn.Hnd} {g1 g2:Nat} (h:Hn.Mine lo' w x o g1 g2) (hh:hi≤lo'):Hn.Far lo hi x o:=
 Hn.Far.mine (hi:=hi) ⟨h.ne,Nat.le_trans hh h.lo1,Nat.le_trans hh h.lo2,h.off,h.seen⟩

theorem szSquare_z (n:Int) (s:ByteArray) (z:Int) (w:World) (hz:0≤z) (hz2:z≤1048576) (hs:s.size≤maxLen):
 Calls Tryz.prog 5 #[.agg #[.int .i64 n,.string s],.int .i64 z] w fun e w'=>e= .returned (.int .i64 (if(s.size:Int)≤z then z-(s.size:Int)else-1))∧Below w.heap.size w w':=by
 unfold maxLen at hs
 have N:=Pk.new_below w (.cells #[.int .i64 n,.string s] 29)
 by_cases h:(s.size:Int)≤z
 ·rw[if_pos h]
  have hd:decide (z-(s.size:Int)<0)=false:=decide_eq_false (by omega)
  go_enter Tryz.func5,Tryz.ntmps5
  go_wp2
  go_ret
  exact⟨rfl,N⟩
 ·rw[if_neg h]
  have hd:decide (z-(s.size:Int)<0)=true:=decide_eq_true (by omega)
  go_enter Tryz.func5,Tryz.ntmps5
  go_wp2
  go_ret
  exact⟨rfl,N⟩

structure Got (v wc:World) (y:Hn.Pl) (R:Hn.Hnd) (A lo hi g1 g2:Nat):Prop where
 box:wc.heap[A]? =some (Hn.hnB y R 35)
 isin:Hn.In wc y R
 mine:Hn.Mine lo wc y R g1 g2
 off:R.ol.length=0∨(y.a=some ⟨g1,0,none⟩∧g1<hi)
 seen:R.sl.length=0∨(y.b=some ⟨g2,0,none⟩∧g2<hi)
 below:Below v.heap.size v wc
 lo1:v.heap.size≤lo
 loA:v.heap.size≤A
 apart:A<lo∨hi≤A
 le:hi≤wc.heap.size

theorem got_new {v n:World} {y:Hn.Pl} {R:Hn.Hnd} {lo:Nat} (C:Hn.Copied lo n y R) (M:Below v.heap.size v n) (h:v.heap.size≤lo):∃g1 g2,Got v (n.alloc (Hn.hnB y R 35)) y R n.heap.size lo n.heap.size g1 g2:=by
 obtain⟨g1,g2,m⟩:=C.mine
 have N:=Pk.new_below n (Hn.hnB y R 35)
 exact⟨g1,g2,Pk.heap_new n _,C.in.on N,m.on N,m.off.imp_right fun h=>⟨h.1,h.2.1⟩,m.seen.imp_right fun h=>⟨h.1,h.2.1⟩,Pk.join_below M N,h,M.size,Or.inr (Nat.le_refl _),N.size⟩

theorem put9_size {n:World} {A:Nat} {v0 v1 v2 v3 v4 v5 v6 v7 v8:Value}:(Hn.put9 n A v0 v1 v2 v3 v4 v5 v6 v7 v8).heap.size=n.heap.size:=by
 unfold Hn.put9
 simp only[World.size_setCell]

theorem got_put {v n:World} {y:Hn.Pl} {R:Hn.Hnd} {A lo:Nat} (C:Hn.Copied lo n y R) (z:n.heap[A]? =some (.cells #[.int .i64 0,.int .i64 0,.int .i64 0,.int .i64 0,.int .i64 0,.int .i64 0,.int .i64 0,.slice none 0 0,.slice none 0 0] 35)) (hA:A<lo) (hv:v.heap.size≤A) (M:Below v.heap.size v n):∃g1 g2,Got v (Hn.put9 n A (.int .i64 R.dv) (.int .i64 R.p) (.int .i64 R.q) (.int .i64 R.g) (.int .i64 R.op) (.int .i64 R.is) (.int .i64 R.ve) (.slice y.a R.ol.length y.c) (.slice y.b R.sl.length y.d)) y R A lo n.heap.size g1 g2:=by
 have s:Hn.Sw A A n (Hn.put9 n A (.int .i64 R.dv) (.int .i64 R.p) (.int .i64 R.q) (.int .i64 R.g) (.int .i64 R.op) (.int .i64 R.is) (.int .i64 R.ve) (.slice y.a R.ol.length y.c) (.slice y.b R.sl.length y.d)):=⟨put9_size,fun b h _=>Hn.put9_other h ..⟩
 have D:Hn.Copied lo (Hn.put9 n A (.int .i64 R.dv) (.int .i64 R.p) (.int .i64 R.q) (.int .i64 R.g) (.int .i64 R.op) (.int .i64 R.is) (.int .i64 R.ve) (.slice y.a R.ol.length y.c) (.slice y.b R.sl.length y.d)) y R:=⟨s.own C.off hA hA,s.own C.seen hA hA⟩
 obtain⟨g1,g2,m⟩:=D.mine
 exact⟨g1,g2,Hn.put9_heap z ..,D.in,m,m.off.imp_right fun h=>⟨h.1,by have:=h.2.1;rw[put9_size]at this;exact this⟩,m.seen.imp_right fun h=>⟨h.1,by have:=h.2.1;rw[put9_size]at this;exact this⟩,Hn.put9_below M hv ..,Nat.le_trans hv (Nat.le_of_lt hA),hv,Or.inl hA,by rw[put9_size];exact Nat.le_refl _⟩

set_option maxRecDepth 100000 in
set_option maxHeartbeats 30000000 in
theorem walk (x0:Hn.Pl) (o0:Hn.Hnd) (a1:Int) (w1:(Lit.int .i64 a1).wf=true) (s1:ByteArray) (ws1:s1.size≤maxLen) (a2:Int) (w2:(Lit.int .i64 a2).wf=true) (a3:Int) (w3:(Lit.int .i64 a3).wf=true) (w:World) (w0:Hn.In w x0 o0∧Hn.Lim o0) (T:Num.Tens w) (E_errParams:Errs.ErrAt 1 w) (E_errOpen:Errs.ErrAt 2 w) (E_errMark:Errs.ErrAt 3 w) (E_errText:Errs.ErrAt 4 w) (R:Pk.Runs w) (SH:w.ShapedOpen Tryz.prog):
 Calls Tryz.prog 3 #[Hn.hnV x0 o0,.agg #[.int .i64 a1,.string s1],.int .i64 a2,.int .i64 a3] w fun e w'=>e= .returned (.bool true)∧Below w.heap.size w w':=by
 obtain⟨I,LM⟩:=w0
 have hm1:o0.ol.length≤maxLen:=LM.ol
 have hm2:o0.sl.length≤maxLen:=LM.sl
 have HM:Hid (o0.ol.length≤maxLen∧o0.sl.length≤maxLen):=⟨hm1,hm2⟩
 clear LM hm1 hm2
 by_cases hb:(o0.ol.length:Int)+(o0.sl.length:Int)≤1048576
 ·by_cases hb2:(s1.size:Int)≤1048576-(o0.ol.length:Int)-(o0.sl.length:Int)
  ·have hz:o0.ol.length≤1048576:=by omega
   have hz2:o0.sl.length≤1048576:=by omega
   have hd0:decide (1048576-(o0.ol.length:Int)-(o0.sl.length:Int)<0)=false:=decide_eq_false (by omega)
   have HTO:Hid (∀(W:World),Hn.In W x0 o0→_):=fun W h=>Hn.toHand_val x0 o0 W hz hz2 h
   have HEO:Hid (∀(x y:Hn.Pl) (W:World),Hn.In W x o0→Hn.In W y o0→_):=fun x y W h k=>Hn.eqHand_same x y o0 W hz hz2 h k
   have HSZ:Hid (∀(W:World),_):=fun W=>Hn.szHand_yes x0 o0 1048576 W (by omega) hb
   have HZO:Hid (o0.ol.length≤1048576∧o0.sl.length≤1048576):=⟨hz,hz2⟩
   have HTQ:Hid (∀W:World,_):=fun W=>Sq.toSquare_val a1 s1 W
   have HSQ:Hid (∀W:World,_):=fun W=>szSquare_z a1 s1 (1048576-(o0.ol.length:Int)-(o0.sl.length:Int)) W (by omega) (by omega) ws1
   rw[if_pos hb2]at HSQ
   have hd2:decide (1048576-(o0.ol.length:Int)-(o0.sl.length:Int)-(s1.size:Int)<0)=false:=decide_eq_false (by omega)
   have hs:=Hn.scan_size a1 s1
   obtain⟨t0,nm0,ls0,ok,hl60,H⟩:=Gt.get_one (Fr.fP (Sq.scT a1 s1))
   have ML0:=Gt.ml_of SH
   have hRL:=R.lt
   obtain⟨RT,RN,RL,C,HRS,HRI,hCz,hL6⟩:∃(RT:Tk.Hd) (RN:ByteArray) (RL:List Tk.Lg) (C:Nat),(∀W:World,Calls Tryz.prog 39 #[.agg #[.int .i64 o0.p,.int .i64 o0.q,.int .i64 o0.g],.int .i64 o0.op,.int .i64 o0.is,.string (Sq.scT a1 s1)] W fun e w'=>Hn.RdOk RT RN RL C W.heap.size e w'∧Below W.heap.size W w')∧(∀W:World,Below w.heap.size w W→Calls Tryz.prog 80 #[.agg #[.int .i64 o0.p,.int .i64 o0.q,.int .i64 o0.g],.int .i64 o0.op,.int .i64 o0.is,.string (Sq.scT a1 s1)] W fun e w'=>Hn.RdOk RT RN RL C W.heap.size e w'∧Below W.heap.size W w')∧(C≠0→RT.id=0)∧RL.length≤6:=
    ⟨Re.rT (Re.rC o0.p o0.q o0.g o0.op o0.is (Sq.scT a1 s1) ok) t0,Re.rN (Re.rC o0.p o0.q o0.g o0.op o0.is (Sq.scT a1 s1) ok) nm0,Re.rL (Re.rC o0.p o0.q o0.g o0.op o0.is (Sq.scT a1 s1) ok) ls0,Re.rC o0.p o0.q o0.g o0.op o0.is (Sq.scT a1 s1) ok,
     fun W=>(Re.specRead_val o0.p o0.q o0.g o0.op o0.is (Sq.scT a1 s1) W hs H).mono fun e w' h=>⟨rdok_of h.1,h.2⟩,
     fun W K=>(Re.implRead_val o0.p o0.q o0.g o0.op o0.is (Sq.scT a1 s1) W hs H (R.on K hRL) (E_errParams.on K) (E_errOpen.on K) (E_errMark.on K) (E_errText.on K) (ML0.on K) (T.on K)).mono fun e w' h=>⟨rdok_of h.1,h.2⟩,
     fun h=>rt_zero h,Re.rL_len hl60⟩
   have hz3:RL.length≤1048576:=by omega
   have HS:Hid (∀(x:Hn.Pl) (W:World),Hn.In W x o0→Hn.Flat x→_):=fun x W h f=>Hn.specFrm_val x o0 a1 s1 HRS hCz a2 a3 W ws1 hz hz2 hz3 h f
   have HI:Hid (∀(x:Hn.Pl) (W:World),Below w.heap.size w W→Hn.In W x o0→Hn.Flat x→_):=fun x W k h f=>Hn.implFrm_val x o0 a1 s1 HRI hCz a2 a3 W k ws1 hz hz2 hz3 h f
   have HZ:Hid ((Hn.insO (Hn.insB o0 a2 a3) o0 (Hn.ctlO o0 C RT RL a2 a3)).ol.length≤1048576∧(Hn.insO (Hn.insB o0 a2 a3) o0 (Hn.ctlO o0 C RT RL a2 a3)).sl.length≤1048576):=by
    cases hi:Hn.insB o0 a2 a3
    ·exact⟨hz,hz2⟩
    ·refine⟨hz,?_⟩
     show(o0.sl++ [Hn.ctlO o0 C RT RL a2 a3]).length≤1048576
     have:o0.sl.length<300:=by
      unfold Hn.insB at hi
      simp at hi
      exact hi.2
     simp
     omega
   generalize Hn.insC (Hn.insB o0 a2 a3) (Hn.saidC o0 C RT RL a2 a3)=K at*
   generalize Hn.insO (Hn.insB o0 a2 a3) o0 (Hn.ctlO o0 C RT RL a2 a3)=R at*
   have HE:Hid (∀(x y:Hn.Pl) (W:World),Hn.In W x R→Hn.In W y R→_):=fun x y W h k=>Hn.eqHand_same x y R W HZ.out.1 HZ.out.2 h k
   have hd:decide (1+(R.ol.length:Int)+6*(R.sl.length:Int)<0)=false:=decide_eq_false (by omega)
   have hdk:decide (1+(o0.ol.length:Int)+6*(o0.sl.length:Int)<0)=false:=decide_eq_false (by omega)
   have hnb:((K:Int) !=(K:Int))=false:=by simp
   clear hz hz2 hb hb2 HM hs HRS HRI hCz hL6 hz3 H ML0
   obtain⟨mP,mQ,hsz⟩:=Hn.two_blocks w (Hn.hnB x0 o0 27) (.cells #[.int .i64 a1,.string s1] 29)
   have LN:=Pk.join_below (Pk.new_below w (Hn.hnB x0 o0 27)) (Pk.new_below _ (.cells #[.int .i64 a1,.string s1] 29))
   have hsP:=Pk.lt_of mP
   have hsQ:=Pk.lt_of mQ
   go_enter Tryz.func3,Tryz.ntmps3
   have c1:((w.alloc (Hn.hnB x0 o0 27)).alloc (.cells #[.int .i64 a1,.string s1] 29)).cell? ⟨w.heap.size,0,none⟩=some (.int .i64 o0.dv):=Pk.cell_at mP 0
   have c2:((w.alloc (Hn.hnB x0 o0 27)).alloc (.cells #[.int .i64 a1,.string s1] 29)).cell? ⟨w.heap.size,1,none⟩=some (.int .i64 o0.p):=Pk.cell_at mP 1
   have c3:((w.alloc (Hn.hnB x0 o0 27)).alloc (.cells #[.int .i64 a1,.string s1] 29)).cell? ⟨w.heap.size,2,none⟩=some (.int .i64 o0.q):=Pk.cell_at mP 2
   have c4:((w.alloc (Hn.hnB x0 o0 27)).alloc (.cells #[.int .i64 a1,.string s1] 29)).cell? ⟨w.heap.size,3,none⟩=some (.int .i64 o0.g):=Pk.cell_at mP 3
   have c5:((w.alloc (Hn.hnB x0 o0 27)).alloc (.cells #[.int .i64 a1,.string s1] 29)).cell? ⟨w.heap.size,4,none⟩=some (.int .i64 o0.op):=Pk.cell_at mP 4
   have c6:((w.alloc (Hn.hnB x0 o0 27)).alloc (.cells #[.int .i64 a1,.string s1] 29)).cell? ⟨w.heap.size,5,none⟩=some (.int .i64 o0.is):=Pk.cell_at mP 5
   have c7:((w.alloc (Hn.hnB x0 o0 27)).alloc (.cells #[.int .i64 a1,.string s1] 29)).cell? ⟨w.heap.size,6,none⟩=some (.int .i64 o0.ve):=Pk.cell_at mP 6
   have c8:((w.alloc (Hn.hnB x0 o0 27)).alloc (.cells #[.int .i64 a1,.string s1] 29)).cell? ⟨w.heap.size,7,none⟩=some (.slice x0.a o0.ol.length x0.c):=Pk.cell_at mP 7
   have c9:((w.alloc (Hn.hnB x0 o0 27)).alloc (.cells #[.int .i64 a1,.string s1] 29)).cell? ⟨w.heap.size,8,none⟩=some (.slice x0.b o0.sl.length x0.d):=Pk.cell_at mP 8
   go_wp2_with fail
   refine(HSZ.out _).mono ?_
   clear c1 c2 c3 c4 c5 c6 c7 c8 c9
   generalize ((w.alloc (Hn.hnB x0 o0 27)).alloc (.cells #[.int .i64 a1,.string s1] 29))=v0 at*
   rintro e v1 ⟨rfl,Lv1⟩
   have m10:=Pk.kept Lv1 (Pk.lt_of mP) mP
   clear mP
   have m11:=Pk.kept Lv1 (Pk.lt_of mQ) mQ
   clear mQ
   have L12:=Pk.join_below LN Lv1
   clear LN
   have hs13:v0.heap.size≤v1.heap.size:=Lv1.size
   have c14:v1.cell? ⟨w.heap.size+1,0,none⟩=some (.int .i64 a1):=Pk.cell_at m11 0
   have c15:v1.cell? ⟨w.heap.size+1,1,none⟩=some (.string s1):=Pk.cell_at m11 1
   go_wp2_with fail
   refine(HSQ.out _).mono ?_
   clear c14 c15
   rintro e v2 ⟨rfl,Lv2⟩
   have m16:=Pk.kept Lv2 (Pk.lt_of m10) m10
   clear m10
   have m17:=Pk.kept Lv2 (Pk.lt_of m11) m11
   clear m11
   have L18:=Pk.join_below L12 Lv2
   clear L12
   have hs19:v1.heap.size≤v2.heap.size:=Lv2.size
   have c20:v2.cell? ⟨w.heap.size,0,none⟩=some (.int .i64 o0.dv):=Pk.cell_at m16 0
   have c21:v2.cell? ⟨w.heap.size,1,none⟩=some (.int .i64 o0.p):=Pk.cell_at m16 1
   have c22:v2.cell? ⟨w.heap.size,2,none⟩=some (.int .i64 o0.q):=Pk.cell_at m16 2
   have c23:v2.cell? ⟨w.heap.size,3,none⟩=some (.int .i64 o0.g):=Pk.cell_at m16 3
   have c24:v2.cell? ⟨w.heap.size,4,none⟩=some (.int .i64 o0.op):=Pk.cell_at m16 4
   have c25:v2.cell? ⟨w.heap.size,5,none⟩=some (.int .i64 o0.is):=Pk.cell_at m16 5
   have c26:v2.cell? ⟨w.heap.size,6,none⟩=some (.int .i64 o0.ve):=Pk.cell_at m16 6
   have c27:v2.cell? ⟨w.heap.size,7,none⟩=some (.slice x0.a o0.ol.length x0.c):=Pk.cell_at m16 7
   have c28:v2.cell? ⟨w.heap.size,8,none⟩=some (.slice x0.b o0.sl.length x0.d):=Pk.cell_at m16 8
   have c29:v2.cell? ⟨w.heap.size+1,0,none⟩=some (.int .i64 a1):=Pk.cell_at m17 0
   have c30:v2.cell? ⟨w.heap.size+1,1,none⟩=some (.string s1):=Pk.cell_at m17 1
   go_wp2
   go_cut [10,11]from 20 (fun t u wc=>∃(yT:Hn.Pl) (AT lT hT pT qT:Nat),t= .pointer (some ⟨AT,0,none⟩)∧u= .int .i64 (K:Nat)∧Hid (Got v2 wc yT R AT lT hT pT qT))
   case first=>
    have nav2:v2.heap.size≠w.heap.size:=Nat.ne_of_gt (Pk.lt_of m16)
    have nbv2:v2.heap.size≠w.heap.size+1:=Nat.ne_of_gt (Pk.lt_of m17)
    go_region_held3 (fun w'=>w'.cell? ⟨w.heap.size,0,none⟩=some (.int .i64 o0.dv)∧w'.cell? ⟨w.heap.size,1,none⟩=some (.int .i64 o0.p)∧w'.cell? ⟨w.heap.size,2,none⟩=some (.int .i64 o0.q)∧w'.cell? ⟨w.heap.size,3,none⟩=some (.int .i64 o0.g)∧w'.cell? ⟨w.heap.size,4,none⟩=some (.int .i64 o0.op)∧w'.cell? ⟨w.heap.size,5,none⟩=some (.int .i64 o0.is)∧w'.cell? ⟨w.heap.size,6,none⟩=some (.int .i64 o0.ve)∧w'.cell? ⟨w.heap.size,7,none⟩=some (.slice x0.a o0.ol.length x0.c)∧w'.cell? ⟨w.heap.size,8,none⟩=some (.slice x0.b o0.sl.length x0.d)∧w'.cell? ⟨w.heap.size+1,0,none⟩=some (.int .i64 a1)∧w'.cell? ⟨w.heap.size+1,1,none⟩=some (.string s1)) (go_keep) (first
     |(go_at_call 7;(with_reducible refine(HTO.out _ ?_).mono ?_);(first|with_reducible exact I.on L18|with_reducible exact I.on L18.drew|with_reducible exact I.on (Pk.join_below L18 (Pk.new_below _ _))|with_reducible exact I.on (Pk.join_below L18 (Pk.new_below _ _)).drew|with_reducible exact I.on (Pk.join_below L18.drew (Pk.new_below _ _)));rintro e n1 ⟨yA,ga,gb,rfl,M0,JA,-,-,-,yAc,yAd⟩;have M1:Below v2.heap.size v2 n1:=(by first|with_reducible exact M0|with_reducible exact Pk.join_below (Pk.new_below _ _) M0|with_reducible exact((Below.refl _ _).drew).trans M0|exact((Pk.new_below v2 (.cells #[.int .i64 0,.int .i64 0,.int .i64 0,.int .i64 0,.int .i64 0,.int .i64 0,.int .i64 0,.slice none 0 0,.slice none 0 0] 35)).drew).trans (M0.mono (Pk.new_below v2 (.cells #[.int .i64 0,.int .i64 0,.int .i64 0,.int .i64 0,.int .i64 0,.int .i64 0,.int .i64 0,.slice none 0 0,.slice none 0 0] 35)).size)|exact((Below.refl _ v2).drew).trans ((Pk.new_below v2.drew (.cells #[.int .i64 0,.int .i64 0,.int .i64 0,.int .i64 0,.int .i64 0,.int .i64 0,.int .i64 0,.slice none 0 0,.slice none 0 0] 35)).trans (M0.mono (Pk.new_below v2.drew (.cells #[.int .i64 0,.int .i64 0,.int .i64 0,.int .i64 0,.int .i64 0,.int .i64 0,.int .i64 0,.slice none 0 0,.slice none 0 0] 35)).size))|exact((Below.refl _ _).drew).trans M0);have FA:Hid (Hn.Flat yA):=⟨⟨_,_,yAc⟩,⟨_,_,yAd⟩⟩;clear yAc yAd;(first|(have zb:n1.heap[v2.heap.size]? =some (.cells #[.int .i64 0,.int .i64 0,.int .i64 0,.int .i64 0,.int .i64 0,.int .i64 0,.int .i64 0,.slice none 0 0,.slice none 0 0] 35):=Pk.kept M0 (Pk.lt_of (Pk.heap_new v2 (.cells #[.int .i64 0,.int .i64 0,.int .i64 0,.int .i64 0,.int .i64 0,.int .i64 0,.int .i64 0,.slice none 0 0,.slice none 0 0] 35))) (Pk.heap_new v2 (.cells #[.int .i64 0,.int .i64 0,.int .i64 0,.int .i64 0,.int .i64 0,.int .i64 0,.int .i64 0,.slice none 0 0,.slice none 0 0] 35)))|(have zb:n1.heap[v2.heap.size]? =some (.cells #[.int .i64 0,.int .i64 0,.int .i64 0,.int .i64 0,.int .i64 0,.int .i64 0,.int .i64 0,.slice none 0 0,.slice none 0 0] 35):=Pk.kept M0 (Pk.lt_of (Pk.heap_new v2.drew (.cells #[.int .i64 0,.int .i64 0,.int .i64 0,.int .i64 0,.int .i64 0,.int .i64 0,.int .i64 0,.slice none 0 0,.slice none 0 0] 35))) (Pk.heap_new v2.drew (.cells #[.int .i64 0,.int .i64 0,.int .i64 0,.int .i64 0,.int .i64 0,.int .i64 0,.int .i64 0,.slice none 0 0,.slice none 0 0] 35)))|skip);have pa:=Pk.kept M1 (Pk.lt_of m16) m16;have pb:=Pk.kept M1 (Pk.lt_of m17) m17;have nan1:n1.heap.size≠w.heap.size:=Nat.ne_of_gt (Pk.lt_of pa);have nbn1:n1.heap.size≠w.heap.size+1:=Nat.ne_of_gt (Pk.lt_of pb);have ra0:n1.cell? ⟨w.heap.size,0,none⟩=some (.int .i64 o0.dv):=Pk.cell_at pa 0;have ra1:n1.cell? ⟨w.heap.size,1,none⟩=some (.int .i64 o0.p):=Pk.cell_at pa 1;have ra2:n1.cell? ⟨w.heap.size,2,none⟩=some (.int .i64 o0.q):=Pk.cell_at pa 2;have ra3:n1.cell? ⟨w.heap.size,3,none⟩=some (.int .i64 o0.g):=Pk.cell_at pa 3;have ra4:n1.cell? ⟨w.heap.size,4,none⟩=some (.int .i64 o0.op):=Pk.cell_at pa 4;have ra5:n1.cell? ⟨w.heap.size,5,none⟩=some (.int .i64 o0.is):=Pk.cell_at pa 5;have ra6:n1.cell? ⟨w.heap.size,6,none⟩=some (.int .i64 o0.ve):=Pk.cell_at pa 6;have ra7:n1.cell? ⟨w.heap.size,7,none⟩=some (.slice x0.a o0.ol.length x0.c):=Pk.cell_at pa 7;have ra8:n1.cell? ⟨w.heap.size,8,none⟩=some (.slice x0.b o0.sl.length x0.d):=Pk.cell_at pa 8;have rb0:n1.cell? ⟨w.heap.size+1,0,none⟩=some (.int .i64 a1):=Pk.cell_at pb 0;have rb1:n1.cell? ⟨w.heap.size+1,1,none⟩=some (.string s1):=Pk.cell_at pb 1;clear M0 pa pb)
     |(go_at_call 8;(with_reducible refine(HTQ.out _).mono ?_);rintro e n2 ⟨rfl,M0⟩;have M2:Below n1.heap.size n1 n2:=(by first|with_reducible exact M0|with_reducible exact Pk.join_below (Pk.new_below _ _) M0|with_reducible exact((Below.refl _ _).drew).trans M0|exact((Pk.new_below n1 (.cells #[.int .i64 0,.int .i64 0,.int .i64 0,.int .i64 0,.int .i64 0,.int .i64 0,.int .i64 0,.slice none 0 0,.slice none 0 0] 35)).drew).trans (M0.mono (Pk.new_below n1 (.cells #[.int .i64 0,.int .i64 0,.int .i64 0,.int .i64 0,.int .i64 0,.int .i64 0,.int .i64 0,.slice none 0 0,.slice none 0 0] 35)).size)|exact((Below.refl _ n1).drew).trans ((Pk.new_below n1.drew (.cells #[.int .i64 0,.int .i64 0,.int .i64 0,.int .i64 0,.int .i64 0,.int .i64 0,.int .i64 0,.slice none 0 0,.slice none 0 0] 35)).trans (M0.mono (Pk.new_below n1.drew (.cells #[.int .i64 0,.int .i64 0,.int .i64 0,.int .i64 0,.int .i64 0,.int .i64 0,.int .i64 0,.slice none 0 0,.slice none 0 0] 35)).size))|exact((Below.refl _ _).drew).trans M0);(first|(have zc:n2.heap[v2.heap.size]? =some (.cells #[.int .i64 0,.int .i64 0,.int .i64 0,.int .i64 0,.int .i64 0,.int .i64 0,.int .i64 0,.slice none 0 0,.slice none 0 0] 35):=Pk.kept M2 (Pk.lt_of zb) zb;clear zb)|(have zc:n2.heap[n1.heap.size]? =some (.cells #[.int .i64 0,.int .i64 0,.int .i64 0,.int .i64 0,.int .i64 0,.int .i64 0,.int .i64 0,.slice none 0 0,.slice none 0 0] 35):=Pk.kept M0 (Pk.lt_of (Pk.heap_new n1 (.cells #[.int .i64 0,.int .i64 0,.int .i64 0,.int .i64 0,.int .i64 0,.int .i64 0,.int .i64 0,.slice none 0 0,.slice none 0 0] 35))) (Pk.heap_new n1 (.cells #[.int .i64 0,.int .i64 0,.int .i64 0,.int .i64 0,.int .i64 0,.int .i64 0,.int .i64 0,.slice none 0 0,.slice none 0 0] 35)))|(have zc:n2.heap[n1.heap.size]? =some (.cells #[.int .i64 0,.int .i64 0,.int .i64 0,.int .i64 0,.int .i64 0,.int .i64 0,.int .i64 0,.slice none 0 0,.slice none 0 0] 35):=Pk.kept M0 (Pk.lt_of (Pk.heap_new n1.drew (.cells #[.int .i64 0,.int .i64 0,.int .i64 0,.int .i64 0,.int .i64 0,.int .i64 0,.int .i64 0,.slice none 0 0,.slice none 0 0] 35))) (Pk.heap_new n1.drew (.cells #[.int .i64 0,.int .i64 0,.int .i64 0,.int .i64 0,.int .i64 0,.int .i64 0,.int .i64 0,.slice none 0 0,.slice none 0 0] 35)))|skip);have M12:=Pk.join_below M1 M2;have JA2:=JA.on M2;have pa:=Pk.kept M12 (Pk.lt_of m16) m16;have pb:=Pk.kept M12 (Pk.lt_of m17) m17;have nan2:n2.heap.size≠w.heap.size:=Nat.ne_of_gt (Pk.lt_of pa);have nbn2:n2.heap.size≠w.heap.size+1:=Nat.ne_of_gt (Pk.lt_of pb);have ra0:n2.cell? ⟨w.heap.size,0,none⟩=some (.int .i64 o0.dv):=Pk.cell_at pa 0;have ra1:n2.cell? ⟨w.heap.size,1,none⟩=some (.int .i64 o0.p):=Pk.cell_at pa 1;have ra2:n2.cell? ⟨w.heap.size,2,none⟩=some (.int .i64 o0.q):=Pk.cell_at pa 2;have ra3:n2.cell? ⟨w.heap.size,3,none⟩=some (.int .i64 o0.g):=Pk.cell_at pa 3;have ra4:n2.cell? ⟨w.heap.size,4,none⟩=some (.int .i64 o0.op):=Pk.cell_at pa 4;have ra5:n2.cell? ⟨w.heap.size,5,none⟩=some (.int .i64 o0.is):=Pk.cell_at pa 5;have ra6:n2.cell? ⟨w.heap.size,6,none⟩=some (.int .i64 o0.ve):=Pk.cell_at pa 6;have ra7:n2.cell? ⟨w.heap.size,7,none⟩=some (.slice x0.a o0.ol.length x0.c):=Pk.cell_at pa 7;have ra8:n2.cell? ⟨w.heap.size,8,none⟩=some (.slice x0.b o0.sl.length x0.d):=Pk.cell_at pa 8;have rb0:n2.cell? ⟨w.heap.size+1,0,none⟩=some (.int .i64 a1):=Pk.cell_at pb 0;have rb1:n2.cell? ⟨w.heap.size+1,1,none⟩=some (.string s1):=Pk.cell_at pb 1;clear M0 pa pb JA)
     |(go_at_call 6;(with_reducible refine(HS.out yA _ ?_ FA.out).mono ?_);(first|with_reducible exact JA2.on (Below.refl n2.heap.size n2)|with_reducible exact JA2.on (Below.refl n2.heap.size n2).drew|with_reducible exact JA2.on (Pk.join_below (Below.refl n2.heap.size n2) (Pk.new_below _ _))|with_reducible exact JA2.on (Pk.join_below (Below.refl n2.heap.size n2) (Pk.new_below _ _)).drew|with_reducible exact JA2.on (Pk.join_below (Below.refl n2.heap.size n2).drew (Pk.new_below _ _)));rintro e n3 ⟨yT,rfl,CT,M0⟩;have M3:Below n2.heap.size n2 n3:=(by first|with_reducible exact M0|with_reducible exact Pk.join_below (Pk.new_below _ _) M0|with_reducible exact((Below.refl _ _).drew).trans M0|exact((Pk.new_below n2 (.cells #[.int .i64 0,.int .i64 0,.int .i64 0,.int .i64 0,.int .i64 0,.int .i64 0,.int .i64 0,.slice none 0 0,.slice none 0 0] 35)).drew).trans (M0.mono (Pk.new_below n2 (.cells #[.int .i64 0,.int .i64 0,.int .i64 0,.int .i64 0,.int .i64 0,.int .i64 0,.int .i64 0,.slice none 0 0,.slice none 0 0] 35)).size)|exact((Below.refl _ n2).drew).trans ((Pk.new_below n2.drew (.cells #[.int .i64 0,.int .i64 0,.int .i64 0,.int .i64 0,.int .i64 0,.int .i64 0,.int .i64 0,.slice none 0 0,.slice none 0 0] 35)).trans (M0.mono (Pk.new_below n2.drew (.cells #[.int .i64 0,.int .i64 0,.int .i64 0,.int .i64 0,.int .i64 0,.int .i64 0,.int .i64 0,.slice none 0 0,.slice none 0 0] 35)).size))|exact((Below.refl _ _).drew).trans M0);(first|(have zd:n3.heap[v2.heap.size]? =some (.cells #[.int .i64 0,.int .i64 0,.int .i64 0,.int .i64 0,.int .i64 0,.int .i64 0,.int .i64 0,.slice none 0 0,.slice none 0 0] 35):=Pk.kept M3 (Pk.lt_of zc) zc;have z0:n3.cell? ⟨v2.heap.size,0,none⟩=some (.int .i64 0):=Pk.cell_at zd 0;have z1:n3.cell? ⟨v2.heap.size,1,none⟩=some (.int .i64 0):=Pk.cell_at zd 1;have z2:n3.cell? ⟨v2.heap.size,2,none⟩=some (.int .i64 0):=Pk.cell_at zd 2;have z3:n3.cell? ⟨v2.heap.size,3,none⟩=some (.int .i64 0):=Pk.cell_at zd 3;have z4:n3.cell? ⟨v2.heap.size,4,none⟩=some (.int .i64 0):=Pk.cell_at zd 4;have z5:n3.cell? ⟨v2.heap.size,5,none⟩=some (.int .i64 0):=Pk.cell_at zd 5;have z6:n3.cell? ⟨v2.heap.size,6,none⟩=some (.int .i64 0):=Pk.cell_at zd 6;have z7:n3.cell? ⟨v2.heap.size,7,none⟩=some (.slice none 0 0):=Pk.cell_at zd 7;have z8:n3.cell? ⟨v2.heap.size,8,none⟩=some (.slice none 0 0):=Pk.cell_at zd 8;have y0:n3.frozen? ⟨v2.heap.size,0,none⟩=false:=Pk.frozen_at zd 0;have y1:n3.frozen? ⟨v2.heap.size,1,none⟩=false:=Pk.frozen_at zd 1;have y2:n3.frozen? ⟨v2.heap.size,2,none⟩=false:=Pk.frozen_at zd 2;have y3:n3.frozen? ⟨v2.heap.size,3,none⟩=false:=Pk.frozen_at zd 3;have y4:n3.frozen? ⟨v2.heap.size,4,none⟩=false:=Pk.frozen_at zd 4;have y5:n3.frozen? ⟨v2.heap.size,5,none⟩=false:=Pk.frozen_at zd 5;have y6:n3.frozen? ⟨v2.heap.size,6,none⟩=false:=Pk.frozen_at zd 6;have y7:n3.frozen? ⟨v2.heap.size,7,none⟩=false:=Pk.frozen_at zd 7;have y8:n3.frozen? ⟨v2.heap.size,8,none⟩=false:=Pk.frozen_at zd 8;have hlz:v2.heap.size<n2.heap.size:=Pk.lt_of zc)|(have zd:n3.heap[n1.heap.size]? =some (.cells #[.int .i64 0,.int .i64 0,.int .i64 0,.int .i64 0,.int .i64 0,.int .i64 0,.int .i64 0,.slice none 0 0,.slice none 0 0] 35):=Pk.kept M3 (Pk.lt_of zc) zc;have z0:n3.cell? ⟨n1.heap.size,0,none⟩=some (.int .i64 0):=Pk.cell_at zd 0;have z1:n3.cell? ⟨n1.heap.size,1,none⟩=some (.int .i64 0):=Pk.cell_at zd 1;have z2:n3.cell? ⟨n1.heap.size,2,none⟩=some (.int .i64 0):=Pk.cell_at zd 2;have z3:n3.cell? ⟨n1.heap.size,3,none⟩=some (.int .i64 0):=Pk.cell_at zd 3;have z4:n3.cell? ⟨n1.heap.size,4,none⟩=some (.int .i64 0):=Pk.cell_at zd 4;have z5:n3.cell? ⟨n1.heap.size,5,none⟩=some (.int .i64 0):=Pk.cell_at zd 5;have z6:n3.cell? ⟨n1.heap.size,6,none⟩=some (.int .i64 0):=Pk.cell_at zd 6;have z7:n3.cell? ⟨n1.heap.size,7,none⟩=some (.slice none 0 0):=Pk.cell_at zd 7;have z8:n3.cell? ⟨n1.heap.size,8,none⟩=some (.slice none 0 0):=Pk.cell_at zd 8;have y0:n3.frozen? ⟨n1.heap.size,0,none⟩=false:=Pk.frozen_at zd 0;have y1:n3.frozen? ⟨n1.heap.size,1,none⟩=false:=Pk.frozen_at zd 1;have y2:n3.frozen? ⟨n1.heap.size,2,none⟩=false:=Pk.frozen_at zd 2;have y3:n3.frozen? ⟨n1.heap.size,3,none⟩=false:=Pk.frozen_at zd 3;have y4:n3.frozen? ⟨n1.heap.size,4,none⟩=false:=Pk.frozen_at zd 4;have y5:n3.frozen? ⟨n1.heap.size,5,none⟩=false:=Pk.frozen_at zd 5;have y6:n3.frozen? ⟨n1.heap.size,6,none⟩=false:=Pk.frozen_at zd 6;have y7:n3.frozen? ⟨n1.heap.size,7,none⟩=false:=Pk.frozen_at zd 7;have y8:n3.frozen? ⟨n1.heap.size,8,none⟩=false:=Pk.frozen_at zd 8;have hlz:n1.heap.size<n2.heap.size:=Pk.lt_of zc)|((first|(have zd:n3.heap[n2.heap.size]? =some (.cells #[.int .i64 0,.int .i64 0,.int .i64 0,.int .i64 0,.int .i64 0,.int .i64 0,.int .i64 0,.slice none 0 0,.slice none 0 0] 35):=Pk.kept M0 (Pk.lt_of (Pk.heap_new n2 (.cells #[.int .i64 0,.int .i64 0,.int .i64 0,.int .i64 0,.int .i64 0,.int .i64 0,.int .i64 0,.slice none 0 0,.slice none 0 0] 35))) (Pk.heap_new n2 (.cells #[.int .i64 0,.int .i64 0,.int .i64 0,.int .i64 0,.int .i64 0,.int .i64 0,.int .i64 0,.slice none 0 0,.slice none 0 0] 35)))|(have zd:n3.heap[n2.heap.size]? =some (.cells #[.int .i64 0,.int .i64 0,.int .i64 0,.int .i64 0,.int .i64 0,.int .i64 0,.int .i64 0,.slice none 0 0,.slice none 0 0] 35):=Pk.kept M0 (Pk.lt_of (Pk.heap_new n2.drew (.cells #[.int .i64 0,.int .i64 0,.int .i64 0,.int .i64 0,.int .i64 0,.int .i64 0,.int .i64 0,.slice none 0 0,.slice none 0 0] 35))) (Pk.heap_new n2.drew (.cells #[.int .i64 0,.int .i64 0,.int .i64 0,.int .i64 0,.int .i64 0,.int .i64 0,.int .i64 0,.slice none 0 0,.slice none 0 0] 35))));have z0:n3.cell? ⟨n2.heap.size,0,none⟩=some (.int .i64 0):=Pk.cell_at zd 0;have z1:n3.cell? ⟨n2.heap.size,1,none⟩=some (.int .i64 0):=Pk.cell_at zd 1;have z2:n3.cell? ⟨n2.heap.size,2,none⟩=some (.int .i64 0):=Pk.cell_at zd 2;have z3:n3.cell? ⟨n2.heap.size,3,none⟩=some (.int .i64 0):=Pk.cell_at zd 3;have z4:n3.cell? ⟨n2.heap.size,4,none⟩=some (.int .i64 0):=Pk.cell_at zd 4;have z5:n3.cell? ⟨n2.heap.size,5,none⟩=some (.int .i64 0):=Pk.cell_at zd 5;have z6:n3.cell? ⟨n2.heap.size,6,none⟩=some (.int .i64 0):=Pk.cell_at zd 6;have z7:n3.cell? ⟨n2.heap.size,7,none⟩=some (.slice none 0 0):=Pk.cell_at zd 7;have z8:n3.cell? ⟨n2.heap.size,8,none⟩=some (.slice none 0 0):=Pk.cell_at zd 8;have y0:n3.frozen? ⟨n2.heap.size,0,none⟩=false:=Pk.frozen_at zd 0;have y1:n3.frozen? ⟨n2.heap.size,1,none⟩=false:=Pk.frozen_at zd 1;have y2:n3.frozen? ⟨n2.heap.size,2,none⟩=false:=Pk.frozen_at zd 2;have y3:n3.frozen? ⟨n2.heap.size,3,none⟩=false:=Pk.frozen_at zd 3;have y4:n3.frozen? ⟨n2.heap.size,4,none⟩=false:=Pk.frozen_at zd 4;have y5:n3.frozen? ⟨n2.heap.size,5,none⟩=false:=Pk.frozen_at zd 5;have y6:n3.frozen? ⟨n2.heap.size,6,none⟩=false:=Pk.frozen_at zd 6;have y7:n3.frozen? ⟨n2.heap.size,7,none⟩=false:=Pk.frozen_at zd 7;have y8:n3.frozen? ⟨n2.heap.size,8,none⟩=false:=Pk.frozen_at zd 8)|skip);have M13:=Pk.join_below M12 M3;(first|(have CN:Hn.Copied n2.heap.size n3 yT R:=CT)|(have CN:Hn.Copied (n2.heap.size+1) n3 yT R:=(by have h:=CT;rw[show(n2.alloc (.cells #[.int .i64 0,.int .i64 0,.int .i64 0,.int .i64 0,.int .i64 0,.int .i64 0,.int .i64 0,.slice none 0 0,.slice none 0 0] 35)).heap.size=n2.heap.size+1 from Array.size_push ..]at h;exact h))|(have CN:Hn.Copied (n2.heap.size+1) n3 yT R:=(by have h:=CT;rw[show((n2.alloc (.cells #[.int .i64 0,.int .i64 0,.int .i64 0,.int .i64 0,.int .i64 0,.int .i64 0,.int .i64 0,.slice none 0 0,.slice none 0 0] 35)).drew).heap.size=n2.heap.size+1 from Array.size_push ..]at h;exact h))|(have CN:Hn.Copied (n2.heap.size+1) n3 yT R:=(by have h:=CT;rw[show(n2.drew.alloc (.cells #[.int .i64 0,.int .i64 0,.int .i64 0,.int .i64 0,.int .i64 0,.int .i64 0,.int .i64 0,.slice none 0 0,.slice none 0 0] 35)).heap.size=n2.heap.size+1 from Array.size_push ..]at h;exact h)));have pa:=Pk.kept M13 (Pk.lt_of m16) m16;have pb:=Pk.kept M13 (Pk.lt_of m17) m17;have nan3:n3.heap.size≠w.heap.size:=Nat.ne_of_gt (Pk.lt_of pa);have nbn3:n3.heap.size≠w.heap.size+1:=Nat.ne_of_gt (Pk.lt_of pb);have ra0:n3.cell? ⟨w.heap.size,0,none⟩=some (.int .i64 o0.dv):=Pk.cell_at pa 0;have ra1:n3.cell? ⟨w.heap.size,1,none⟩=some (.int .i64 o0.p):=Pk.cell_at pa 1;have ra2:n3.cell? ⟨w.heap.size,2,none⟩=some (.int .i64 o0.q):=Pk.cell_at pa 2;have ra3:n3.cell? ⟨w.heap.size,3,none⟩=some (.int .i64 o0.g):=Pk.cell_at pa 3;have ra4:n3.cell? ⟨w.heap.size,4,none⟩=some (.int .i64 o0.op):=Pk.cell_at pa 4;have ra5:n3.cell? ⟨w.heap.size,5,none⟩=some (.int .i64 o0.is):=Pk.cell_at pa 5;have ra6:n3.cell? ⟨w.heap.size,6,none⟩=some (.int .i64 o0.ve):=Pk.cell_at pa 6;have ra7:n3.cell? ⟨w.heap.size,7,none⟩=some (.slice x0.a o0.ol.length x0.c):=Pk.cell_at pa 7;have ra8:n3.cell? ⟨w.heap.size,8,none⟩=some (.slice x0.b o0.sl.length x0.d):=Pk.cell_at pa 8;have rb0:n3.cell? ⟨w.heap.size+1,0,none⟩=some (.int .i64 a1):=Pk.cell_at pb 0;have rb1:n3.cell? ⟨w.heap.size+1,1,none⟩=some (.string s1):=Pk.cell_at pb 1;clear pa pb))
    all_goals
     go_wp2
     go_meet
     case rel=>first
      |(have hz:=zd;clear hz;obtain⟨g1,g2,G⟩:=got_put (v:=v2) CN zd (by first|with_reducible exact hlz|with_reducible exact Nat.lt_succ_self _) (by first|with_reducible exact M12.size|with_reducible exact M1.size|with_reducible exact Nat.le_refl _) M13;exact⟨yT,_,_,_,g1,g2,rfl,rfl,G⟩)
      |(obtain⟨g1,g2,G⟩:=got_new (v:=v2) CN M13 M12.size;exact⟨yT,_,_,_,g1,g2,rfl,rfl,G⟩)
   case rest=>
    obtain⟨yS,AS,lAS,hAS,pAS,qAS,rfl,rfl,HCUT⟩:=hcut
    obtain⟨bAS,IyS,MAS,oAS,sAS,Lv5,eAS,fAS,dAS,cAS⟩:=HCUT.out
    clear HCUT
    clear c20 c21 c22 c23 c24 c25 c26 c27 c28 c29 c30
    obtain⟨v5,hwn⟩:∃z,z=wc:=⟨_,rfl⟩
    subst hwn
    have m31:=Pk.kept Lv5 (Pk.lt_of m16) m16
    clear m16
    have m32:=Pk.kept Lv5 (Pk.lt_of m17) m17
    clear m17
    have L33:=Pk.join_below L18 Lv5
    clear L18
    have hs34:v2.heap.size≤v5.heap.size:=Lv5.size
    have hltAS:=Pk.lt_of bAS
    have IS:=IyS
    clear IyS MAS oAS sAS
    have HFS:Hid (∀lo hi,v5.heap.size≤lo→Hn.Far lo hi yS R):=fun lo hi h=>Hn.Far.of IS h
    have c35:v5.cell? ⟨w.heap.size,0,none⟩=some (.int .i64 o0.dv):=Pk.cell_at m31 0
    have c36:v5.cell? ⟨w.heap.size,1,none⟩=some (.int .i64 o0.p):=Pk.cell_at m31 1
    have c37:v5.cell? ⟨w.heap.size,2,none⟩=some (.int .i64 o0.q):=Pk.cell_at m31 2
    have c38:v5.cell? ⟨w.heap.size,3,none⟩=some (.int .i64 o0.g):=Pk.cell_at m31 3
    have c39:v5.cell? ⟨w.heap.size,4,none⟩=some (.int .i64 o0.op):=Pk.cell_at m31 4
    have c40:v5.cell? ⟨w.heap.size,5,none⟩=some (.int .i64 o0.is):=Pk.cell_at m31 5
    have c41:v5.cell? ⟨w.heap.size,6,none⟩=some (.int .i64 o0.ve):=Pk.cell_at m31 6
    have c42:v5.cell? ⟨w.heap.size,7,none⟩=some (.slice x0.a o0.ol.length x0.c):=Pk.cell_at m31 7
    have c43:v5.cell? ⟨w.heap.size,8,none⟩=some (.slice x0.b o0.sl.length x0.d):=Pk.cell_at m31 8
    go_wp2_with fail
    refine(HTO.out _ (I.on L33)).mono ?_
    clear c35 c36 c37 c38 c39 c40 c41 c42 c43
    rintro e v6 ⟨yX,yX1,yX2,rfl,Lv6,IyX,MyX,yXa,yXb,yXc,yXd⟩
    have m44:=Pk.kept Lv6 (Pk.lt_of m31) m31
    clear m31
    have m45:=Pk.kept Lv6 (Pk.lt_of m32) m32
    clear m32
    have m46:=Pk.kept Lv6 (Pk.lt_of bAS) bAS
    clear bAS
    have i47:=IS.on Lv6
    clear IS
    have L48:=Pk.join_below L33 Lv6
    clear L33
    have hs49:v5.heap.size≤v6.heap.size:=Lv6.size
    have FyX:Hid (Hn.Flat yX):=⟨⟨_,_,yXc⟩,⟨_,_,yXd⟩⟩
    clear yXc yXd
    have N50:=Pk.new_below v6 (Hn.hnB yX o0 35)
    have m51:=Pk.heap_new v6 (Hn.hnB yX o0 35)
    have m53:=Pk.kept N50 (Pk.lt_of m44) m44
    clear m44
    have m54:=Pk.kept N50 (Pk.lt_of m45) m45
    clear m45
    have m55:=Pk.kept N50 (Pk.lt_of m46) m46
    clear m46
    have i56:=i47.on N50
    clear i47
    have i57:=IyX.on N50
    clear IyX
    have i58:=MyX.on N50
    clear MyX
    have L59:=Pk.join_below L48 N50
    clear L48
    have hs60:v6.heap.size≤(v6.alloc (Hn.hnB yX o0 35)).heap.size:=N50.size
    have hs61:=Pk.lt_of m51
    generalize hV8:(v6.alloc (Hn.hnB yX o0 35))=v8 at*
    have c62:v8.cell? ⟨v6.heap.size,0,none⟩=some (.int .i64 o0.dv):=Pk.cell_at m51 0
    have c63:v8.cell? ⟨v6.heap.size,1,none⟩=some (.int .i64 o0.p):=Pk.cell_at m51 1
    have c64:v8.cell? ⟨v6.heap.size,2,none⟩=some (.int .i64 o0.q):=Pk.cell_at m51 2
    have c65:v8.cell? ⟨v6.heap.size,3,none⟩=some (.int .i64 o0.g):=Pk.cell_at m51 3
    have c66:v8.cell? ⟨v6.heap.size,4,none⟩=some (.int .i64 o0.op):=Pk.cell_at m51 4
    have c67:v8.cell? ⟨v6.heap.size,5,none⟩=some (.int .i64 o0.is):=Pk.cell_at m51 5
    have c68:v8.cell? ⟨v6.heap.size,6,none⟩=some (.int .i64 o0.ve):=Pk.cell_at m51 6
    have c69:v8.cell? ⟨v6.heap.size,7,none⟩=some (.slice yX.a o0.ol.length yX.c):=Pk.cell_at m51 7
    have c70:v8.cell? ⟨v6.heap.size,8,none⟩=some (.slice yX.b o0.sl.length yX.d):=Pk.cell_at m51 8
    have c71:v8.cell? ⟨w.heap.size+1,0,none⟩=some (.int .i64 a1):=Pk.cell_at m54 0
    have c72:v8.cell? ⟨w.heap.size+1,1,none⟩=some (.string s1):=Pk.cell_at m54 1
    go_wp2
    go_cut [13,14]from 20 (fun t u wc=>∃(yT:Hn.Pl) (AT lT hT pT qT:Nat),t= .pointer (some ⟨AT,0,none⟩)∧u= .int .i64 (K:Nat)∧Hid (Got v8 wc yT R AT lT hT pT qT))
    case first=>
     have nav8:v8.heap.size≠v6.heap.size:=Nat.ne_of_gt (Pk.lt_of m51)
     have nbv8:v8.heap.size≠w.heap.size+1:=Nat.ne_of_gt (Pk.lt_of m54)
     go_region_held3 (fun w'=>w'.cell? ⟨v6.heap.size,0,none⟩=some (.int .i64 o0.dv)∧w'.cell? ⟨v6.heap.size,1,none⟩=some (.int .i64 o0.p)∧w'.cell? ⟨v6.heap.size,2,none⟩=some (.int .i64 o0.q)∧w'.cell? ⟨v6.heap.size,3,none⟩=some (.int .i64 o0.g)∧w'.cell? ⟨v6.heap.size,4,none⟩=some (.int .i64 o0.op)∧w'.cell? ⟨v6.heap.size,5,none⟩=some (.int .i64 o0.is)∧w'.cell? ⟨v6.heap.size,6,none⟩=some (.int .i64 o0.ve)∧w'.cell? ⟨v6.heap.size,7,none⟩=some (.slice yX.a o0.ol.length yX.c)∧w'.cell? ⟨v6.heap.size,8,none⟩=some (.slice yX.b o0.sl.length yX.d)∧w'.cell? ⟨w.heap.size+1,0,none⟩=some (.int .i64 a1)∧w'.cell? ⟨w.heap.size+1,1,none⟩=some (.string s1)) (go_keep) (first
      |(go_at_call 8;(with_reducible refine(HTQ.out _).mono ?_);rintro e n2 ⟨rfl,M0⟩;have M12:Below v8.heap.size v8 n2:=(by first|with_reducible exact M0|with_reducible exact Pk.join_below (Pk.new_below _ _) M0|with_reducible exact((Below.refl _ _).drew).trans M0|exact((Pk.new_below v8 (.cells #[.int .i64 0,.int .i64 0,.int .i64 0,.int .i64 0,.int .i64 0,.int .i64 0,.int .i64 0,.slice none 0 0,.slice none 0 0] 35)).drew).trans (M0.mono (Pk.new_below v8 (.cells #[.int .i64 0,.int .i64 0,.int .i64 0,.int .i64 0,.int .i64 0,.int .i64 0,.int .i64 0,.slice none 0 0,.slice none 0 0] 35)).size)|exact((Below.refl _ v8).drew).trans ((Pk.new_below v8.drew (.cells #[.int .i64 0,.int .i64 0,.int .i64 0,.int .i64 0,.int .i64 0,.int .i64 0,.int .i64 0,.slice none 0 0,.slice none 0 0] 35)).trans (M0.mono (Pk.new_below v8.drew (.cells #[.int .i64 0,.int .i64 0,.int .i64 0,.int .i64 0,.int .i64 0,.int .i64 0,.int .i64 0,.slice none 0 0,.slice none 0 0] 35)).size))|exact((Below.refl _ _).drew).trans M0);(first|(have zc:n2.heap[v8.heap.size]? =some (.cells #[.int .i64 0,.int .i64 0,.int .i64 0,.int .i64 0,.int .i64 0,.int .i64 0,.int .i64 0,.slice none 0 0,.slice none 0 0] 35):=Pk.kept M0 (Pk.lt_of (Pk.heap_new v8 (.cells #[.int .i64 0,.int .i64 0,.int .i64 0,.int .i64 0,.int .i64 0,.int .i64 0,.int .i64 0,.slice none 0 0,.slice none 0 0] 35))) (Pk.heap_new v8 (.cells #[.int .i64 0,.int .i64 0,.int .i64 0,.int .i64 0,.int .i64 0,.int .i64 0,.int .i64 0,.slice none 0 0,.slice none 0 0] 35)))|(have zc:n2.heap[v8.heap.size]? =some (.cells #[.int .i64 0,.int .i64 0,.int .i64 0,.int .i64 0,.int .i64 0,.int .i64 0,.int .i64 0,.slice none 0 0,.slice none 0 0] 35):=Pk.kept M0 (Pk.lt_of (Pk.heap_new v8.drew (.cells #[.int .i64 0,.int .i64 0,.int .i64 0,.int .i64 0,.int .i64 0,.int .i64 0,.int .i64 0,.slice none 0 0,.slice none 0 0] 35))) (Pk.heap_new v8.drew (.cells #[.int .i64 0,.int .i64 0,.int .i64 0,.int .i64 0,.int .i64 0,.int .i64 0,.int .i64 0,.slice none 0 0,.slice none 0 0] 35)))|skip);have JA2:=i57.on M12;have pa:=Pk.kept M12 (Pk.lt_of m51) m51;have pb:=Pk.kept M12 (Pk.lt_of m54) m54;have nan2:n2.heap.size≠v6.heap.size:=Nat.ne_of_gt (Pk.lt_of pa);have nbn2:n2.heap.size≠w.heap.size+1:=Nat.ne_of_gt (Pk.lt_of pb);have ra0:n2.cell? ⟨v6.heap.size,0,none⟩=some (.int .i64 o0.dv):=Pk.cell_at pa 0;have ra1:n2.cell? ⟨v6.heap.size,1,none⟩=some (.int .i64 o0.p):=Pk.cell_at pa 1;have ra2:n2.cell? ⟨v6.heap.size,2,none⟩=some (.int .i64 o0.q):=Pk.cell_at pa 2;have ra3:n2.cell? ⟨v6.heap.size,3,none⟩=some (.int .i64 o0.g):=Pk.cell_at pa 3;have ra4:n2.cell? ⟨v6.heap.size,4,none⟩=some (.int .i64 o0.op):=Pk.cell_at pa 4;have ra5:n2.cell? ⟨v6.heap.size,5,none⟩=some (.int .i64 o0.is):=Pk.cell_at pa 5;have ra6:n2.cell? ⟨v6.heap.size,6,none⟩=some (.int .i64 o0.ve):=Pk.cell_at pa 6;have ra7:n2.cell? ⟨v6.heap.size,7,none⟩=some (.slice yX.a o0.ol.length yX.c):=Pk.cell_at pa 7;have ra8:n2.cell? ⟨v6.heap.size,8,none⟩=some (.slice yX.b o0.sl.length yX.d):=Pk.cell_at pa 8;have rb0:n2.cell? ⟨w.heap.size+1,0,none⟩=some (.int .i64 a1):=Pk.cell_at pb 0;have rb1:n2.cell? ⟨w.heap.size+1,1,none⟩=some (.string s1):=Pk.cell_at pb 1;clear M0 pa pb)
      |(go_at_call 9;(with_reducible refine(HI.out yX _ ?_ ?_ FyX.out).mono ?_);(first|with_reducible exact(Pk.join_below L59 M12)|with_reducible exact(Pk.join_below L59 M12).drew|with_reducible exact(Pk.join_below (Pk.join_below L59 M12) (Pk.new_below _ _))|with_reducible exact(Pk.join_below (Pk.join_below L59 M12) (Pk.new_below _ _)).drew|with_reducible exact(Pk.join_below (Pk.join_below L59 M12).drew (Pk.new_below _ _)));(first|with_reducible exact JA2.on (Below.refl n2.heap.size n2)|with_reducible exact JA2.on (Below.refl n2.heap.size n2).drew|with_reducible exact JA2.on (Pk.join_below (Below.refl n2.heap.size n2) (Pk.new_below _ _))|with_reducible exact JA2.on (Pk.join_below (Below.refl n2.heap.size n2) (Pk.new_below _ _)).drew|with_reducible exact JA2.on (Pk.join_below (Below.refl n2.heap.size n2).drew (Pk.new_below _ _)));rintro e n3 ⟨yT,rfl,CT,M0⟩;have M3:Below n2.heap.size n2 n3:=(by first|with_reducible exact M0|with_reducible exact Pk.join_below (Pk.new_below _ _) M0|with_reducible exact((Below.refl _ _).drew).trans M0|exact((Pk.new_below n2 (.cells #[.int .i64 0,.int .i64 0,.int .i64 0,.int .i64 0,.int .i64 0,.int .i64 0,.int .i64 0,.slice none 0 0,.slice none 0 0] 35)).drew).trans (M0.mono (Pk.new_below n2 (.cells #[.int .i64 0,.int .i64 0,.int .i64 0,.int .i64 0,.int .i64 0,.int .i64 0,.int .i64 0,.slice none 0 0,.slice none 0 0] 35)).size)|exact((Below.refl _ n2).drew).trans ((Pk.new_below n2.drew (.cells #[.int .i64 0,.int .i64 0,.int .i64 0,.int .i64 0,.int .i64 0,.int .i64 0,.int .i64 0,.slice none 0 0,.slice none 0 0] 35)).trans (M0.mono (Pk.new_below n2.drew (.cells #[.int .i64 0,.int .i64 0,.int .i64 0,.int .i64 0,.int .i64 0,.int .i64 0,.int .i64 0,.slice none 0 0,.slice none 0 0] 35)).size))|exact((Below.refl _ _).drew).trans M0);(first|(have zd:n3.heap[v8.heap.size]? =some (.cells #[.int .i64 0,.int .i64 0,.int .i64 0,.int .i64 0,.int .i64 0,.int .i64 0,.int .i64 0,.slice none 0 0,.slice none 0 0] 35):=Pk.kept M3 (Pk.lt_of zc) zc;have z0:n3.cell? ⟨v8.heap.size,0,none⟩=some (.int .i64 0):=Pk.cell_at zd 0;have z1:n3.cell? ⟨v8.heap.size,1,none⟩=some (.int .i64 0):=Pk.cell_at zd 1;have z2:n3.cell? ⟨v8.heap.size,2,none⟩=some (.int .i64 0):=Pk.cell_at zd 2;have z3:n3.cell? ⟨v8.heap.size,3,none⟩=some (.int .i64 0):=Pk.cell_at zd 3;have z4:n3.cell? ⟨v8.heap.size,4,none⟩=some (.int .i64 0):=Pk.cell_at zd 4;have z5:n3.cell? ⟨v8.heap.size,5,none⟩=some (.int .i64 0):=Pk.cell_at zd 5;have z6:n3.cell? ⟨v8.heap.size,6,none⟩=some (.int .i64 0):=Pk.cell_at zd 6;have z7:n3.cell? ⟨v8.heap.size,7,none⟩=some (.slice none 0 0):=Pk.cell_at zd 7;have z8:n3.cell? ⟨v8.heap.size,8,none⟩=some (.slice none 0 0):=Pk.cell_at zd 8;have y0:n3.frozen? ⟨v8.heap.size,0,none⟩=false:=Pk.frozen_at zd 0;have y1:n3.frozen? ⟨v8.heap.size,1,none⟩=false:=Pk.frozen_at zd 1;have y2:n3.frozen? ⟨v8.heap.size,2,none⟩=false:=Pk.frozen_at zd 2;have y3:n3.frozen? ⟨v8.heap.size,3,none⟩=false:=Pk.frozen_at zd 3;have y4:n3.frozen? ⟨v8.heap.size,4,none⟩=false:=Pk.frozen_at zd 4;have y5:n3.frozen? ⟨v8.heap.size,5,none⟩=false:=Pk.frozen_at zd 5;have y6:n3.frozen? ⟨v8.heap.size,6,none⟩=false:=Pk.frozen_at zd 6;have y7:n3.frozen? ⟨v8.heap.size,7,none⟩=false:=Pk.frozen_at zd 7;have y8:n3.frozen? ⟨v8.heap.size,8,none⟩=false:=Pk.frozen_at zd 8;have hlz:v8.heap.size<n2.heap.size:=Pk.lt_of zc)|((first|(have zd:n3.heap[n2.heap.size]? =some (.cells #[.int .i64 0,.int .i64 0,.int .i64 0,.int .i64 0,.int .i64 0,.int .i64 0,.int .i64 0,.slice none 0 0,.slice none 0 0] 35):=Pk.kept M0 (Pk.lt_of (Pk.heap_new n2 (.cells #[.int .i64 0,.int .i64 0,.int .i64 0,.int .i64 0,.int .i64 0,.int .i64 0,.int .i64 0,.slice none 0 0,.slice none 0 0] 35))) (Pk.heap_new n2 (.cells #[.int .i64 0,.int .i64 0,.int .i64 0,.int .i64 0,.int .i64 0,.int .i64 0,.int .i64 0,.slice none 0 0,.slice none 0 0] 35)))|(have zd:n3.heap[n2.heap.size]? =some (.cells #[.int .i64 0,.int .i64 0,.int .i64 0,.int .i64 0,.int .i64 0,.int .i64 0,.int .i64 0,.slice none 0 0,.slice none 0 0] 35):=Pk.kept M0 (Pk.lt_of (Pk.heap_new n2.drew (.cells #[.int .i64 0,.int .i64 0,.int .i64 0,.int .i64 0,.int .i64 0,.int .i64 0,.int .i64 0,.slice none 0 0,.slice none 0 0] 35))) (Pk.heap_new n2.drew (.cells #[.int .i64 0,.int .i64 0,.int .i64 0,.int .i64 0,.int .i64 0,.int .i64 0,.int .i64 0,.slice none 0 0,.slice none 0 0] 35))));have z0:n3.cell? ⟨n2.heap.size,0,none⟩=some (.int .i64 0):=Pk.cell_at zd 0;have z1:n3.cell? ⟨n2.heap.size,1,none⟩=some (.int .i64 0):=Pk.cell_at zd 1;have z2:n3.cell? ⟨n2.heap.size,2,none⟩=some (.int .i64 0):=Pk.cell_at zd 2;have z3:n3.cell? ⟨n2.heap.size,3,none⟩=some (.int .i64 0):=Pk.cell_at zd 3;have z4:n3.cell? ⟨n2.heap.size,4,none⟩=some (.int .i64 0):=Pk.cell_at zd 4;have z5:n3.cell? ⟨n2.heap.size,5,none⟩=some (.int .i64 0):=Pk.cell_at zd 5;have z6:n3.cell? ⟨n2.heap.size,6,none⟩=some (.int .i64 0):=Pk.cell_at zd 6;have z7:n3.cell? ⟨n2.heap.size,7,none⟩=some (.slice none 0 0):=Pk.cell_at zd 7;have z8:n3.cell? ⟨n2.heap.size,8,none⟩=some (.slice none 0 0):=Pk.cell_at zd 8;have y0:n3.frozen? ⟨n2.heap.size,0,none⟩=false:=Pk.frozen_at zd 0;have y1:n3.frozen? ⟨n2.heap.size,1,none⟩=false:=Pk.frozen_at zd 1;have y2:n3.frozen? ⟨n2.heap.size,2,none⟩=false:=Pk.frozen_at zd 2;have y3:n3.frozen? ⟨n2.heap.size,3,none⟩=false:=Pk.frozen_at zd 3;have y4:n3.frozen? ⟨n2.heap.size,4,none⟩=false:=Pk.frozen_at zd 4;have y5:n3.frozen? ⟨n2.heap.size,5,none⟩=false:=Pk.frozen_at zd 5;have y6:n3.frozen? ⟨n2.heap.size,6,none⟩=false:=Pk.frozen_at zd 6;have y7:n3.frozen? ⟨n2.heap.size,7,none⟩=false:=Pk.frozen_at zd 7;have y8:n3.frozen? ⟨n2.heap.size,8,none⟩=false:=Pk.frozen_at zd 8)|skip);have M13:=Pk.join_below M12 M3;(first|(have CN:Hn.Copied n2.heap.size n3 yT R:=CT)|(have CN:Hn.Copied (n2.heap.size+1) n3 yT R:=(by have h:=CT;rw[show(n2.alloc (.cells #[.int .i64 0,.int .i64 0,.int .i64 0,.int .i64 0,.int .i64 0,.int .i64 0,.int .i64 0,.slice none 0 0,.slice none 0 0] 35)).heap.size=n2.heap.size+1 from Array.size_push ..]at h;exact h))|(have CN:Hn.Copied (n2.heap.size+1) n3 yT R:=(by have h:=CT;rw[show((n2.alloc (.cells #[.int .i64 0,.int .i64 0,.int .i64 0,.int .i64 0,.int .i64 0,.int .i64 0,.int .i64 0,.slice none 0 0,.slice none 0 0] 35)).drew).heap.size=n2.heap.size+1 from Array.size_push ..]at h;exact h))|(have CN:Hn.Copied (n2.heap.size+1) n3 yT R:=(by have h:=CT;rw[show(n2.drew.alloc (.cells #[.int .i64 0,.int .i64 0,.int .i64 0,.int .i64 0,.int .i64 0,.int .i64 0,.int .i64 0,.slice none 0 0,.slice none 0 0] 35)).heap.size=n2.heap.size+1 from Array.size_push ..]at h;exact h)));have pa:=Pk.kept M13 (Pk.lt_of m51) m51;have pb:=Pk.kept M13 (Pk.lt_of m54) m54;have nan3:n3.heap.size≠v6.heap.size:=Nat.ne_of_gt (Pk.lt_of pa);have nbn3:n3.heap.size≠w.heap.size+1:=Nat.ne_of_gt (Pk.lt_of pb);have ra0:n3.cell? ⟨v6.heap.size,0,none⟩=some (.int .i64 o0.dv):=Pk.cell_at pa 0;have ra1:n3.cell? ⟨v6.heap.size,1,none⟩=some (.int .i64 o0.p):=Pk.cell_at pa 1;have ra2:n3.cell? ⟨v6.heap.size,2,none⟩=some (.int .i64 o0.q):=Pk.cell_at pa 2;have ra3:n3.cell? ⟨v6.heap.size,3,none⟩=some (.int .i64 o0.g):=Pk.cell_at pa 3;have ra4:n3.cell? ⟨v6.heap.size,4,none⟩=some (.int .i64 o0.op):=Pk.cell_at pa 4;have ra5:n3.cell? ⟨v6.heap.size,5,none⟩=some (.int .i64 o0.is):=Pk.cell_at pa 5;have ra6:n3.cell? ⟨v6.heap.size,6,none⟩=some (.int .i64 o0.ve):=Pk.cell_at pa 6;have ra7:n3.cell? ⟨v6.heap.size,7,none⟩=some (.slice yX.a o0.ol.length yX.c):=Pk.cell_at pa 7;have ra8:n3.cell? ⟨v6.heap.size,8,none⟩=some (.slice yX.b o0.sl.length yX.d):=Pk.cell_at pa 8;have rb0:n3.cell? ⟨w.heap.size+1,0,none⟩=some (.int .i64 a1):=Pk.cell_at pb 0;have rb1:n3.cell? ⟨w.heap.size+1,1,none⟩=some (.string s1):=Pk.cell_at pb 1;clear pa pb))
     all_goals
      go_wp2
      go_meet
      case rel=>first
       |(have hz:=zd;clear hz;obtain⟨g1,g2,G⟩:=got_put (v:=v8) CN zd (by first|with_reducible exact hlz|with_reducible exact Nat.lt_succ_self _) (by first|with_reducible exact M12.size|with_reducible exact Nat.le_refl _) M13;exact⟨yT,_,_,_,g1,g2,rfl,rfl,G⟩)
       |(obtain⟨g1,g2,G⟩:=got_new (v:=v8) CN M13 M12.size;exact⟨yT,_,_,_,g1,g2,rfl,rfl,G⟩)
    case rest=>
     obtain⟨yG,AG,lAG,hAG,pAG,qAG,rfl,rfl,HCUT⟩:=hcut
     obtain⟨bAG,IyG,MAG,oAG,sAG,Lv9,eAG,fAG,dAG,cAG⟩:=HCUT.out
     clear HCUT
     clear c62 c63 c64 c65 c66 c67 c68 c69 c70 c71 c72
     obtain⟨v9,hwn⟩:∃z,z=wc:=⟨_,rfl⟩
     subst hwn
     have m73:=Pk.kept Lv9 (Pk.lt_of m53) m53
     clear m53
     have m74:=Pk.kept Lv9 (Pk.lt_of m54) m54
     clear m54
     have m75:=Pk.kept Lv9 (Pk.lt_of m55) m55
     clear m55
     have m76:=Pk.kept Lv9 (Pk.lt_of m51) m51
     clear m51
     have i77:=i56.on Lv9
     clear i56
     have i78:=i57.on Lv9
     clear i57
     have i79:=i58.on Lv9
     clear i58
     have L80:=Pk.join_below L59 Lv9
     clear L59
     have hs81:v8.heap.size≤v9.heap.size:=Lv9.size
     have hltAG:=Pk.lt_of bAG
     have HG1:Hid (R.ol.length=0∨(yG.a=some ⟨pAG,0,none⟩∧pAG<hAG)):=oAG
     have HG2:Hid (R.sl.length=0∨(yG.b=some ⟨qAG,0,none⟩∧qAG<hAG)):=sAG
     have HFG:Hid (∀lo hi,hi≤lAG→Hn.Far lo hi yG R):=fun lo hi h=>far_mine MAG h
     clear oAG sAG
     have c82:v9.cell? ⟨AS,0,none⟩=some (.int .i64 R.dv):=Pk.cell_at m75 0
     have c83:v9.cell? ⟨AS,1,none⟩=some (.int .i64 R.p):=Pk.cell_at m75 1
     have c84:v9.cell? ⟨AS,2,none⟩=some (.int .i64 R.q):=Pk.cell_at m75 2
     have c85:v9.cell? ⟨AS,3,none⟩=some (.int .i64 R.g):=Pk.cell_at m75 3
     have c86:v9.cell? ⟨AS,4,none⟩=some (.int .i64 R.op):=Pk.cell_at m75 4
     have c87:v9.cell? ⟨AS,5,none⟩=some (.int .i64 R.is):=Pk.cell_at m75 5
     have c88:v9.cell? ⟨AS,6,none⟩=some (.int .i64 R.ve):=Pk.cell_at m75 6
     have c89:v9.cell? ⟨AS,7,none⟩=some (.slice yS.a R.ol.length yS.c):=Pk.cell_at m75 7
     have c90:v9.cell? ⟨AS,8,none⟩=some (.slice yS.b R.sl.length yS.d):=Pk.cell_at m75 8
     have c91:v9.cell? ⟨AG,0,none⟩=some (.int .i64 R.dv):=Pk.cell_at bAG 0
     have c92:v9.cell? ⟨AG,1,none⟩=some (.int .i64 R.p):=Pk.cell_at bAG 1
     have c93:v9.cell? ⟨AG,2,none⟩=some (.int .i64 R.q):=Pk.cell_at bAG 2
     have c94:v9.cell? ⟨AG,3,none⟩=some (.int .i64 R.g):=Pk.cell_at bAG 3
     have c95:v9.cell? ⟨AG,4,none⟩=some (.int .i64 R.op):=Pk.cell_at bAG 4
     have c96:v9.cell? ⟨AG,5,none⟩=some (.int .i64 R.is):=Pk.cell_at bAG 5
     have c97:v9.cell? ⟨AG,6,none⟩=some (.int .i64 R.ve):=Pk.cell_at bAG 6
     have c98:v9.cell? ⟨AG,7,none⟩=some (.slice yG.a R.ol.length yG.c):=Pk.cell_at bAG 7
     have c99:v9.cell? ⟨AG,8,none⟩=some (.slice yG.b R.sl.length yG.d):=Pk.cell_at bAG 8
     go_wp2_with fail
     refine(HE.out yG yS _ IyG i77).mono ?_
     clear c82 c83 c84 c85 c86 c87 c88 c89 c90 c91 c92 c93 c94 c95 c96 c97 c98 c99
     rintro e v11 ⟨rfl,Lv11⟩
     have m100:=Pk.kept Lv11 (Pk.lt_of m73) m73
     clear m73
     have m101:=Pk.kept Lv11 (Pk.lt_of m74) m74
     clear m74
     have m102:=Pk.kept Lv11 (Pk.lt_of m75) m75
     clear m75
     have m103:=Pk.kept Lv11 (Pk.lt_of m76) m76
     clear m76
     have m104:=Pk.kept Lv11 (Pk.lt_of bAG) bAG
     clear bAG
     have i105:=i77.on Lv11
     clear i77
     have i106:=i78.on Lv11
     clear i78
     have i107:=IyG.on Lv11
     clear IyG
     have i108:=i79.on Lv11
     clear i79
     have i109:=MAG.on Lv11
     clear MAG
     have L110:=Pk.join_below L80 Lv11
     clear L80
     have hs111:v9.heap.size≤v11.heap.size:=Lv11.size
     have c112:v11.cell? ⟨w.heap.size,0,none⟩=some (.int .i64 o0.dv):=Pk.cell_at m100 0
     have c113:v11.cell? ⟨w.heap.size,1,none⟩=some (.int .i64 o0.p):=Pk.cell_at m100 1
     have c114:v11.cell? ⟨w.heap.size,2,none⟩=some (.int .i64 o0.q):=Pk.cell_at m100 2
     have c115:v11.cell? ⟨w.heap.size,3,none⟩=some (.int .i64 o0.g):=Pk.cell_at m100 3
     have c116:v11.cell? ⟨w.heap.size,4,none⟩=some (.int .i64 o0.op):=Pk.cell_at m100 4
     have c117:v11.cell? ⟨w.heap.size,5,none⟩=some (.int .i64 o0.is):=Pk.cell_at m100 5
     have c118:v11.cell? ⟨w.heap.size,6,none⟩=some (.int .i64 o0.ve):=Pk.cell_at m100 6
     have c119:v11.cell? ⟨w.heap.size,7,none⟩=some (.slice x0.a o0.ol.length x0.c):=Pk.cell_at m100 7
     have c120:v11.cell? ⟨w.heap.size,8,none⟩=some (.slice x0.b o0.sl.length x0.d):=Pk.cell_at m100 8
     have c121:v11.cell? ⟨v6.heap.size,0,none⟩=some (.int .i64 o0.dv):=Pk.cell_at m103 0
     have c122:v11.cell? ⟨v6.heap.size,1,none⟩=some (.int .i64 o0.p):=Pk.cell_at m103 1
     have c123:v11.cell? ⟨v6.heap.size,2,none⟩=some (.int .i64 o0.q):=Pk.cell_at m103 2
     have c124:v11.cell? ⟨v6.heap.size,3,none⟩=some (.int .i64 o0.g):=Pk.cell_at m103 3
     have c125:v11.cell? ⟨v6.heap.size,4,none⟩=some (.int .i64 o0.op):=Pk.cell_at m103 4
     have c126:v11.cell? ⟨v6.heap.size,5,none⟩=some (.int .i64 o0.is):=Pk.cell_at m103 5
     have c127:v11.cell? ⟨v6.heap.size,6,none⟩=some (.int .i64 o0.ve):=Pk.cell_at m103 6
     have c128:v11.cell? ⟨v6.heap.size,7,none⟩=some (.slice yX.a o0.ol.length yX.c):=Pk.cell_at m103 7
     have c129:v11.cell? ⟨v6.heap.size,8,none⟩=some (.slice yX.b o0.sl.length yX.d):=Pk.cell_at m103 8
     go_wp2
     go_cut [64]from 20 (fun t wc=>t= .bool false∧Below v11.heap.size v11 wc)
     case first=>
      go_region_with (first
       |(go_at_call 7;refine(HTO.out _ ?_).mono ?_;(first|exact I.on L110|exact I.on L110.drew);rintro e x1 ⟨y1,ge,gf,rfl,M0,J1,-⟩;have M1:Below v11.heap.size v11 x1:=(by first|exact M0|exact((Below.refl _ _).drew).trans M0);have p1:=Pk.kept M1 (Pk.lt_of m103) m103;have I11:=i106.on M1;have dd0:x1.cell? ⟨v6.heap.size,0,none⟩=some (.int .i64 o0.dv):=Pk.cell_at p1 0;have dd1:x1.cell? ⟨v6.heap.size,1,none⟩=some (.int .i64 o0.p):=Pk.cell_at p1 1;have dd2:x1.cell? ⟨v6.heap.size,2,none⟩=some (.int .i64 o0.q):=Pk.cell_at p1 2;have dd3:x1.cell? ⟨v6.heap.size,3,none⟩=some (.int .i64 o0.g):=Pk.cell_at p1 3;have dd4:x1.cell? ⟨v6.heap.size,4,none⟩=some (.int .i64 o0.op):=Pk.cell_at p1 4;have dd5:x1.cell? ⟨v6.heap.size,5,none⟩=some (.int .i64 o0.is):=Pk.cell_at p1 5;have dd6:x1.cell? ⟨v6.heap.size,6,none⟩=some (.int .i64 o0.ve):=Pk.cell_at p1 6;have dd7:x1.cell? ⟨v6.heap.size,7,none⟩=some (.slice yX.a o0.ol.length yX.c):=Pk.cell_at p1 7;have dd8:x1.cell? ⟨v6.heap.size,8,none⟩=some (.slice yX.b o0.sl.length yX.d):=Pk.cell_at p1 8;clear M0 p1)
       |(go_at_call 10;refine(HEO.out _ _ _ ?_ ?_).mono ?_;(exact I11);(exact J1);rintro e x2 ⟨rfl,M3⟩))
      all_goals
       have M4:=Pk.join_below M1 M3
       go_wp2
       go_meet
       case rel=>exact⟨rfl,M4⟩
     case rest=>
      obtain⟨rfl,LC⟩:=hcut
      clear c112 c113 c114 c115 c116 c117 c118 c119 c120 c121 c122 c123 c124 c125 c126 c127 c128 c129
      obtain⟨wq,hwq⟩:∃wq,wq=wc:=⟨_,rfl⟩
      subst hwq
      have m130:=Pk.kept LC (Pk.lt_of m100) m100
      clear m100
      have m131:=Pk.kept LC (Pk.lt_of m101) m101
      clear m101
      have m132:=Pk.kept LC (Pk.lt_of m102) m102
      clear m102
      have m133:=Pk.kept LC (Pk.lt_of m103) m103
      clear m103
      have m134:=Pk.kept LC (Pk.lt_of m104) m104
      clear m104
      have i135:=i105.on LC
      clear i105
      have i136:=i106.on LC
      clear i106
      have i137:=i107.on LC
      clear i107
      have i138:=i108.on LC
      clear i108
      have i139:=i109.on LC
      clear i109
      have L140:=Pk.join_below L110 LC
      clear L110
      have hs141:v11.heap.size≤wq.heap.size:=LC.size
      have c142:wq.cell? ⟨v6.heap.size,0,none⟩=some (.int .i64 o0.dv):=Pk.cell_at m133 0
      have c143:wq.cell? ⟨v6.heap.size,1,none⟩=some (.int .i64 o0.p):=Pk.cell_at m133 1
      have c144:wq.cell? ⟨v6.heap.size,2,none⟩=some (.int .i64 o0.q):=Pk.cell_at m133 2
      have c145:wq.cell? ⟨v6.heap.size,3,none⟩=some (.int .i64 o0.g):=Pk.cell_at m133 3
      have c146:wq.cell? ⟨v6.heap.size,4,none⟩=some (.int .i64 o0.op):=Pk.cell_at m133 4
      have c147:wq.cell? ⟨v6.heap.size,5,none⟩=some (.int .i64 o0.is):=Pk.cell_at m133 5
      have c148:wq.cell? ⟨v6.heap.size,6,none⟩=some (.int .i64 o0.ve):=Pk.cell_at m133 6
      have c149:wq.cell? ⟨v6.heap.size,7,none⟩=some (.slice yX.a o0.ol.length yX.c):=Pk.cell_at m133 7
      have c150:wq.cell? ⟨v6.heap.size,8,none⟩=some (.slice yX.b o0.sl.length yX.d):=Pk.cell_at m133 8
      go_wp2_with fail
      refine(Hn.markHand_val yX o0 yX1 yX2 v5.heap.size v6.heap.size _ HZO.out.1 (by have:=HZO.out.2;omega) i138 (Or.inr yXa) (Or.inr yXb)).mono ?_
      clear c142 c143 c144 c145 c146 c147 c148 c149 c150
      rintro e v14 ⟨rfl,Bv14,-⟩
      clear i138 i136
      have m151:=(Bv14.block _ (Pk.lt_of m130) (by have:=Pk.lt_of m130;omega)).trans m130
      clear m130
      have m152:=(Bv14.block _ (Pk.lt_of m131) (by have:=Pk.lt_of m131;omega)).trans m131
      clear m131
      have m153:=(Bv14.block _ (Pk.lt_of m132) (by have:=Pk.lt_of m132;omega)).trans m132
      clear m132
      have m154:=(Bv14.block _ (Pk.lt_of m133) (by have:=Pk.lt_of m133;omega)).trans m133
      clear m133
      have m155:=(Bv14.block _ (Pk.lt_of m134) (by have:=Pk.lt_of m134;omega)).trans m134
      clear m134
      have i156:=i135.brd Bv14 (HFS.out _ _ (by omega))
      clear i135
      have i157:=i137.brd Bv14 (HFG.out _ _ (by omega))
      clear i137
      have i158:=i139.brd Bv14 (by omega)
      clear i139
      have L159:=Bv14.below L140 (by omega) (by omega)
      clear L140
      have hs160:wq.heap.size≤v14.heap.size:=Bv14.size
      have c161:v14.cell? ⟨AG,0,none⟩=some (.int .i64 R.dv):=Pk.cell_at m155 0
      have c162:v14.cell? ⟨AG,1,none⟩=some (.int .i64 R.p):=Pk.cell_at m155 1
      have c163:v14.cell? ⟨AG,2,none⟩=some (.int .i64 R.q):=Pk.cell_at m155 2
      have c164:v14.cell? ⟨AG,3,none⟩=some (.int .i64 R.g):=Pk.cell_at m155 3
      have c165:v14.cell? ⟨AG,4,none⟩=some (.int .i64 R.op):=Pk.cell_at m155 4
      have c166:v14.cell? ⟨AG,5,none⟩=some (.int .i64 R.is):=Pk.cell_at m155 5
      have c167:v14.cell? ⟨AG,6,none⟩=some (.int .i64 R.ve):=Pk.cell_at m155 6
      have c168:v14.cell? ⟨AG,7,none⟩=some (.slice yG.a R.ol.length yG.c):=Pk.cell_at m155 7
      have c169:v14.cell? ⟨AG,8,none⟩=some (.slice yG.b R.sl.length yG.d):=Pk.cell_at m155 8
      have c170:v14.cell? ⟨AS,0,none⟩=some (.int .i64 R.dv):=Pk.cell_at m153 0
      have c171:v14.cell? ⟨AS,1,none⟩=some (.int .i64 R.p):=Pk.cell_at m153 1
      have c172:v14.cell? ⟨AS,2,none⟩=some (.int .i64 R.q):=Pk.cell_at m153 2
      have c173:v14.cell? ⟨AS,3,none⟩=some (.int .i64 R.g):=Pk.cell_at m153 3
      have c174:v14.cell? ⟨AS,4,none⟩=some (.int .i64 R.op):=Pk.cell_at m153 4
      have c175:v14.cell? ⟨AS,5,none⟩=some (.int .i64 R.is):=Pk.cell_at m153 5
      have c176:v14.cell? ⟨AS,6,none⟩=some (.int .i64 R.ve):=Pk.cell_at m153 6
      have c177:v14.cell? ⟨AS,7,none⟩=some (.slice yS.a R.ol.length yS.c):=Pk.cell_at m153 7
      have c178:v14.cell? ⟨AS,8,none⟩=some (.slice yS.b R.sl.length yS.d):=Pk.cell_at m153 8
      go_wp2_with fail
      refine(HE.out yG yS _ i157 i156).mono ?_
      clear c161 c162 c163 c164 c165 c166 c167 c168 c169 c170 c171 c172 c173 c174 c175 c176 c177 c178
      rintro e v16 ⟨rfl,Lv16⟩
      have m179:=Pk.kept Lv16 (Pk.lt_of m151) m151
      clear m151
      have m180:=Pk.kept Lv16 (Pk.lt_of m152) m152
      clear m152
      have m181:=Pk.kept Lv16 (Pk.lt_of m153) m153
      clear m153
      have m182:=Pk.kept Lv16 (Pk.lt_of m154) m154
      clear m154
      have m183:=Pk.kept Lv16 (Pk.lt_of m155) m155
      clear m155
      have i184:=i156.on Lv16
      clear i156
      have i185:=i157.on Lv16
      clear i157
      have i186:=i158.on Lv16
      clear i158
      have L187:=Pk.join_below L159 Lv16
      clear L159
      have hs188:v14.heap.size≤v16.heap.size:=Lv16.size
      have c189:v16.cell? ⟨AG,0,none⟩=some (.int .i64 R.dv):=Pk.cell_at m183 0
      have c190:v16.cell? ⟨AG,1,none⟩=some (.int .i64 R.p):=Pk.cell_at m183 1
      have c191:v16.cell? ⟨AG,2,none⟩=some (.int .i64 R.q):=Pk.cell_at m183 2
      have c192:v16.cell? ⟨AG,3,none⟩=some (.int .i64 R.g):=Pk.cell_at m183 3
      have c193:v16.cell? ⟨AG,4,none⟩=some (.int .i64 R.op):=Pk.cell_at m183 4
      have c194:v16.cell? ⟨AG,5,none⟩=some (.int .i64 R.is):=Pk.cell_at m183 5
      have c195:v16.cell? ⟨AG,6,none⟩=some (.int .i64 R.ve):=Pk.cell_at m183 6
      have c196:v16.cell? ⟨AG,7,none⟩=some (.slice yG.a R.ol.length yG.c):=Pk.cell_at m183 7
      have c197:v16.cell? ⟨AG,8,none⟩=some (.slice yG.b R.sl.length yG.d):=Pk.cell_at m183 8
      go_wp2_with fail
      refine(Hn.markHand_val yG R pAG qAG lAG hAG _ HZ.out.1 (by have:=HZ.out.2;omega) i186 (HG1.out.imp_right fun h=>h.2) (HG2.out.imp_right fun h=>h.2)).mono ?_
      clear c189 c190 c191 c192 c193 c194 c195 c196 c197
      rintro e v17 ⟨rfl,Bv17,Kv17⟩
      clear i186 i185
      have m198:=(Bv17.block _ (Pk.lt_of m179) (by have:=Pk.lt_of m179;omega)).trans m179
      clear m179
      have m199:=(Bv17.block _ (Pk.lt_of m180) (by have:=Pk.lt_of m180;omega)).trans m180
      clear m180
      have m200:=(Bv17.block _ (Pk.lt_of m181) (by have:=Pk.lt_of m181;omega)).trans m181
      clear m181
      have m201:=(Bv17.block _ (Pk.lt_of m182) (by have:=Pk.lt_of m182;omega)).trans m182
      clear m182
      have m202:=(Bv17.block _ (Pk.lt_of m183) (by have:=Pk.lt_of m183;omega)).trans m183
      clear m183
      have i203:=i184.brd Bv17 (HFS.out _ _ (by omega))
      clear i184
      have L204:=Bv17.below L187 (by omega) (by omega)
      clear L187
      have hs205:v16.heap.size≤v17.heap.size:=Bv17.size
      have c206:v17.cell? ⟨AG,0,none⟩=some (.int .i64 R.dv):=Pk.cell_at m202 0
      have c207:v17.cell? ⟨AG,1,none⟩=some (.int .i64 R.p):=Pk.cell_at m202 1
      have c208:v17.cell? ⟨AG,2,none⟩=some (.int .i64 R.q):=Pk.cell_at m202 2
      have c209:v17.cell? ⟨AG,3,none⟩=some (.int .i64 R.g):=Pk.cell_at m202 3
      have c210:v17.cell? ⟨AG,4,none⟩=some (.int .i64 R.op):=Pk.cell_at m202 4
      have c211:v17.cell? ⟨AG,5,none⟩=some (.int .i64 R.is):=Pk.cell_at m202 5
      have c212:v17.cell? ⟨AG,6,none⟩=some (.int .i64 R.ve):=Pk.cell_at m202 6
      have c213:v17.cell? ⟨AG,7,none⟩=some (.slice yG.a R.ol.length yG.c):=Pk.cell_at m202 7
      have c214:v17.cell? ⟨AG,8,none⟩=some (.slice yG.b R.sl.length yG.d):=Pk.cell_at m202 8
      go_wp2_with fail
      refine(Hn.heldHand_val yG R pAG qAG _ HZ.out.1 (by have:=HZ.out.2;omega) (HG1.out.imp_right fun h=>h.1) (HG2.out.imp_right fun h=>h.1) Kv17).mono ?_
      clear c206 c207 c208 c209 c210 c211 c212 c213 c214
      rintro e v18 ⟨rfl,Lv18⟩
      have m215:=Pk.kept Lv18 (Pk.lt_of m198) m198
      clear m198
      have m216:=Pk.kept Lv18 (Pk.lt_of m199) m199
      clear m199
      have m217:=Pk.kept Lv18 (Pk.lt_of m200) m200
      clear m200
      have m218:=Pk.kept Lv18 (Pk.lt_of m201) m201
      clear m201
      have m219:=Pk.kept Lv18 (Pk.lt_of m202) m202
      clear m202
      have i220:=i203.on Lv18
      clear i203
      have i221:=Kv17.on Lv18
      clear Kv17
      have L222:=Pk.join_below L204 Lv18
      clear L204
      have hs223:v17.heap.size≤v18.heap.size:=Lv18.size
      have c224:v18.cell? ⟨w.heap.size,0,none⟩=some (.int .i64 o0.dv):=Pk.cell_at m215 0
      have c225:v18.cell? ⟨w.heap.size,1,none⟩=some (.int .i64 o0.p):=Pk.cell_at m215 1
      have c226:v18.cell? ⟨w.heap.size,2,none⟩=some (.int .i64 o0.q):=Pk.cell_at m215 2
      have c227:v18.cell? ⟨w.heap.size,3,none⟩=some (.int .i64 o0.g):=Pk.cell_at m215 3
      have c228:v18.cell? ⟨w.heap.size,4,none⟩=some (.int .i64 o0.op):=Pk.cell_at m215 4
      have c229:v18.cell? ⟨w.heap.size,5,none⟩=some (.int .i64 o0.is):=Pk.cell_at m215 5
      have c230:v18.cell? ⟨w.heap.size,6,none⟩=some (.int .i64 o0.ve):=Pk.cell_at m215 6
      have c231:v18.cell? ⟨w.heap.size,7,none⟩=some (.slice x0.a o0.ol.length x0.c):=Pk.cell_at m215 7
      have c232:v18.cell? ⟨w.heap.size,8,none⟩=some (.slice x0.b o0.sl.length x0.d):=Pk.cell_at m215 8
      have c233:v18.cell? ⟨w.heap.size+1,0,none⟩=some (.int .i64 a1):=Pk.cell_at m216 0
      have c234:v18.cell? ⟨w.heap.size+1,1,none⟩=some (.string s1):=Pk.cell_at m216 1
      go_wp2
      go_cut [18,19]from 20 (fun t u wc=>∃(yT:Hn.Pl) (AT lT hT pT qT:Nat),t= .pointer (some ⟨AT,0,none⟩)∧u= .int .i64 (K:Nat)∧Hid (Got v18 wc yT R AT lT hT pT qT))
      case first=>
       have nav18:v18.heap.size≠w.heap.size:=Nat.ne_of_gt (Pk.lt_of m215)
       have nbv18:v18.heap.size≠w.heap.size+1:=Nat.ne_of_gt (Pk.lt_of m216)
       go_region_held3 (fun w'=>w'.cell? ⟨w.heap.size,0,none⟩=some (.int .i64 o0.dv)∧w'.cell? ⟨w.heap.size,1,none⟩=some (.int .i64 o0.p)∧w'.cell? ⟨w.heap.size,2,none⟩=some (.int .i64 o0.q)∧w'.cell? ⟨w.heap.size,3,none⟩=some (.int .i64 o0.g)∧w'.cell? ⟨w.heap.size,4,none⟩=some (.int .i64 o0.op)∧w'.cell? ⟨w.heap.size,5,none⟩=some (.int .i64 o0.is)∧w'.cell? ⟨w.heap.size,6,none⟩=some (.int .i64 o0.ve)∧w'.cell? ⟨w.heap.size,7,none⟩=some (.slice x0.a o0.ol.length x0.c)∧w'.cell? ⟨w.heap.size,8,none⟩=some (.slice x0.b o0.sl.length x0.d)∧w'.cell? ⟨w.heap.size+1,0,none⟩=some (.int .i64 a1)∧w'.cell? ⟨w.heap.size+1,1,none⟩=some (.string s1)) (go_keep) (first
        |(go_at_call 7;(with_reducible refine(HTO.out _ ?_).mono ?_);(first|with_reducible exact I.on L222|with_reducible exact I.on L222.drew|with_reducible exact I.on (Pk.join_below L222 (Pk.new_below _ _))|with_reducible exact I.on (Pk.join_below L222 (Pk.new_below _ _)).drew|with_reducible exact I.on (Pk.join_below L222.drew (Pk.new_below _ _)));rintro e n1 ⟨yA,ga,gb,rfl,M0,JA,-,-,-,yAc,yAd⟩;have M1:Below v18.heap.size v18 n1:=(by first|with_reducible exact M0|with_reducible exact Pk.join_below (Pk.new_below _ _) M0|with_reducible exact((Below.refl _ _).drew).trans M0|exact((Pk.new_below v18 (.cells #[.int .i64 0,.int .i64 0,.int .i64 0,.int .i64 0,.int .i64 0,.int .i64 0,.int .i64 0,.slice none 0 0,.slice none 0 0] 35)).drew).trans (M0.mono (Pk.new_below v18 (.cells #[.int .i64 0,.int .i64 0,.int .i64 0,.int .i64 0,.int .i64 0,.int .i64 0,.int .i64 0,.slice none 0 0,.slice none 0 0] 35)).size)|exact((Below.refl _ v18).drew).trans ((Pk.new_below v18.drew (.cells #[.int .i64 0,.int .i64 0,.int .i64 0,.int .i64 0,.int .i64 0,.int .i64 0,.int .i64 0,.slice none 0 0,.slice none 0 0] 35)).trans (M0.mono (Pk.new_below v18.drew (.cells #[.int .i64 0,.int .i64 0,.int .i64 0,.int .i64 0,.int .i64 0,.int .i64 0,.int .i64 0,.slice none 0 0,.slice none 0 0] 35)).size))|exact((Below.refl _ _).drew).trans M0);have FA:Hid (Hn.Flat yA):=⟨⟨_,_,yAc⟩,⟨_,_,yAd⟩⟩;clear yAc yAd;(first|(have zb:n1.heap[v18.heap.size]? =some (.cells #[.int .i64 0,.int .i64 0,.int .i64 0,.int .i64 0,.int .i64 0,.int .i64 0,.int .i64 0,.slice none 0 0,.slice none 0 0] 35):=Pk.kept M0 (Pk.lt_of (Pk.heap_new v18 (.cells #[.int .i64 0,.int .i64 0,.int .i64 0,.int .i64 0,.int .i64 0,.int .i64 0,.int .i64 0,.slice none 0 0,.slice none 0 0] 35))) (Pk.heap_new v18 (.cells #[.int .i64 0,.int .i64 0,.int .i64 0,.int .i64 0,.int .i64 0,.int .i64 0,.int .i64 0,.slice none 0 0,.slice none 0 0] 35)))|(have zb:n1.heap[v18.heap.size]? =some (.cells #[.int .i64 0,.int .i64 0,.int .i64 0,.int .i64 0,.int .i64 0,.int .i64 0,.int .i64 0,.slice none 0 0,.slice none 0 0] 35):=Pk.kept M0 (Pk.lt_of (Pk.heap_new v18.drew (.cells #[.int .i64 0,.int .i64 0,.int .i64 0,.int .i64 0,.int .i64 0,.int .i64 0,.int .i64 0,.slice none 0 0,.slice none 0 0] 35))) (Pk.heap_new v18.drew (.cells #[.int .i64 0,.int .i64 0,.int .i64 0,.int .i64 0,.int .i64 0,.int .i64 0,.int .i64 0,.slice none 0 0,.slice none 0 0] 35)))|skip);have pa:=Pk.kept M1 (Pk.lt_of m215) m215;have pb:=Pk.kept M1 (Pk.lt_of m216) m216;have nan1:n1.heap.size≠w.heap.size:=Nat.ne_of_gt (Pk.lt_of pa);have nbn1:n1.heap.size≠w.heap.size+1:=Nat.ne_of_gt (Pk.lt_of pb);have ra0:n1.cell? ⟨w.heap.size,0,none⟩=some (.int .i64 o0.dv):=Pk.cell_at pa 0;have ra1:n1.cell? ⟨w.heap.size,1,none⟩=some (.int .i64 o0.p):=Pk.cell_at pa 1;have ra2:n1.cell? ⟨w.heap.size,2,none⟩=some (.int .i64 o0.q):=Pk.cell_at pa 2;have ra3:n1.cell? ⟨w.heap.size,3,none⟩=some (.int .i64 o0.g):=Pk.cell_at pa 3;have ra4:n1.cell? ⟨w.heap.size,4,none⟩=some (.int .i64 o0.op):=Pk.cell_at pa 4;have ra5:n1.cell? ⟨w.heap.size,5,none⟩=some (.int .i64 o0.is):=Pk.cell_at pa 5;have ra6:n1.cell? ⟨w.heap.size,6,none⟩=some (.int .i64 o0.ve):=Pk.cell_at pa 6;have ra7:n1.cell? ⟨w.heap.size,7,none⟩=some (.slice x0.a o0.ol.length x0.c):=Pk.cell_at pa 7;have ra8:n1.cell? ⟨w.heap.size,8,none⟩=some (.slice x0.b o0.sl.length x0.d):=Pk.cell_at pa 8;have rb0:n1.cell? ⟨w.heap.size+1,0,none⟩=some (.int .i64 a1):=Pk.cell_at pb 0;have rb1:n1.cell? ⟨w.heap.size+1,1,none⟩=some (.string s1):=Pk.cell_at pb 1;clear M0 pa pb)
        |(go_at_call 8;(with_reducible refine(HTQ.out _).mono ?_);rintro e n2 ⟨rfl,M0⟩;have M2:Below n1.heap.size n1 n2:=(by first|with_reducible exact M0|with_reducible exact Pk.join_below (Pk.new_below _ _) M0|with_reducible exact((Below.refl _ _).drew).trans M0|exact((Pk.new_below n1 (.cells #[.int .i64 0,.int .i64 0,.int .i64 0,.int .i64 0,.int .i64 0,.int .i64 0,.int .i64 0,.slice none 0 0,.slice none 0 0] 35)).drew).trans (M0.mono (Pk.new_below n1 (.cells #[.int .i64 0,.int .i64 0,.int .i64 0,.int .i64 0,.int .i64 0,.int .i64 0,.int .i64 0,.slice none 0 0,.slice none 0 0] 35)).size)|exact((Below.refl _ n1).drew).trans ((Pk.new_below n1.drew (.cells #[.int .i64 0,.int .i64 0,.int .i64 0,.int .i64 0,.int .i64 0,.int .i64 0,.int .i64 0,.slice none 0 0,.slice none 0 0] 35)).trans (M0.mono (Pk.new_below n1.drew (.cells #[.int .i64 0,.int .i64 0,.int .i64 0,.int .i64 0,.int .i64 0,.int .i64 0,.int .i64 0,.slice none 0 0,.slice none 0 0] 35)).size))|exact((Below.refl _ _).drew).trans M0);(first|(have zc:n2.heap[v18.heap.size]? =some (.cells #[.int .i64 0,.int .i64 0,.int .i64 0,.int .i64 0,.int .i64 0,.int .i64 0,.int .i64 0,.slice none 0 0,.slice none 0 0] 35):=Pk.kept M2 (Pk.lt_of zb) zb;clear zb)|(have zc:n2.heap[n1.heap.size]? =some (.cells #[.int .i64 0,.int .i64 0,.int .i64 0,.int .i64 0,.int .i64 0,.int .i64 0,.int .i64 0,.slice none 0 0,.slice none 0 0] 35):=Pk.kept M0 (Pk.lt_of (Pk.heap_new n1 (.cells #[.int .i64 0,.int .i64 0,.int .i64 0,.int .i64 0,.int .i64 0,.int .i64 0,.int .i64 0,.slice none 0 0,.slice none 0 0] 35))) (Pk.heap_new n1 (.cells #[.int .i64 0,.int .i64 0,.int .i64 0,.int .i64 0,.int .i64 0,.int .i64 0,.int .i64 0,.slice none 0 0,.slice none 0 0] 35)))|(have zc:n2.heap[n1.heap.size]? =some (.cells #[.int .i64 0,.int .i64 0,.int .i64 0,.int .i64 0,.int .i64 0,.int .i64 0,.int .i64 0,.slice none 0 0,.slice none 0 0] 35):=Pk.kept M0 (Pk.lt_of (Pk.heap_new n1.drew (.cells #[.int .i64 0,.int .i64 0,.int .i64 0,.int .i64 0,.int .i64 0,.int .i64 0,.int .i64 0,.slice none 0 0,.slice none 0 0] 35))) (Pk.heap_new n1.drew (.cells #[.int .i64 0,.int .i64 0,.int .i64 0,.int .i64 0,.int .i64 0,.int .i64 0,.int .i64 0,.slice none 0 0,.slice none 0 0] 35)))|skip);have M12:=Pk.join_below M1 M2;have JA2:=JA.on M2;have pa:=Pk.kept M12 (Pk.lt_of m215) m215;have pb:=Pk.kept M12 (Pk.lt_of m216) m216;have nan2:n2.heap.size≠w.heap.size:=Nat.ne_of_gt (Pk.lt_of pa);have nbn2:n2.heap.size≠w.heap.size+1:=Nat.ne_of_gt (Pk.lt_of pb);have ra0:n2.cell? ⟨w.heap.size,0,none⟩=some (.int .i64 o0.dv):=Pk.cell_at pa 0;have ra1:n2.cell? ⟨w.heap.size,1,none⟩=some (.int .i64 o0.p):=Pk.cell_at pa 1;have ra2:n2.cell? ⟨w.heap.size,2,none⟩=some (.int .i64 o0.q):=Pk.cell_at pa 2;have ra3:n2.cell? ⟨w.heap.size,3,none⟩=some (.int .i64 o0.g):=Pk.cell_at pa 3;have ra4:n2.cell? ⟨w.heap.size,4,none⟩=some (.int .i64 o0.op):=Pk.cell_at pa 4;have ra5:n2.cell? ⟨w.heap.size,5,none⟩=some (.int .i64 o0.is):=Pk.cell_at pa 5;have ra6:n2.cell? ⟨w.heap.size,6,none⟩=some (.int .i64 o0.ve):=Pk.cell_at pa 6;have ra7:n2.cell? ⟨w.heap.size,7,none⟩=some (.slice x0.a o0.ol.length x0.c):=Pk.cell_at pa 7;have ra8:n2.cell? ⟨w.heap.size,8,none⟩=some (.slice x0.b o0.sl.length x0.d):=Pk.cell_at pa 8;have rb0:n2.cell? ⟨w.heap.size+1,0,none⟩=some (.int .i64 a1):=Pk.cell_at pb 0;have rb1:n2.cell? ⟨w.heap.size+1,1,none⟩=some (.string s1):=Pk.cell_at pb 1;clear M0 pa pb JA)
        |(go_at_call 9;(with_reducible refine(HI.out yA _ ?_ ?_ FA.out).mono ?_);(first|with_reducible exact(Pk.join_below L222 M12)|with_reducible exact(Pk.join_below L222 M12).drew|with_reducible exact(Pk.join_below (Pk.join_below L222 M12) (Pk.new_below _ _))|with_reducible exact(Pk.join_below (Pk.join_below L222 M12) (Pk.new_below _ _)).drew|with_reducible exact(Pk.join_below (Pk.join_below L222 M12).drew (Pk.new_below _ _)));(first|with_reducible exact JA2.on (Below.refl n2.heap.size n2)|with_reducible exact JA2.on (Below.refl n2.heap.size n2).drew|with_reducible exact JA2.on (Pk.join_below (Below.refl n2.heap.size n2) (Pk.new_below _ _))|with_reducible exact JA2.on (Pk.join_below (Below.refl n2.heap.size n2) (Pk.new_below _ _)).drew|with_reducible exact JA2.on (Pk.join_below (Below.refl n2.heap.size n2).drew (Pk.new_below _ _)));rintro e n3 ⟨yT,rfl,CT,M0⟩;have M3:Below n2.heap.size n2 n3:=(by first|with_reducible exact M0|with_reducible exact Pk.join_below (Pk.new_below _ _) M0|with_reducible exact((Below.refl _ _).drew).trans M0|exact((Pk.new_below n2 (.cells #[.int .i64 0,.int .i64 0,.int .i64 0,.int .i64 0,.int .i64 0,.int .i64 0,.int .i64 0,.slice none 0 0,.slice none 0 0] 35)).drew).trans (M0.mono (Pk.new_below n2 (.cells #[.int .i64 0,.int .i64 0,.int .i64 0,.int .i64 0,.int .i64 0,.int .i64 0,.int .i64 0,.slice none 0 0,.slice none 0 0] 35)).size)|exact((Below.refl _ n2).drew).trans ((Pk.new_below n2.drew (.cells #[.int .i64 0,.int .i64 0,.int .i64 0,.int .i64 0,.int .i64 0,.int .i64 0,.int .i64 0,.slice none 0 0,.slice none 0 0] 35)).trans (M0.mono (Pk.new_below n2.drew (.cells #[.int .i64 0,.int .i64 0,.int .i64 0,.int .i64 0,.int .i64 0,.int .i64 0,.int .i64 0,.slice none 0 0,.slice none 0 0] 35)).size))|exact((Below.refl _ _).drew).trans M0);(first|(have zd:n3.heap[v18.heap.size]? =some (.cells #[.int .i64 0,.int .i64 0,.int .i64 0,.int .i64 0,.int .i64 0,.int .i64 0,.int .i64 0,.slice none 0 0,.slice none 0 0] 35):=Pk.kept M3 (Pk.lt_of zc) zc;have z0:n3.cell? ⟨v18.heap.size,0,none⟩=some (.int .i64 0):=Pk.cell_at zd 0;have z1:n3.cell? ⟨v18.heap.size,1,none⟩=some (.int .i64 0):=Pk.cell_at zd 1;have z2:n3.cell? ⟨v18.heap.size,2,none⟩=some (.int .i64 0):=Pk.cell_at zd 2;have z3:n3.cell? ⟨v18.heap.size,3,none⟩=some (.int .i64 0):=Pk.cell_at zd 3;have z4:n3.cell? ⟨v18.heap.size,4,none⟩=some (.int .i64 0):=Pk.cell_at zd 4;have z5:n3.cell? ⟨v18.heap.size,5,none⟩=some (.int .i64 0):=Pk.cell_at zd 5;have z6:n3.cell? ⟨v18.heap.size,6,none⟩=some (.int .i64 0):=Pk.cell_at zd 6;have z7:n3.cell? ⟨v18.heap.size,7,none⟩=some (.slice none 0 0):=Pk.cell_at zd 7;have z8:n3.cell? ⟨v18.heap.size,8,none⟩=some (.slice none 0 0):=Pk.cell_at zd 8;have y0:n3.frozen? ⟨v18.heap.size,0,none⟩=false:=Pk.frozen_at zd 0;have y1:n3.frozen? ⟨v18.heap.size,1,none⟩=false:=Pk.frozen_at zd 1;have y2:n3.frozen? ⟨v18.heap.size,2,none⟩=false:=Pk.frozen_at zd 2;have y3:n3.frozen? ⟨v18.heap.size,3,none⟩=false:=Pk.frozen_at zd 3;have y4:n3.frozen? ⟨v18.heap.size,4,none⟩=false:=Pk.frozen_at zd 4;have y5:n3.frozen? ⟨v18.heap.size,5,none⟩=false:=Pk.frozen_at zd 5;have y6:n3.frozen? ⟨v18.heap.size,6,none⟩=false:=Pk.frozen_at zd 6;have y7:n3.frozen? ⟨v18.heap.size,7,none⟩=false:=Pk.frozen_at zd 7;have y8:n3.frozen? ⟨v18.heap.size,8,none⟩=false:=Pk.frozen_at zd 8;have hlz:v18.heap.size<n2.heap.size:=Pk.lt_of zc)|(have zd:n3.heap[n1.heap.size]? =some (.cells #[.int .i64 0,.int .i64 0,.int .i64 0,.int .i64 0,.int .i64 0,.int .i64 0,.int .i64 0,.slice none 0 0,.slice none 0 0] 35):=Pk.kept M3 (Pk.lt_of zc) zc;have z0:n3.cell? ⟨n1.heap.size,0,none⟩=some (.int .i64 0):=Pk.cell_at zd 0;have z1:n3.cell? ⟨n1.heap.size,1,none⟩=some (.int .i64 0):=Pk.cell_at zd 1;have z2:n3.cell? ⟨n1.heap.size,2,none⟩=some (.int .i64 0):=Pk.cell_at zd 2;have z3:n3.cell? ⟨n1.heap.size,3,none⟩=some (.int .i64 0):=Pk.cell_at zd 3;have z4:n3.cell? ⟨n1.heap.size,4,none⟩=some (.int .i64 0):=Pk.cell_at zd 4;have z5:n3.cell? ⟨n1.heap.size,5,none⟩=some (.int .i64 0):=Pk.cell_at zd 5;have z6:n3.cell? ⟨n1.heap.size,6,none⟩=some (.int .i64 0):=Pk.cell_at zd 6;have z7:n3.cell? ⟨n1.heap.size,7,none⟩=some (.slice none 0 0):=Pk.cell_at zd 7;have z8:n3.cell? ⟨n1.heap.size,8,none⟩=some (.slice none 0 0):=Pk.cell_at zd 8;have y0:n3.frozen? ⟨n1.heap.size,0,none⟩=false:=Pk.frozen_at zd 0;have y1:n3.frozen? ⟨n1.heap.size,1,none⟩=false:=Pk.frozen_at zd 1;have y2:n3.frozen? ⟨n1.heap.size,2,none⟩=false:=Pk.frozen_at zd 2;have y3:n3.frozen? ⟨n1.heap.size,3,none⟩=false:=Pk.frozen_at zd 3;have y4:n3.frozen? ⟨n1.heap.size,4,none⟩=false:=Pk.frozen_at zd 4;have y5:n3.frozen? ⟨n1.heap.size,5,none⟩=false:=Pk.frozen_at zd 5;have y6:n3.frozen? ⟨n1.heap.size,6,none⟩=false:=Pk.frozen_at zd 6;have y7:n3.frozen? ⟨n1.heap.size,7,none⟩=false:=Pk.frozen_at zd 7;have y8:n3.frozen? ⟨n1.heap.size,8,none⟩=false:=Pk.frozen_at zd 8;have hlz:n1.heap.size<n2.heap.size:=Pk.lt_of zc)|((first|(have zd:n3.heap[n2.heap.size]? =some (.cells #[.int .i64 0,.int .i64 0,.int .i64 0,.int .i64 0,.int .i64 0,.int .i64 0,.int .i64 0,.slice none 0 0,.slice none 0 0] 35):=Pk.kept M0 (Pk.lt_of (Pk.heap_new n2 (.cells #[.int .i64 0,.int .i64 0,.int .i64 0,.int .i64 0,.int .i64 0,.int .i64 0,.int .i64 0,.slice none 0 0,.slice none 0 0] 35))) (Pk.heap_new n2 (.cells #[.int .i64 0,.int .i64 0,.int .i64 0,.int .i64 0,.int .i64 0,.int .i64 0,.int .i64 0,.slice none 0 0,.slice none 0 0] 35)))|(have zd:n3.heap[n2.heap.size]? =some (.cells #[.int .i64 0,.int .i64 0,.int .i64 0,.int .i64 0,.int .i64 0,.int .i64 0,.int .i64 0,.slice none 0 0,.slice none 0 0] 35):=Pk.kept M0 (Pk.lt_of (Pk.heap_new n2.drew (.cells #[.int .i64 0,.int .i64 0,.int .i64 0,.int .i64 0,.int .i64 0,.int .i64 0,.int .i64 0,.slice none 0 0,.slice none 0 0] 35))) (Pk.heap_new n2.drew (.cells #[.int .i64 0,.int .i64 0,.int .i64 0,.int .i64 0,.int .i64 0,.int .i64 0,.int .i64 0,.slice none 0 0,.slice none 0 0] 35))));have z0:n3.cell? ⟨n2.heap.size,0,none⟩=some (.int .i64 0):=Pk.cell_at zd 0;have z1:n3.cell? ⟨n2.heap.size,1,none⟩=some (.int .i64 0):=Pk.cell_at zd 1;have z2:n3.cell? ⟨n2.heap.size,2,none⟩=some (.int .i64 0):=Pk.cell_at zd 2;have z3:n3.cell? ⟨n2.heap.size,3,none⟩=some (.int .i64 0):=Pk.cell_at zd 3;have z4:n3.cell? ⟨n2.heap.size,4,none⟩=some (.int .i64 0):=Pk.cell_at zd 4;have z5:n3.cell? ⟨n2.heap.size,5,none⟩=some (.int .i64 0):=Pk.cell_at zd 5;have z6:n3.cell? ⟨n2.heap.size,6,none⟩=some (.int .i64 0):=Pk.cell_at zd 6;have z7:n3.cell? ⟨n2.heap.size,7,none⟩=some (.slice none 0 0):=Pk.cell_at zd 7;have z8:n3.cell? ⟨n2.heap.size,8,none⟩=some (.slice none 0 0):=Pk.cell_at zd 8;have y0:n3.frozen? ⟨n2.heap.size,0,none⟩=false:=Pk.frozen_at zd 0;have y1:n3.frozen? ⟨n2.heap.size,1,none⟩=false:=Pk.frozen_at zd 1;have y2:n3.frozen? ⟨n2.heap.size,2,none⟩=false:=Pk.frozen_at zd 2;have y3:n3.frozen? ⟨n2.heap.size,3,none⟩=false:=Pk.frozen_at zd 3;have y4:n3.frozen? ⟨n2.heap.size,4,none⟩=false:=Pk.frozen_at zd 4;have y5:n3.frozen? ⟨n2.heap.size,5,none⟩=false:=Pk.frozen_at zd 5;have y6:n3.frozen? ⟨n2.heap.size,6,none⟩=false:=Pk.frozen_at zd 6;have y7:n3.frozen? ⟨n2.heap.size,7,none⟩=false:=Pk.frozen_at zd 7;have y8:n3.frozen? ⟨n2.heap.size,8,none⟩=false:=Pk.frozen_at zd 8)|skip);have M13:=Pk.join_below M12 M3;(first|(have CN:Hn.Copied n2.heap.size n3 yT R:=CT)|(have CN:Hn.Copied (n2.heap.size+1) n3 yT R:=(by have h:=CT;rw[show(n2.alloc (.cells #[.int .i64 0,.int .i64 0,.int .i64 0,.int .i64 0,.int .i64 0,.int .i64 0,.int .i64 0,.slice none 0 0,.slice none 0 0] 35)).heap.size=n2.heap.size+1 from Array.size_push ..]at h;exact h))|(have CN:Hn.Copied (n2.heap.size+1) n3 yT R:=(by have h:=CT;rw[show((n2.alloc (.cells #[.int .i64 0,.int .i64 0,.int .i64 0,.int .i64 0,.int .i64 0,.int .i64 0,.int .i64 0,.slice none 0 0,.slice none 0 0] 35)).drew).heap.size=n2.heap.size+1 from Array.size_push ..]at h;exact h))|(have CN:Hn.Copied (n2.heap.size+1) n3 yT R:=(by have h:=CT;rw[show(n2.drew.alloc (.cells #[.int .i64 0,.int .i64 0,.int .i64 0,.int .i64 0,.int .i64 0,.int .i64 0,.int .i64 0,.slice none 0 0,.slice none 0 0] 35)).heap.size=n2.heap.size+1 from Array.size_push ..]at h;exact h)));have pa:=Pk.kept M13 (Pk.lt_of m215) m215;have pb:=Pk.kept M13 (Pk.lt_of m216) m216;have nan3:n3.heap.size≠w.heap.size:=Nat.ne_of_gt (Pk.lt_of pa);have nbn3:n3.heap.size≠w.heap.size+1:=Nat.ne_of_gt (Pk.lt_of pb);have ra0:n3.cell? ⟨w.heap.size,0,none⟩=some (.int .i64 o0.dv):=Pk.cell_at pa 0;have ra1:n3.cell? ⟨w.heap.size,1,none⟩=some (.int .i64 o0.p):=Pk.cell_at pa 1;have ra2:n3.cell? ⟨w.heap.size,2,none⟩=some (.int .i64 o0.q):=Pk.cell_at pa 2;have ra3:n3.cell? ⟨w.heap.size,3,none⟩=some (.int .i64 o0.g):=Pk.cell_at pa 3;have ra4:n3.cell? ⟨w.heap.size,4,none⟩=some (.int .i64 o0.op):=Pk.cell_at pa 4;have ra5:n3.cell? ⟨w.heap.size,5,none⟩=some (.int .i64 o0.is):=Pk.cell_at pa 5;have ra6:n3.cell? ⟨w.heap.size,6,none⟩=some (.int .i64 o0.ve):=Pk.cell_at pa 6;have ra7:n3.cell? ⟨w.heap.size,7,none⟩=some (.slice x0.a o0.ol.length x0.c):=Pk.cell_at pa 7;have ra8:n3.cell? ⟨w.heap.size,8,none⟩=some (.slice x0.b o0.sl.length x0.d):=Pk.cell_at pa 8;have rb0:n3.cell? ⟨w.heap.size+1,0,none⟩=some (.int .i64 a1):=Pk.cell_at pb 0;have rb1:n3.cell? ⟨w.heap.size+1,1,none⟩=some (.string s1):=Pk.cell_at pb 1;clear pa pb))
       all_goals
        go_wp2
        go_meet
        case rel=>first
         |(have hz:=zd;clear hz;obtain⟨g1,g2,G⟩:=got_put (v:=v18) CN zd (by first|with_reducible exact hlz|with_reducible exact Nat.lt_succ_self _) (by first|with_reducible exact M12.size|with_reducible exact M1.size|with_reducible exact Nat.le_refl _) M13;exact⟨yT,_,_,_,g1,g2,rfl,rfl,G⟩)
         |(obtain⟨g1,g2,G⟩:=got_new (v:=v18) CN M13 M12.size;exact⟨yT,_,_,_,g1,g2,rfl,rfl,G⟩)
      case rest=>
       obtain⟨yH,AH,lAH,hAH,pAH,qAH,rfl,rfl,HCUT⟩:=hcut
       obtain⟨bAH,IyH,MAH,oAH,sAH,Lv21,eAH,fAH,dAH,cAH⟩:=HCUT.out
       clear HCUT
       clear c224 c225 c226 c227 c228 c229 c230 c231 c232 c233 c234
       obtain⟨v21,hwn⟩:∃z,z=wc:=⟨_,rfl⟩
       subst hwn
       have m235:=Pk.kept Lv21 (Pk.lt_of m215) m215
       clear m215
       have m236:=Pk.kept Lv21 (Pk.lt_of m216) m216
       clear m216
       have m237:=Pk.kept Lv21 (Pk.lt_of m217) m217
       clear m217
       have m238:=Pk.kept Lv21 (Pk.lt_of m218) m218
       clear m218
       have m239:=Pk.kept Lv21 (Pk.lt_of m219) m219
       clear m219
       have i240:=i220.on Lv21
       clear i220
       have i241:=i221.on Lv21
       clear i221
       have L242:=Pk.join_below L222 Lv21
       clear L222
       have hs243:v18.heap.size≤v21.heap.size:=Lv21.size
       have hltAH:=Pk.lt_of bAH
       clear MAH oAH sAH
       have c244:v21.cell? ⟨AS,0,none⟩=some (.int .i64 R.dv):=Pk.cell_at m237 0
       have c245:v21.cell? ⟨AS,1,none⟩=some (.int .i64 R.p):=Pk.cell_at m237 1
       have c246:v21.cell? ⟨AS,2,none⟩=some (.int .i64 R.q):=Pk.cell_at m237 2
       have c247:v21.cell? ⟨AS,3,none⟩=some (.int .i64 R.g):=Pk.cell_at m237 3
       have c248:v21.cell? ⟨AS,4,none⟩=some (.int .i64 R.op):=Pk.cell_at m237 4
       have c249:v21.cell? ⟨AS,5,none⟩=some (.int .i64 R.is):=Pk.cell_at m237 5
       have c250:v21.cell? ⟨AS,6,none⟩=some (.int .i64 R.ve):=Pk.cell_at m237 6
       have c251:v21.cell? ⟨AS,7,none⟩=some (.slice yS.a R.ol.length yS.c):=Pk.cell_at m237 7
       have c252:v21.cell? ⟨AS,8,none⟩=some (.slice yS.b R.sl.length yS.d):=Pk.cell_at m237 8
       have c253:v21.cell? ⟨AH,0,none⟩=some (.int .i64 R.dv):=Pk.cell_at bAH 0
       have c254:v21.cell? ⟨AH,1,none⟩=some (.int .i64 R.p):=Pk.cell_at bAH 1
       have c255:v21.cell? ⟨AH,2,none⟩=some (.int .i64 R.q):=Pk.cell_at bAH 2
       have c256:v21.cell? ⟨AH,3,none⟩=some (.int .i64 R.g):=Pk.cell_at bAH 3
       have c257:v21.cell? ⟨AH,4,none⟩=some (.int .i64 R.op):=Pk.cell_at bAH 4
       have c258:v21.cell? ⟨AH,5,none⟩=some (.int .i64 R.is):=Pk.cell_at bAH 5
       have c259:v21.cell? ⟨AH,6,none⟩=some (.int .i64 R.ve):=Pk.cell_at bAH 6
       have c260:v21.cell? ⟨AH,7,none⟩=some (.slice yH.a R.ol.length yH.c):=Pk.cell_at bAH 7
       have c261:v21.cell? ⟨AH,8,none⟩=some (.slice yH.b R.sl.length yH.d):=Pk.cell_at bAH 8
       go_wp2_with fail
       refine(HE.out yH yS _ IyH i240).mono ?_
       clear c244 c245 c246 c247 c248 c249 c250 c251 c252 c253 c254 c255 c256 c257 c258 c259 c260 c261
       rintro e v22 ⟨rfl,Lv22⟩
       have m262:=Pk.kept Lv22 (Pk.lt_of m235) m235
       clear m235
       have m263:=Pk.kept Lv22 (Pk.lt_of m236) m236
       clear m236
       have m264:=Pk.kept Lv22 (Pk.lt_of m237) m237
       clear m237
       have m265:=Pk.kept Lv22 (Pk.lt_of m238) m238
       clear m238
       have m266:=Pk.kept Lv22 (Pk.lt_of m239) m239
       clear m239
       have m267:=Pk.kept Lv22 (Pk.lt_of bAH) bAH
       clear bAH
       have i268:=i240.on Lv22
       clear i240
       have i269:=IyH.on Lv22
       clear IyH
       have i270:=i241.on Lv22
       clear i241
       have L271:=Pk.join_below L242 Lv22
       clear L242
       have hs272:v21.heap.size≤v22.heap.size:=Lv22.size
       have c273:v22.cell? ⟨AG,0,none⟩=some (.int .i64 R.dv):=Pk.cell_at m266 0
       have c274:v22.cell? ⟨AG,1,none⟩=some (.int .i64 R.p):=Pk.cell_at m266 1
       have c275:v22.cell? ⟨AG,2,none⟩=some (.int .i64 R.q):=Pk.cell_at m266 2
       have c276:v22.cell? ⟨AG,3,none⟩=some (.int .i64 R.g):=Pk.cell_at m266 3
       have c277:v22.cell? ⟨AG,4,none⟩=some (.int .i64 R.op):=Pk.cell_at m266 4
       have c278:v22.cell? ⟨AG,5,none⟩=some (.int .i64 R.is):=Pk.cell_at m266 5
       have c279:v22.cell? ⟨AG,6,none⟩=some (.int .i64 R.ve):=Pk.cell_at m266 6
       have c280:v22.cell? ⟨AG,7,none⟩=some (.slice yG.a R.ol.length yG.c):=Pk.cell_at m266 7
       have c281:v22.cell? ⟨AG,8,none⟩=some (.slice yG.b R.sl.length yG.d):=Pk.cell_at m266 8
       go_wp2_with fail
       refine(Hn.heldHand_val yG R pAG qAG _ HZ.out.1 (by have:=HZ.out.2;omega) (HG1.out.imp_right fun h=>h.1) (HG2.out.imp_right fun h=>h.1) i270).mono ?_
       clear c273 c274 c275 c276 c277 c278 c279 c280 c281
       rintro e v23 ⟨rfl,Lv23⟩
       have m282:=Pk.kept Lv23 (Pk.lt_of m262) m262
       clear m262
       have m283:=Pk.kept Lv23 (Pk.lt_of m263) m263
       clear m263
       have m284:=Pk.kept Lv23 (Pk.lt_of m264) m264
       clear m264
       have m285:=Pk.kept Lv23 (Pk.lt_of m265) m265
       clear m265
       have m286:=Pk.kept Lv23 (Pk.lt_of m266) m266
       clear m266
       have m287:=Pk.kept Lv23 (Pk.lt_of m267) m267
       clear m267
       have i288:=i268.on Lv23
       clear i268
       have i289:=i269.on Lv23
       clear i269
       have i290:=i270.on Lv23
       clear i270
       have L291:=Pk.join_below L271 Lv23
       clear L271
       have hs292:v22.heap.size≤v23.heap.size:=Lv23.size
       go_wp2
       go_ret
       exact⟨rfl,L291⟩
  ·have HSZ:Hid (∀(W:World),_):=fun W=>Hn.szHand_yes x0 o0 1048576 W (by omega) hb
   have HSQ:Hid (∀W:World,_):=fun W=>szSquare_z a1 s1 (1048576-(o0.ol.length:Int)-(o0.sl.length:Int)) W (by omega) (by omega) ws1
   rw[if_neg hb2]at HSQ
   have hd0:decide (1048576-(o0.ol.length:Int)-(o0.sl.length:Int)<0)=false:=decide_eq_false (by omega)
   clear HM hb hb2
   obtain⟨mP,mQ,hsz⟩:=Hn.two_blocks w (Hn.hnB x0 o0 27) (.cells #[.int .i64 a1,.string s1] 29)
   have LN:=Pk.join_below (Pk.new_below w (Hn.hnB x0 o0 27)) (Pk.new_below _ (.cells #[.int .i64 a1,.string s1] 29))
   have hsP:=Pk.lt_of mP
   have hsQ:=Pk.lt_of mQ
   go_enter Tryz.func3,Tryz.ntmps3
   have c1:((w.alloc (Hn.hnB x0 o0 27)).alloc (.cells #[.int .i64 a1,.string s1] 29)).cell? ⟨w.heap.size,0,none⟩=some (.int .i64 o0.dv):=Pk.cell_at mP 0
   have c2:((w.alloc (Hn.hnB x0 o0 27)).alloc (.cells #[.int .i64 a1,.string s1] 29)).cell? ⟨w.heap.size,1,none⟩=some (.int .i64 o0.p):=Pk.cell_at mP 1
   have c3:((w.alloc (Hn.hnB x0 o0 27)).alloc (.cells #[.int .i64 a1,.string s1] 29)).cell? ⟨w.heap.size,2,none⟩=some (.int .i64 o0.q):=Pk.cell_at mP 2
   have c4:((w.alloc (Hn.hnB x0 o0 27)).alloc (.cells #[.int .i64 a1,.string s1] 29)).cell? ⟨w.heap.size,3,none⟩=some (.int .i64 o0.g):=Pk.cell_at mP 3
   have c5:((w.alloc (Hn.hnB x0 o0 27)).alloc (.cells #[.int .i64 a1,.string s1] 29)).cell? ⟨w.heap.size,4,none⟩=some (.int .i64 o0.op):=Pk.cell_at mP 4
   have c6:((w.alloc (Hn.hnB x0 o0 27)).alloc (.cells #[.int .i64 a1,.string s1] 29)).cell? ⟨w.heap.size,5,none⟩=some (.int .i64 o0.is):=Pk.cell_at mP 5
   have c7:((w.alloc (Hn.hnB x0 o0 27)).alloc (.cells #[.int .i64 a1,.string s1] 29)).cell? ⟨w.heap.size,6,none⟩=some (.int .i64 o0.ve):=Pk.cell_at mP 6
   have c8:((w.alloc (Hn.hnB x0 o0 27)).alloc (.cells #[.int .i64 a1,.string s1] 29)).cell? ⟨w.heap.size,7,none⟩=some (.slice x0.a o0.ol.length x0.c):=Pk.cell_at mP 7
   have c9:((w.alloc (Hn.hnB x0 o0 27)).alloc (.cells #[.int .i64 a1,.string s1] 29)).cell? ⟨w.heap.size,8,none⟩=some (.slice x0.b o0.sl.length x0.d):=Pk.cell_at mP 8
   go_wp2_with fail
   refine(HSZ.out _).mono ?_
   clear c1 c2 c3 c4 c5 c6 c7 c8 c9
   generalize ((w.alloc (Hn.hnB x0 o0 27)).alloc (.cells #[.int .i64 a1,.string s1] 29))=v0 at*
   rintro e v1 ⟨rfl,Lv1⟩
   have m10:=Pk.kept Lv1 (Pk.lt_of mP) mP
   clear mP
   have m11:=Pk.kept Lv1 (Pk.lt_of mQ) mQ
   clear mQ
   have L12:=Pk.join_below LN Lv1
   clear LN
   have hs13:v0.heap.size≤v1.heap.size:=Lv1.size
   have c14:v1.cell? ⟨w.heap.size+1,0,none⟩=some (.int .i64 a1):=Pk.cell_at m11 0
   have c15:v1.cell? ⟨w.heap.size+1,1,none⟩=some (.string s1):=Pk.cell_at m11 1
   go_wp2_with fail
   refine(HSQ.out _).mono ?_
   clear c14 c15
   rintro e v2 ⟨rfl,Lv2⟩
   have m16:=Pk.kept Lv2 (Pk.lt_of m10) m10
   clear m10
   have m17:=Pk.kept Lv2 (Pk.lt_of m11) m11
   clear m11
   have L18:=Pk.join_below L12 Lv2
   clear L12
   have hs19:v1.heap.size≤v2.heap.size:=Lv2.size
   go_wp2
   go_ret
   exact⟨rfl,L18⟩
 ·have N:=Pk.join_below (Pk.new_below w (Hn.hnB x0 o0 27)) (Pk.new_below _ (.cells #[.int .i64 a1,.string s1] 29))
  have c:Hid (∀i u,((#[.int .i64 o0.dv,.int .i64 o0.p,.int .i64 o0.q,.int .i64 o0.g,.int .i64 o0.op,.int .i64 o0.is,.int .i64 o0.ve,.slice x0.a o0.ol.length x0.c,.slice x0.b o0.sl.length x0.d]:Array Value)[i]? =some u)→((w.alloc (Hn.hnB x0 o0 27)).alloc (.cells #[.int .i64 a1,.string s1] 29)).cell? ⟨w.heap.size,i,none⟩=some u):=fun i u h=>(Pk.cell_at (Pk.heap_old (Pk.heap_new w (Hn.hnB x0 o0 27)) (.cells #[.int .i64 a1,.string s1] 29)) i).trans h
  have c0:=c.out 0 _ rfl
  have c1:=c.out 1 _ rfl
  have c2:=c.out 2 _ rfl
  have c3:=c.out 3 _ rfl
  have c4:=c.out 4 _ rfl
  have c5:=c.out 5 _ rfl
  have c6:=c.out 6 _ rfl
  have c7:=c.out 7 _ rfl
  have c8:=c.out 8 _ rfl
  have HB:Hid (¬(o0.ol.length:Int)+(o0.sl.length:Int)≤1048576):=hb
  clear hb c
  go_enter Tryz.func3,Tryz.ntmps3
  go_wp2_with fail
  refine(Hn.szHand_no x0 o0 1048576 _ (by omega) (by omega) HM.out.1 HM.out.2 (by have:=HB.out;omega)).mono ?_
  rintro e w1 ⟨rfl,L1⟩
  go_wp2
  go_ret
  exact⟨rfl,Pk.join_below N L1⟩

theorem errs {W:World} (hL:laidMetH Tryz.prog Rows.fnExactInspectFrameRow.laid W):Num.Tens W∧Errs.ErrAt 1 W∧Errs.ErrAt 2 W∧Errs.ErrAt 3 W∧Errs.ErrAt 4 W∧Pk.Runs W:=by
 have h0:laidMet Tryz.prog [("math/bits.deBruijn32tab",Rows.laid_math_bits_deBruijn32tab),("math/bits.deBruijn64tab",Rows.laid_math_bits_deBruijn64tab),("internal/strconv.uint64pow10",Rows.laid_internal_strconv_uint64pow10),("unicode/utf8.acceptRanges",Rows.laid_unicode_utf8_acceptRanges),("loop.example/g00211/impl.errParams",Rows.laid_loop_example_g00211_impl_errParams),("loop.example/g00211/impl.errOpen",Rows.laid_loop_example_g00211_impl_errOpen),("loop.example/g00211/impl.errMark",Rows.laid_loop_example_g00211_impl_errMark),("loop.example/g00211/impl.errText",Rows.laid_loop_example_g00211_impl_errText),("loop.example/g00211/impl.fixedRuns",Rows.laid_loop_example_g00211_impl_fixedRuns),("unicode/utf8.first",Rows.laid_unicode_utf8_first)] W:=hL
 exact⟨Tabs.tens_of (laidMet.tail (laidMet.tail h0)),Errs.head (laidMet.tail (laidMet.tail (laidMet.tail (laidMet.tail h0)))) ⟨_,rfl⟩ (by kernel_rfl) (by kernel_rfl),Errs.head (laidMet.tail (laidMet.tail (laidMet.tail (laidMet.tail (laidMet.tail h0))))) ⟨_,rfl⟩ (by kernel_rfl) (by kernel_rfl),Errs.head (laidMet.tail (laidMet.tail (laidMet.tail (laidMet.tail (laidMet.tail (laidMet.tail h0)))))) ⟨_,rfl⟩ (by kernel_rfl) (by kernel_rfl),Errs.head (laidMet.tail (laidMet.tail (laidMet.tail (laidMet.tail (laidMet.tail (laidMet.tail (laidMet.tail h0))))))) ⟨_,rfl⟩ (by kernel_rfl) (by kernel_rfl),Pk.runs_of (laidMet.tail (laidMet.tail (laidMet.tail (laidMet.tail (laidMet.tail (laidMet.tail (laidMet.tail (laidMet.tail h0))))))))⟩

set_option maxRecDepth 100000 in
theorem contract (H:Type) (enc:TypeId×Value→H) (W:World) (base:Nat) (args:Array Value) (ds gs:List (DataW H)) (before:List MemPlace)
 (hval:∀(j:Nat) t v,Tryz.f3.params[j]? =some t→args[j]? =some v→Value.okWide Tryz.prog W .any base t v)
 (hW:DataW.Whole enc Tryz.prog Tryz.f3.params.toList Rows.fnExactInspectFrameSpec.vars false W args.toList ds gs before) (hL:laidMetH Tryz.prog Rows.fnExactInspectFrameRow.laid W) (hSh:W.ShapedOpen Tryz.prog):
 Calls Tryz.prog 3 args W fun e W'=>∃v,e= .returned v∧Rows.fnExactInspectFrameSpec.post enc Tryz.prog Tryz.f3 false true false false W args v W':=by
 have hW':=hW
 obtain⟨p,q,hA0,hV,rfl,hfz,hnd⟩:=hW
 have hA:DataW.TrodAll enc Tryz.prog W 0 (fun _=>true) true Tryz.f3.params.toList args.toList ds p:=hA0
 rw[Tryz.params3]at hA hval
 obtain⟨v0,vs0,d0,ds0,p0,q0,hargs,rfl,rfl,h0,r0⟩:=trodAll_cons hA
 obtain⟨v1,vs1,d1,ds1,p1,q1,rfl,rfl,rfl,h1,r1⟩:=trodAll_cons r0
 obtain⟨v2,vs2,d2,ds2,p2,q2,rfl,rfl,rfl,h2,r2⟩:=trodAll_cons r1
 obtain⟨v3,vs3,d3,ds3,p3,q3,rfl,rfl,rfl,h3,r3⟩:=trodAll_cons r2
 obtain⟨rfl,rfl,rfl⟩:=trodAll_nil r3
 obtain rfl:args= #[v0,v1,v2,v3]:=by cases args;simp_all
 have hlen:=Errs.vars_len hV
 obtain⟨g0,gs0,rfl,hl0⟩:=Errs.len_cons hlen
 obtain⟨g1,gs1,rfl,hl1⟩:=Errs.len_cons hl0
 obtain⟨g2,gs2,rfl,hl2⟩:=Errs.len_cons hl1
 obtain⟨g3,gs3,rfl,hl3⟩:=Errs.len_cons hl2
 obtain⟨g4,gs4,rfl,hl4⟩:=Errs.len_cons hl3
 obtain rfl:=List.length_eq_zero_iff.1 hl4
 have k0:=h0
 have lt0:∀x∈p0,x.block<W.heap.size:=by obtain⟨m,hm⟩:=k0;exact DataW.trod_lt m _ _ _ hm
 obtain⟨x0,o0,rfl,w0i,w0l⟩:=Hn.hand_open (hval 0 27 v0 rfl rfl) h0
 have k1:=h1
 have lt1:∀x∈p1,x.block<W.heap.size:=by obtain⟨m,hm⟩:=k1;exact DataW.trod_lt m _ _ _ hm
 obtain⟨c1_0,c1_1,y1_0,y1_1,m1,rfl,rfl,rfl,hy1_0,hy1_1⟩:=open_agg2 Tryz.underlying29 (by kernel_rfl) (by kernel_rfl) (hval 1 29 v1 rfl rfl) h1
 obtain⟨a1,e1_0,rfl,w1⟩:=DataW.trod_int Tryz.underlying3 hy1_0
 obtain⟨s1,e1_1,rfl,ws1⟩:=DataW.trod_string Tryz.underlying9 hy1_1
 simp at e1_0 e1_1
 subst e1_0 e1_1
 have k2:=h2
 have lt2:∀x∈p2,x.block<W.heap.size:=by obtain⟨m,hm⟩:=k2;exact DataW.trod_lt m _ _ _ hm
 obtain⟨a2,rfl,rfl,rfl,w2⟩:=open_int Tryz.underlying3 (hval 2 3 v2 rfl rfl) h2
 have k3:=h3
 have lt3:∀x∈p3,x.block<W.heap.size:=by obtain⟨m,hm⟩:=k3;exact DataW.trod_lt m _ _ _ hm
 obtain⟨a3,rfl,rfl,rfl,w3⟩:=open_int Tryz.underlying3 (hval 3 3 v3 rfl rfl) h3
 clear hA0
 refine(walk x0 o0 a1 w1 s1 ws1 a2 w2 a3 w3 W ⟨w0i,w0l⟩ (errs hL).1 (errs hL).2.1 (errs hL).2.2.1 (errs hL).2.2.2.1 (errs hL).2.2.2.2.1 (errs hL).2.2.2.2.2 hSh).mono fun e W' ⟨he,bel⟩=> ?_
 subst he
 exact⟨_,rfl,_,_,_,[],_,_,hW',trodAll_mk1 (shut_bool Tryz.underlying4 _),(trodAll_cons_mk (Below.trod Errs.laidOut (by kernel_rfl) (of_decide_eq_true (by kernel_rfl)) k0 bel lt0) (trodAll_cons_mk (Below.trod Errs.laidOut (by kernel_rfl) (of_decide_eq_true (by kernel_rfl)) k1 bel lt1) (trodAll_cons_mk (Below.trod Errs.laidOut (by kernel_rfl) (of_decide_eq_true (by kernel_rfl)) k2 bel lt2) (trodAll_cons_mk (Below.trod Errs.laidOut (by kernel_rfl) (of_decide_eq_true (by kernel_rfl)) k3 bel lt3) trodAll_mk0)))),(Below.trodVars Errs.laidOut bel (by kernel_rfl) hV),bel.frame _,fun h=>by cases h⟩

theorem laid_met (os:Os):laidMet Tryz.prog Rows.fnExactInspectFrameRow.laid ((Tabs.tabW 6 Rows.laid_unicode_utf8_first (Pk.runsW (Errs.errW 4 Rows.laid_loop_example_g00211_impl_errText (Errs.errW 3 Rows.laid_loop_example_g00211_impl_errMark (Errs.errW 2 Rows.laid_loop_example_g00211_impl_errOpen (Errs.errW 1 Rows.laid_loop_example_g00211_impl_errParams (Tabs.tabW 7 Rows.laid_unicode_utf8_acceptRanges (Tabs.tabW 8 Rows.laid_internal_strconv_uint64pow10 (Tabs.tabW 10 Rows.laid_math_bits_deBruijn64tab (Tabs.tabW 9 Rows.laid_math_bits_deBruijn32tab (World.holding Tryz.prog os ⟨#[],#[],[]⟩))))))))))).forCall (fun _ _=>0) ⟨#[],#[.agg #[.int .i64 0,.int .i64 0,.int .i64 0,.int .i64 0,.int .i64 0,.int .i64 0,.int .i64 0,.slice none 0 0,.slice none 0 0],.agg #[.int .i64 0,.string ByteArray.empty],.int .i64 0,.int .i64 0],[]⟩).memory:=
 laidMet_of_run' 8 (by kernel_rfl) (by kernel_rfl)

theorem reads (os:Os) {H:Type} (enc:TypeId×Value→H):∃x,DataW.whole enc Tryz.prog ((Tabs.tabW 6 Rows.laid_unicode_utf8_first (Pk.runsW (Errs.errW 4 Rows.laid_loop_example_g00211_impl_errText (Errs.errW 3 Rows.laid_loop_example_g00211_impl_errMark (Errs.errW 2 Rows.laid_loop_example_g00211_impl_errOpen (Errs.errW 1 Rows.laid_loop_example_g00211_impl_errParams (Tabs.tabW 7 Rows.laid_unicode_utf8_acceptRanges (Tabs.tabW 8 Rows.laid_internal_strconv_uint64pow10 (Tabs.tabW 10 Rows.laid_math_bits_deBruijn64tab (Tabs.tabW 9 Rows.laid_math_bits_deBruijn32tab (World.holding Tryz.prog os ⟨#[],#[],[]⟩))))))))))).forCall (fun _ _=>0) ⟨#[],#[.agg #[.int .i64 0,.int .i64 0,.int .i64 0,.int .i64 0,.int .i64 0,.int .i64 0,.int .i64 0,.slice none 0 0,.slice none 0 0],.agg #[.int .i64 0,.string ByteArray.empty],.int .i64 0,.int .i64 0],[]⟩).memory Tryz.f3.params.toList Rows.fnExactInspectFrameSpec.vars false (#[.agg #[.int .i64 0,.int .i64 0,.int .i64 0,.int .i64 0,.int .i64 0,.int .i64 0,.int .i64 0,.slice none 0 0,.slice none 0 0],.agg #[.int .i64 0,.string ByteArray.empty],.int .i64 0,.int .i64 0]:Array Value).toList 8=some x:=
 Option.isSome_iff_exists.1 (by kernel_rfl)

set_option maxRecDepth 100000 in
theorem lifted (os:Os) (started:os.Started) (H:Type) (enc:TypeId×Value→H) (F:Stop.Interp):
 ReturnsInHanded {} Tryz.checked os 3 .any ((OpenSpec.ofChange Rows.fnExactInspectFrameSpec).preRow enc Tryz.prog Tryz.f3 Rows.fnExactInspectFrameRow.domain false Rows.fnExactInspectFrameRow.laid) (((OpenSpec.ofChange Rows.fnExactInspectFrameSpec).at F).post enc Tryz.prog Tryz.f3 false true false false):=by
 obtain⟨x,hx⟩:=reads os enc
 refine returnsInHanded_of_row (C:=Tryz.checked) (s:=OpenSpec.ofChange Rows.fnExactInspectFrameSpec) Errs.own started (by kernel_rfl) Tryz.func3
  (witness_row_at (enc:=enc) (C:=Tryz.checked) false (Tabs.tabW 6 Rows.laid_unicode_utf8_first (Pk.runsW (Errs.errW 4 Rows.laid_loop_example_g00211_impl_errText (Errs.errW 3 Rows.laid_loop_example_g00211_impl_errMark (Errs.errW 2 Rows.laid_loop_example_g00211_impl_errOpen (Errs.errW 1 Rows.laid_loop_example_g00211_impl_errParams (Tabs.tabW 7 Rows.laid_unicode_utf8_acceptRanges (Tabs.tabW 8 Rows.laid_internal_strconv_uint64pow10 (Tabs.tabW 10 Rows.laid_math_bits_deBruijn64tab (Tabs.tabW 9 Rows.laid_math_bits_deBruijn32tab (World.holding Tryz.prog os ⟨#[],#[],[]⟩))))))))))) #[.agg #[.int .i64 0,.int .i64 0,.int .i64 0,.int .i64 0,.int .i64 0,.int .i64 0,.int .i64 0,.slice none 0 0,.slice none 0 0],.agg #[.int .i64 0,.string ByteArray.empty],.int .i64 0,.int .i64 0] rfl (by kernel_rfl) (by kernel_rfl) (by kernel_rfl)
   (OpenSpec.preRow_of_cond 8 hx rfl (fun k hk=>by cases hk) (by kernel_rfl) (laid_met os))) ?_
 intro W base args ds gs before hval hW _ _ _ hL hSh _
 exact contract H enc W base args ds gs before hval hW hL hSh

set_option maxRecDepth 100000 in
theorem said:Rows.FnExactInspectFrameSaid:=
 OpenClaim.holds_of_cond 3 Tryz.f3 rfl rfl rfl rfl rfl rfl rfl ⟨rfl,rfl,rfl,rfl,rfl⟩ rfl rfl rfl rfl rfl (by kernel_rfl) Tryz.func3 (by kernel_rfl)
  (of_decide_eq_true (by kernel_rfl)) (by unfold Func.isWrapper;first|(rw[if_pos (by decide+kernel)];kernel_rfl)|(rw[if_neg (by decide+kernel)];exact⟨rfl,rfl⟩))
  (fun os started H enc _ F=>by rw[OpenClaim.pre_eq_preRow];exact lifted os started H enc F)

theorem plain (f:FuncId) (fn:Func) (hf:Tryz.pinned.checked.prog.funcNamed "loop.example/g00211/laws.FnExactInspectFrame" =some f) (hfn:Tryz.pinned.checked.prog.funcs[f]? =some fn):
 true=Tryz.pinned.checked.prog.looks []∧∀(j:Nat) t,fn.params[j]? =some t→Tryz.pinned.checked.prog.wantsStandIn t=false:=by
 obtain rfl:f=3:=Option.some.inj ((show Tryz.prog.funcNamed "loop.example/g00211/laws.FnExactInspectFrame" =some 3 by kernel_rfl).symm.trans hf)|>.symm
 obtain rfl:fn=Tryz.f3:=(Option.some.inj (Tryz.func3.symm.trans hfn)).symm
 refine⟨by kernel_rfl,fun j t ht=> ?_⟩
 rw[Tryz.params3]at ht
 have hm:t=27∨t=29∨t=3∨t=3:=by simpa using Array.mem_of_getElem? ht
 rcases hm with rfl|rfl|rfl|rfl
 ·exact(show Tryz.prog.wantsStandIn 27=false by kernel_rfl)
 ·exact(show Tryz.prog.wantsStandIn 29=false by kernel_rfl)
 ·exact(show Tryz.prog.wantsStandIn 3=false by kernel_rfl)
 ·exact(show Tryz.prog.wantsStandIn 3=false by kernel_rfl)

theorem card:Rows.FnExactInspectFrameCardSaid:=
 Claim7.holds_tied_plain_at .later [] _ _ _ _ said (fun _ h=>by cases h) (by kernel_rfl) (fun _ h=>by cases h) fnExactInspectFrame_row_tie rfl ⟨rfl,rfl⟩ (by kernel_rfl) rfl plain (by kernel_rfl)
end Go.Proofs.YtdcpjicgehdmfaaGreatDoor.fnExactInspectFrame
namespace Go.Proofs.YtdcpjicgehdmfaaGreatDoor
theorem FnExactInspectFrame_holds:Rows.FnExactInspectFrameCardSaid:=fnExactInspectFrame.card
end Go.Proofs.YtdcpjicgehdmfaaGreatDoor

/- Texts laid into one, in their order: FrImpl, FrSpec, RdTk, IsLaw. -/
import Derived.Test.YtcjgkmhpeedhiaaGreatDoorManyAFnIssued
import Derived.Test.YtcjgkmhpeedhiaaGreatDoorManyCFnIssued
import Derived.Deep.RegionHeld3
import Derived.Test.YtcjgkmhpeedhiaaGreatDoorManyBFnIssued
import Derived.Test.YtcjgkmhpeedhiaaGreatDoorTkSame
import Derived.Test.YtcjgkmhpeedhiaaGreatDoorCurNum
/- The contract of the program's Unframe. -/
namespace Go.Proofs.YtcjgkmhpeedhiaaGreatDoor
namespace Fr
open Go.ChangeShapes Go.WideShapes Go.ChangeAt Go.RowKit
open Pk (new_below join_below cell_at heap_new frozen_at lt_of kept heap_old)
open Math (unpC unpT)
open Num (rmR rmS)
set_option linter.unusedSimpArgs false
set_option linter.unusedVariables false

def PEnd (s:ByteArray) (e:Ending) (w':World):Prop:=∃a m cp g,e= .returned (.tuple #[.slice a m cp,.int .i64 (fC s:Nat)])∧((fC s≠0∧m=0∧a=none∧cp=0)∨(fC s=0∧m=3∧a=some ⟨g,0,none⟩∧g<w'.heap.size∧w'.heap[g]? =some (.cells (parts (fN s) (fR s) (fS s) (fP s)) 101 (0,0))))

theorem pend_no {s:ByteArray} {e:Ending} {w':World} {c:Nat} (h:fC s=c) (hc:c≠0) (he:e= .returned (.tuple #[.slice none 0 0,.int .i64 (c:Nat)])):PEnd s e w':=⟨none,0,0,0,by rw[he,h],Or.inl ⟨by rw[h];exact hc,rfl,rfl,rfl⟩⟩

theorem below_of {B:Nat} {w w1:World} (h:Num.Drawn w w1):Below B w w1:=by
 obtain⟨q,rfl⟩:=h
 exact⟨rfl,rfl,rfl,Nat.le_refl _,fun _ _=>rfl⟩

theorem neq_dec (a b:Nat):((a:Int) !=(b:Int))=decide (a≠b):=by
 by_cases h:a=b
 ·subst h;simp
 ·simp[h];omega

set_option maxRecDepth 100000 in
set_option maxHeartbeats 4000000 in
theorem parts_val (s:ByteArray) (w:World) (hm:s.size≤1048576) (R:Pk.Runs w):
 Calls Tryz.prog 35 #[.string s] w fun e w'=>PEnd s e w'∧Below w.heap.size w w':=by
 have hML:s.size≤maxLen:=by unfold maxLen;omega
 have HCP:Hid (∀W:World,_):=fun W=>Tryz.strings_CutPrefix s hd5 W
 rcases f_cases s with⟨b1,hc⟩|⟨g1,b2,hc⟩|⟨g1,g2,b3,hc⟩|⟨g1,g2,g3,b4,hc⟩|⟨g1,g2,g3,g4,hc⟩
 ·rw[prefix_no s b1]at HCP
  have HC:Hid (fC s=1):=hc
  clear b1 hc
  generalize (⟨(Lib.trimPrefix s.data.toList hd5.data.toList).toArray⟩:ByteArray)=X at*
  go_enter Tryz.func35,Tryz.ntmps35
  go_wp2_with fail
  refine(HCP.out _).mono ?_
  rintro e w1 ⟨rfl,rfl⟩
  go_wp2
  go_ret2
  exact⟨pend_no HC.out (by omega) rfl,Below.refl _ _⟩
 all_goals
  have q1:5≤s.size∧s.extract 0 5=hd5:=by
   unfold Bad1 at g1
   by_cases h5:5≤s.size
   ·exact⟨h5,Classical.byContradiction fun h=>g1 (Or.inr h)⟩
   ·exact absurd (Or.inl h5) g1
  obtain⟨p1,p2⟩:=prefix_yes s q1.1 q1.2
  rw[p1,p2]at HCP
  have z1:(s.extract 5 s.size).size=s.size-5:=ext_size s 5 s.size (Nat.le_refl _)
  have HK:Hid (∀W:World,_):=fun W=>implCut_val (s.extract 5 s.size) W
  have hq5:=q1.1
  clear g1 p1 p2 q1
 ·have HC:Hid (fC s=2):=hc
  clear hc
  by_cases h9:9≤s.size∧dg (s.extract 5 9) 4≠none
  ·obtain⟨n,hn⟩:=Option.ne_none_iff_exists'.1 h9.2
   obtain⟨c1,c2,c3⟩:=cut_yes (r:=s.extract 5 s.size) (n:=n) (by omega) (by rw[cut_rest s 5 (by omega)];exact hn)
   rw[c1,c2,c3,ext_ext]at HK
   have z2:(s.extract (5+4) s.size).size=s.size-9:=ext_size s 9 s.size (Nat.le_refl _)
   have h17:s.size<17:=by
    rcases b2 with h|h
    ·exact h
    ·exact absurd h h9.2
   have d8:((s.extract (5+4) s.size).size:Int)<8:=by omega
   generalize s.extract (5+4) s.size=r2 at*
   generalize s.extract 5 s.size=r1 at*
   clear c1 c2 c3 hn h9 b2 z1 z2
   go_enter Tryz.func35,Tryz.ntmps35
   go_wp2_with fail
   refine(HCP.out _).mono ?_
   rintro e w1 ⟨rfl,rfl⟩
   go_wp2_with fail
   refine(HK.out _).mono ?_
   rintro e w2 ⟨rfl,D2⟩
   go_wp2
   go_ret2
   exact⟨pend_no HC.out (by omega) rfl,below_of D2⟩
  ·obtain⟨c1,c2,c3⟩:=cut_no (r:=s.extract 5 s.size) (by
    by_cases h:9≤s.size
    ·right
     rw[cut_rest s 5 (by omega)]
     exact Classical.byContradiction fun h2=>h9 ⟨h,h2⟩
    ·left
     omega)
   rw[c1,c2,c3]at HK
   generalize s.extract 5 s.size=r1 at*
   clear c1 c2 c3 h9 b2 z1
   go_enter Tryz.func35,Tryz.ntmps35
   go_wp2_with fail
   refine(HCP.out _).mono ?_
   rintro e w1 ⟨rfl,rfl⟩
   go_wp2_with fail
   refine(HK.out _).mono ?_
   rintro e w2 ⟨rfl,D2⟩
   go_wp2
   go_ret2
   exact⟨pend_no HC.out (by omega) rfl,below_of D2⟩
 all_goals
  have q2:17≤s.size∧∃n,dg (s.extract 5 9) 4=some n:=by
   unfold Bad2 at g2
   exact⟨by omega,Option.ne_none_iff_exists'.1 fun h=>g2 (Or.inr h)⟩
  obtain⟨h17,n,hn⟩:=q2
  obtain⟨c1,c2,c3⟩:=cut_yes (r:=s.extract 5 s.size) (n:=n) (by omega) (by rw[cut_rest s 5 (by omega)];exact hn)
  rw[c1,c2,c3,ext_ext]at HK
  have z2:(s.extract (5+4) s.size).size=s.size-9:=ext_size s 9 s.size (Nat.le_refl _)
  have HE8:Hid ((s.extract (5+4) s.size).extract 0 8=s.extract 9 17):=ext_in s 9 0 8 (by omega)
  have HE9:Hid ((s.extract (5+4) s.size).extract 8 (s.extract (5+4) s.size).size=s.extract 17 s.size):=ext_ext s 9 8
  have HMK:Hid (∀W:World,_):=fun W=>Num.implReadMark_val (s.extract 9 17) W (by rw[ext_size s 9 17 h17];unfold maxLen;omega)
  have HK3:Hid (∀W:World,_):=fun W=>implCut_val (s.extract 17 s.size) W
  have z3:(s.extract 17 s.size).size=s.size-17:=ext_size s 17 s.size (Nat.le_refl _)
  have d8:¬((s.extract (5+4) s.size).size:Int)<8:=by omega
  have d8b:(8:Int)≤((s.extract (5+4) s.size).size:Int):=by omega
  have z4:(s.extract 21 s.size).size=s.size-21:=ext_size s 21 s.size (Nat.le_refl _)
  have hlt:=R.lt
  clear c1 c2 c3 g2 z2
 ·have HC:Hid (fC s=3):=hc
  clear hc
  by_cases h21:21≤s.size∧dg (s.extract 17 21) 4≠none
  ·obtain⟨k,hk⟩:=Option.ne_none_iff_exists'.1 h21.2
   obtain⟨c1,c2,c3⟩:=cut_yes (r:=s.extract 17 s.size) (n:=k) (by omega) (by rw[cut_rest s 17 (by omega)];exact hk)
   rw[c1,c2,c3,ext_ext]at HK3
   have z5:(s.extract (17+4) s.size).size=s.size-21:=z4
   have hne:(s.extract (17+4) s.size).size≠k:=by
    intro h
    rcases b3 with h2|h2
    ·omega
    ·apply h2
     rw[hk,←h,z5]
   have d9:(((s.extract (17+4) s.size).size:Int) !=(k:Int))=true:=by rw[neq_dec];exact decide_eq_true hne
   have d9b:¬(((s.extract (17+4) s.size).size:Int)=(k:Int)):=by omega
   generalize s.extract (17+4) s.size=r4 at*
   generalize s.extract 17 s.size=r3 at*
   generalize rmR (s.extract 9 17)=mR at*
   generalize rmS (s.extract 9 17)=mS at*
   generalize decide ((s.extract 9 17).size=8)=mB at*
   generalize s.extract 9 17=mt at*
   generalize s.extract (5+4) s.size=r2 at*
   generalize s.extract 5 s.size=r1 at*
   clear c1 c2 c3 hk h21 b3 z1 z3 z4 z5 hn hne
   go_enter Tryz.func35,Tryz.ntmps35
   go_wp2_with fail
   refine(HCP.out _).mono ?_
   rintro e w1 ⟨rfl,rfl⟩
   go_wp2_with fail
   refine(HK.out _).mono ?_
   rintro e w2 ⟨rfl,D2⟩
   go_wp2_with fail
   rw[HE8.out]
   refine(HMK.out _).mono ?_
   rintro e w3 ⟨rfl,L3⟩
   have L4:=join_below (below_of D2) L3
   have N5:=new_below w3 (.cells #[.int .i64 mR,.int .i64 mS] 42)
   have L5:=join_below L4 N5
   go_wp2_with fail
   rw[HE9.out]
   refine(HK3.out _).mono ?_
   rintro e w6 ⟨rfl,D6⟩
   have L6:=join_below L5 (below_of D6)
   go_wp2
   go_ret2
   exact⟨pend_no HC.out (by omega) rfl,L6⟩
  ·obtain⟨c1,c2,c3⟩:=cut_no (r:=s.extract 17 s.size) (by
    by_cases h:21≤s.size
    ·right
     rw[cut_rest s 17 (by omega)]
     exact Classical.byContradiction fun h2=>h21 ⟨h,h2⟩
    ·left
     omega)
   rw[c1,c2,c3]at HK3
   generalize s.extract 17 s.size=r3 at*
   generalize rmR (s.extract 9 17)=mR at*
   generalize rmS (s.extract 9 17)=mS at*
   generalize decide ((s.extract 9 17).size=8)=mB at*
   generalize s.extract 9 17=mt at*
   generalize s.extract (5+4) s.size=r2 at*
   generalize s.extract 5 s.size=r1 at*
   clear c1 c2 c3 h21 b3 z1 z3 z4 hn
   go_enter Tryz.func35,Tryz.ntmps35
   go_wp2_with fail
   refine(HCP.out _).mono ?_
   rintro e w1 ⟨rfl,rfl⟩
   go_wp2_with fail
   refine(HK.out _).mono ?_
   rintro e w2 ⟨rfl,D2⟩
   go_wp2_with fail
   rw[HE8.out]
   refine(HMK.out _).mono ?_
   rintro e w3 ⟨rfl,L3⟩
   have L4:=join_below (below_of D2) L3
   have N5:=new_below w3 (.cells #[.int .i64 mR,.int .i64 mS] 42)
   have L5:=join_below L4 N5
   go_wp2_with fail
   rw[HE9.out]
   refine(HK3.out _).mono ?_
   rintro e w6 ⟨rfl,D6⟩
   have L6:=join_below L5 (below_of D6)
   go_wp2
   go_ret2
   exact⟨pend_no HC.out (by omega) rfl,L6⟩
 all_goals
  have q3:21≤s.size∧dg (s.extract 17 21) 4=some (s.size-21):=by
   unfold Bad3 at g3
   exact⟨by omega,Classical.byContradiction fun h=>g3 (Or.inr h)⟩
  obtain⟨h21,hk⟩:=q3
  obtain⟨c1,c2,c3⟩:=cut_yes (r:=s.extract 17 s.size) (n:=s.size-21) (by omega) (by rw[cut_rest s 17 (by omega)];exact hk)
  rw[c1,c2,c3,ext_ext]at HK3
  have z5:(s.extract (17+4) s.size).size=s.size-21:=z4
  have d9:(((s.extract (17+4) s.size).size:Int) !=((s.size-21:Nat):Int))=false:=by rw[z5];simp
  have d9b:((s.extract (17+4) s.size).size:Int)=((s.size-21:Nat):Int):=by rw[z5]
  have HUN:Hid (∀(W:World) (r:Pk.Runs W),_):=fun W r=>Pk.implUnpack_val (s.extract (17+4) s.size) W r
  clear c1 c2 c3 g3 hk
 ·have HC:Hid (fC s=4):=hc
  have b4':unpC (s.extract (17+4) s.size)≠0:=b4
  generalize unpT (s.extract (17+4) s.size)=T5 at*
  generalize unpC (s.extract (17+4) s.size)=C5 at*
  have d10:((C5:Int) !=0)=true:=by simp;exact b4'
  have d10b:¬((C5:Int)=0):=by omega
  generalize s.size-21=k at*
  generalize s.extract (17+4) s.size=r4 at*
  generalize s.extract 17 s.size=r3 at*
  generalize rmR (s.extract 9 17)=mR at*
  generalize rmS (s.extract 9 17)=mS at*
  generalize decide ((s.extract 9 17).size=8)=mB at*
  generalize s.extract 9 17=mt at*
  generalize s.extract (5+4) s.size=r2 at*
  generalize s.extract 5 s.size=r1 at*
  clear hc b4 b4' z1 z3 z4 z5 hn d9b h21
  go_enter Tryz.func35,Tryz.ntmps35
  go_wp2_with fail
  refine(HCP.out _).mono ?_
  rintro e w1 ⟨rfl,rfl⟩
  go_wp2_with fail
  refine(HK.out _).mono ?_
  rintro e w2 ⟨rfl,D2⟩
  go_wp2_with fail
  rw[HE8.out]
  refine(HMK.out _).mono ?_
  rintro e w3 ⟨rfl,L3⟩
  have L4:=join_below (below_of D2) L3
  have N5:=new_below w3 (.cells #[.int .i64 mR,.int .i64 mS] 42)
  have L5:=join_below L4 N5
  go_wp2_with fail
  rw[HE9.out]
  refine(HK3.out _).mono ?_
  rintro e w6 ⟨rfl,D6⟩
  have L6:=join_below L5 (below_of D6)
  have R6:=R.on L6 hlt
  go_wp2_with fail
  refine(HUN.out _ R6).mono ?_
  rintro e w7 ⟨rfl,L7⟩
  have L8:=join_below L6 L7
  go_wp2
  go_ret2
  exact⟨pend_no HC.out (by omega) rfl,L8⟩
 ·have HC:Hid (fC s=0):=hc
  have g4':unpC (s.extract (17+4) s.size)=0:=Classical.byContradiction fun h=>g4 h
  obtain⟨f1,f2,f3,f4⟩:=f_yes hc
  rw[digI_some hn]at f1
  have f4':fP s=unpT (s.extract (17+4) s.size):=f4
  have HFF:Hid (_∧_∧_∧_):=⟨f1,f2,f3,f4'⟩
  rw[g4']at HUN
  generalize unpT (s.extract (17+4) s.size)=T5 at*
  generalize s.size-21=k at*
  generalize s.extract (17+4) s.size=r4 at*
  generalize s.extract 17 s.size=r3 at*
  generalize rmR (s.extract 9 17)=mR at*
  generalize rmS (s.extract 9 17)=mS at*
  generalize decide ((s.extract 9 17).size=8)=mB at*
  generalize s.extract 9 17=mt at*
  generalize s.extract (5+4) s.size=r2 at*
  generalize s.extract 5 s.size=r1 at*
  clear hc g4 g4' z1 z3 z4 z5 hn d9b h21 f1 f2 f3 f4 f4'
  go_enter Tryz.func35,Tryz.ntmps35
  go_wp2_with fail
  refine(HCP.out _).mono ?_
  rintro e w1 ⟨rfl,rfl⟩
  go_wp2_with fail
  refine(HK.out _).mono ?_
  rintro e w2 ⟨rfl,D2⟩
  go_wp2_with fail
  rw[HE8.out]
  refine(HMK.out _).mono ?_
  rintro e w3 ⟨rfl,L3⟩
  have L4:=join_below (below_of D2) L3
  have N5:=new_below w3 (.cells #[.int .i64 mR,.int .i64 mS] 42)
  have m5:=heap_new w3 (.cells #[.int .i64 mR,.int .i64 mS] 42)
  have L5:=join_below L4 N5
  go_wp2_with fail
  rw[HE9.out]
  refine(HK3.out _).mono ?_
  rintro e w6 ⟨rfl,D6⟩
  have m6:=kept (below_of (B:=(w3.alloc (.cells #[.int .i64 mR,.int .i64 mS] 42)).heap.size) D6) (lt_of m5) m5
  have L6:=join_below L5 (below_of D6)
  have R6:=R.on L6 hlt
  go_wp2_with fail
  refine(HUN.out _ R6).mono ?_
  rintro e w7 ⟨rfl,L7⟩
  have m7:=kept L7 (lt_of m6) m6
  have q0:w7.cell? ⟨w3.heap.size,0,none⟩=some (.int .i64 mR):=cell_at m7 0
  have q1:w7.cell? ⟨w3.heap.size,1,none⟩=some (.int .i64 mS):=cell_at m7 1
  have L8:=join_below L6 L7
  have N9:=new_below w7 (.cells (parts (n:Int) mR mS T5) 101)
  have m9:=heap_new w7 (.cells (parts (n:Int) mR mS T5) 101)
  have L9:=join_below L8 N9
  have l9:=lt_of m9
  go_wp2
  go_ret2
  refine⟨⟨some ⟨w7.heap.size,0,none⟩,3,3,w7.heap.size,by rw[HC.out];rfl,Or.inr ⟨HC.out,rfl,rfl,l9,?_⟩⟩,L9⟩
  rw[HFF.out.1,HFF.out.2.1,HFF.out.2.2.1,HFF.out.2.2.2]
  exact m9

set_option maxRecDepth 100000 in
set_option maxHeartbeats 4000000 in
theorem implUnframe_val (s:ByteArray) (w:World) (hm:s.size≤1048576) (R:Pk.Runs w):
 Calls Tryz.prog 13 #[.string s] w fun e w'=>e= .returned (u4 (fN s) (fR s) (fS s) (fP s) (fC s:Nat))∧Below w.heap.size w w':=by
 have HPV:Hid (∀(W:World) (r:Pk.Runs W),_):=fun W r=>parts_val s W hm r
 have N:=new_below w (.cells #[.int .i64 0,.int .i64 0] 42)
 have m0:=heap_new w (.cells #[.int .i64 0,.int .i64 0] 42)
 have hlt:=R.lt
 go_enter Tryz.func13,Tryz.ntmps13
 go_wp2_with fail
 refine(HPV.out _ (R.on N hlt)).mono ?_
 generalize w.alloc (.cells #[.int .i64 0,.int .i64 0] 42)=W at*
 rintro e w1 ⟨⟨a,m,cp,g,rfl,HP⟩,L1⟩
 have HJ:Hid (∀_:Unit,_):=fun _=>join_val (fN s) (fR s) (fS s) (fP s) m g cp a w1 (by rcases HP with⟨-,h1,h2,h3⟩|⟨-,h1,h2,h3,h4⟩;exact Or.inl ⟨h1,h2,h3⟩;exact Or.inr ⟨h1,h2,h3,h4⟩)
 go_wp2_with fail
 refine(HJ.out ()).mono ?_
 rintro e w2 ⟨⟨n',r',s',p',rfl,HF⟩,L2⟩
 have hE:n'=fN s∧r'=fR s∧s'=fS s∧p'=fP s:=by
  unfold Far at HF
  rcases HP with⟨h0,rfl,-⟩|⟨h0,rfl,-⟩
  ·obtain⟨i1,i2,i3,i4⟩:=f_no h0
   rcases HF with⟨-,h1,h2,h3,h4⟩|⟨h,-⟩|⟨h,-⟩|⟨h,-⟩
   ·exact⟨by rw[h1,i1],by rw[h2,i2],by rw[h3,i3],by rw[h4,i4]⟩
   all_goals omega
  ·rcases HF with⟨h,-⟩|⟨h,-⟩|⟨h,-⟩|⟨-,h1,h2,h3,h4⟩
   ·omega
   ·omega
   ·omega
   ·exact⟨h1,h2,h3,h4⟩
 obtain⟨rfl,rfl,rfl,rfl⟩:=hE
 have m1:=kept L1 (lt_of m0) m0
 have m2:=kept L2 (lt_of m1) m1
 have L3:=join_below N (join_below L1 L2)
 clear HP HF HJ HPV m1 m0 L1 L2
 have N3:=new_below w2 (.cells #[.int .i64 (fR s),.int .i64 (fS s)] 42)
 have x3:=heap_new w2 (.cells #[.int .i64 (fR s),.int .i64 (fS s)] 42)
 have m3:=kept N3 (lt_of m2) m2
 have L4:=join_below L3 N3
 have hne:w.heap.size≠w2.heap.size:=by have:=lt_of m2;omega
 go_wp2
 generalize w2.alloc (.cells #[.int .i64 (fR s),.int .i64 (fS s)] 42)=W3 at*
 have q0:W3.cell? ⟨w2.heap.size,0,none⟩=some (.int .i64 (fR s)):=cell_at x3 0
 have q1:W3.cell? ⟨w2.heap.size,1,none⟩=some (.int .i64 (fS s)):=cell_at x3 1
 have d0:W3.cell? ⟨w.heap.size,0,none⟩=some (.int .i64 0):=cell_at m3 0
 have d1:W3.cell? ⟨w.heap.size,1,none⟩=some (.int .i64 0):=cell_at m3 1
 have f0:=frozen_at m3 0
 have f1:=frozen_at m3 1
 have HS:Hid (_):=set_two _ w.heap.size _ _ (.int .i64 (fR s)) (.int .i64 (fS s)) _ m3
 have HL:Hid (Below w.heap.size w ((W3.setCell ⟨w.heap.size,0,none⟩ (.int .i64 (fR s))).setCell ⟨w.heap.size,1,none⟩ (.int .i64 (fS s)))):=(L4.setCell (p:=⟨w.heap.size,0,none⟩) (Nat.le_refl _) _).setCell (p:=⟨w.heap.size,1,none⟩) (Nat.le_refl _) _
 clear m3 x3 m2 L3 N3 L4 N
 go_region
 all_goals
  go_wp2
  have mE:=HS.out
  have HLD:=HL.out.drew
  generalize (W3.setCell ⟨w.heap.size,0,none⟩ (.int .i64 (fR s))).setCell ⟨w.heap.size,1,none⟩ (.int .i64 (fS s))=WE at*
  have k0:WE.drew.cell? ⟨w.heap.size,0,none⟩=some (.int .i64 (fR s)):=cell_at (w:=WE.drew) mE 0
  have k1:WE.drew.cell? ⟨w.heap.size,1,none⟩=some (.int .i64 (fS s)):=cell_at (w:=WE.drew) mE 1
  refine bodyPost_ret (v:=u4 (fN s) (fR s) (fS s) (fP s) (fC s:Nat)) (by simp[results,Tryz.results13,go_sem,k0,k1]) rfl ?_
  exact⟨rfl,HLD⟩

end Fr
end Go.Proofs.YtcjgkmhpeedhiaaGreatDoor

/- The contract of the model's Unframe. -/
namespace Go.Proofs.YtcjgkmhpeedhiaaGreatDoor
namespace Fr
open Go.ChangeShapes Go.WideShapes Go.ChangeAt Go.RowKit
open Pk (new_below join_below cell_at heap_new frozen_at lt_of kept heap_old)
open Math (unpC unpT)
open Num (rmR rmS)
set_option linter.unusedSimpArgs false
set_option linter.unusedVariables false

theorem hd_list:hd5.toList= [35,85,84,48,49]:=by kernel_rfl

theorem txt_ne {a b:ByteArray} (h:a≠b):(a.toList==b.toList)=false:=by
 rw[beq_eq_false_iff_ne,ByteArray.toList_eq,ByteArray.toList_eq]
 intro h2
 exact h (ByteArray.ext (Array.toList_inj.1 h2))

theorem hd_ne {t:ByteArray} (h:t≠hd5):(t.toList== [35,85,84,48,49])=false:=by
 rw[←hd_list]
 exact txt_ne h

theorem hd_eq:(hd5.toList== [35,85,84,48,49])=true:=by rw[hd_list];decide

set_option maxRecDepth 100000 in
set_option maxHeartbeats 4000000 in
theorem specUnframe_val (s:ByteArray) (w:World) (hm:s.size≤1048576):
 Calls Tryz.prog 32 #[.string s] w fun e w'=>e= .returned (u4 (fN s) (fR s) (fS s) (fP s) (fC s:Nat))∧Below w.heap.size w w':=by
 have N:=new_below w (.cells #[.int .i64 0,.int .i64 0] 42)
 have m0:=heap_new w (.cells #[.int .i64 0,.int .i64 0] 42)
 rcases f_cases s with⟨b1,hc⟩|⟨g1,b2,hc⟩|⟨g1,g2,b3,hc⟩|⟨g1,g2,g3,b4,hc⟩|⟨g1,g2,g3,g4,hc⟩
 ·obtain⟨i1,i2,i3,i4⟩:=f_no (s:=s) (by omega)
  rw[i1,i2,i3,i4,hc]
  by_cases h5:5≤s.size
  ·have h5I:¬(s.size:Int)<5:=by omega
   have h5J:(5:Int)≤(s.size:Int):=by omega
   have hne:s.extract 0 5≠hd5:=by
    rcases b1 with h|h
    ·exact absurd h5 h
    ·exact h
   have z:=hd_ne hne
   clear b1 hc i1 i2 i3 i4 hne
   go_enter Tryz.func32,Tryz.ntmps32
   go_wp2
   refine bodyPost_ret (v:=u4 0 0 0 ⟨#[]⟩ 1) (by simp[results,Tryz.results32,go_sem]) rfl ?_
   exact⟨rfl,N⟩
  ·have h5I:(s.size:Int)<5:=by omega
   clear b1 hc i1 i2 i3 i4
   go_enter Tryz.func32,Tryz.ntmps32
   go_wp2
   refine bodyPost_ret (v:=u4 0 0 0 ⟨#[]⟩ 1) (by simp[results,Tryz.results32,go_sem]) rfl ?_
   exact⟨rfl,N⟩
 all_goals
  have q1:5≤s.size∧s.extract 0 5=hd5:=by
   unfold Bad1 at g1
   by_cases h5:5≤s.size
   ·exact⟨h5,Classical.byContradiction fun h=>g1 (Or.inr h)⟩
   ·exact absurd (Or.inl h5) g1
  obtain⟨h5,he⟩:=q1
  have z:=hd_eq
  rw[←he]at z
  have h5I:¬(s.size:Int)<5:=by omega
  have h5J:(5:Int)≤(s.size:Int):=by omega
  have HD1:Hid (9≤s.size→∀W:World,_):=fun h W=>specDig_val (s.extract 5 9) W (by rw[ext_size s 5 9 h])
  clear g1 he
 ·obtain⟨i1,i2,i3,i4⟩:=f_no (s:=s) (by omega)
  rw[i1,i2,i3,i4,hc]
  clear hc i1 i2 i3 i4
  by_cases h17:s.size<17
  ·have h17I:(s.size:Int)<17:=by omega
   clear b2
   go_enter Tryz.func32,Tryz.ntmps32
   go_wp2
   refine bodyPost_ret (v:=u4 0 0 0 ⟨#[]⟩ 2) (by simp[results,Tryz.results32,go_sem]) rfl ?_
   exact⟨rfl,N⟩
  ·have h17I:¬(s.size:Int)<17:=by omega
   have h9J:(9:Int)≤(s.size:Int):=by omega
   have hd:=digI_none (b2.resolve_left h17)
   rw[hd]at HD1
   have HD2:Hid (∀W:World,_):=fun W=>HD1.out (by omega) W
   clear b2 hd HD1
   go_enter Tryz.func32,Tryz.ntmps32
   go_wp2_with fail
   refine(HD2.out _).mono ?_
   rintro e w1 ⟨rfl,rfl⟩
   go_wp2
   refine bodyPost_ret (v:=u4 0 0 0 ⟨#[]⟩ 2) (by simp[results,Tryz.results32,go_sem]) rfl ?_
   exact⟨rfl,N⟩
 all_goals
  have q2:17≤s.size∧∃n,dg (s.extract 5 9) 4=some n:=by
   unfold Bad2 at g2
   exact⟨by omega,Option.ne_none_iff_exists'.1 fun h=>g2 (Or.inr h)⟩
  obtain⟨h17,n,hn⟩:=q2
  have hd:=digI_some hn
  have HDI:Hid (digI (s.extract 5 9)=n):=hd
  rw[hd]at HD1
  have HD2:Hid (∀W:World,_):=fun W=>HD1.out (by omega) W
  have h17I:¬(s.size:Int)<17:=by omega
  have h9J:(9:Int)≤(s.size:Int):=by omega
  have hn0:¬((n:Int)<0):=by omega
  have HD3:Hid (21≤s.size→∀W:World,_):=fun h W=>specDig_val (s.extract 17 21) W (by rw[ext_size s 17 21 h])
  clear g2 hd HD1 hn
 ·obtain⟨i1,i2,i3,i4⟩:=f_no (s:=s) (by omega)
  rw[i1,i2,i3,i4,hc]
  clear hc i1 i2 i3 i4
  by_cases h21:s.size<21
  ·have h21I:(s.size:Int)<21:=by omega
   clear b3 HD3
   go_enter Tryz.func32,Tryz.ntmps32
   go_wp2_with fail
   refine(HD2.out _).mono ?_
   rintro e w1 ⟨rfl,rfl⟩
   go_wp2
   refine bodyPost_ret (v:=u4 0 0 0 ⟨#[]⟩ 3) (by simp[results,Tryz.results32,go_sem]) rfl ?_
   exact⟨rfl,N⟩
  ·have h21I:¬(s.size:Int)<21:=by omega
   have h21J:(21:Int)≤(s.size:Int):=by omega
   have hne:digI (s.extract 17 21)≠(s.size:Int)-21:=by
    intro h
    rcases b3 with h2|h2
    ·exact h21 h2
    ·cases e:dg (s.extract 17 21) 4 with
     |none=>rw[digI_none e]at h;omega
     |some k=>
      rw[digI_some e]at h
      apply h2
      rw[e]
      congr 1
      omega
   have HD4:Hid (∀W:World,_):=fun W=>HD3.out (by omega) W
   generalize digI (s.extract 17 21)=D at*
   have hne2:(D !=(s.size:Int)-21)=true:=by simp[hne]
   have hne3:(D !=(s.size:Int)-5-16)=true:=by simp;omega
   have hne4:¬(D=(s.size:Int)-5-16):=by omega
   clear b3 HD3
   go_enter Tryz.func32,Tryz.ntmps32
   go_wp2_with fail
   refine(HD2.out _).mono ?_
   rintro e w1 ⟨rfl,rfl⟩
   go_wp2_with fail
   refine(HD4.out _).mono ?_
   rintro e w1 ⟨rfl,rfl⟩
   go_wp2
   refine bodyPost_ret (v:=u4 0 0 0 ⟨#[]⟩ 3) (by simp[results,Tryz.results32,go_sem]) rfl ?_
   exact⟨rfl,N⟩
 all_goals
  have q3:21≤s.size∧dg (s.extract 17 21) 4=some (s.size-21):=by
   unfold Bad3 at g3
   exact⟨by omega,Classical.byContradiction fun h=>g3 (Or.inr h)⟩
  obtain⟨h21,hk⟩:=q3
  have h21I:¬(s.size:Int)<21:=by omega
  have h21J:(21:Int)≤(s.size:Int):=by omega
  have hd3:=digI_some hk
  have HD4:Hid (∀W:World,_):=fun W=>HD3.out (by omega) W
  rw[hd3]at HD4
  have hq3:(((s.size-21:Nat):Int) !=(s.size:Int)-5-16)=false:=by simp;omega
  have hq4:((s.size-21:Nat):Int)=(s.size:Int)-5-16:=by omega
  have HUN:Hid (∀W:World,_):=fun W=>Pk.specUnpack_val (s.extract 21 s.size) W (by rw[ext_size s 21 s.size (Nat.le_refl _)];unfold maxLen;omega)
  have h17J:(17:Int)≤(s.size:Int):=by omega
  clear g3 hk hd3 HD3
 ·obtain⟨i1,i2,i3,i4⟩:=f_no (s:=s) (by omega)
  rw[i1,i2,i3,i4,hc]
  have b4':unpC (s.extract 21 s.size)≠0:=b4
  generalize unpT (s.extract 21 s.size)=T5 at*
  generalize unpC (s.extract 21 s.size)=C5 at*
  have d10:((C5:Int) !=0)=true:=by simp;exact b4'
  have d10b:¬((C5:Int)=0):=by omega
  clear hc i1 i2 i3 i4 b4 b4'
  go_enter Tryz.func32,Tryz.ntmps32
  go_wp2_with fail
  refine(HD2.out _).mono ?_
  rintro e w1 ⟨rfl,rfl⟩
  go_wp2_with fail
  refine(HD4.out _).mono ?_
  rintro e w1 ⟨rfl,rfl⟩
  go_wp2_with fail
  refine(HUN.out _).mono ?_
  rintro e w2 ⟨rfl,L2⟩
  have m2:=kept L2 (lt_of m0) m0
  have L3:=join_below N L2
  have d0:=cell_at m2 0
  have d1:=cell_at m2 1
  have f0:=frozen_at m2 0
  have f1:=frozen_at m2 1
  simp at d0 d1
  have HS:Hid (_):=set_two _ w.heap.size _ _ (.int .i64 0) (.int .i64 0) _ m2
  have HL:Hid (Below w.heap.size w ((w2.setCell ⟨w.heap.size,0,none⟩ (.int .i64 0)).setCell ⟨w.heap.size,1,none⟩ (.int .i64 0))):=(L3.setCell (p:=⟨w.heap.size,0,none⟩) (Nat.le_refl _) _).setCell (p:=⟨w.heap.size,1,none⟩) (Nat.le_refl _) _
  clear m2 m0 N L2 L3
  go_wp2
  have mE:=HS.out
  have HLD:=HL.out
  generalize (w2.setCell ⟨w.heap.size,0,none⟩ (.int .i64 0)).setCell ⟨w.heap.size,1,none⟩ (.int .i64 0)=WE at*
  have k0:WE.cell? ⟨w.heap.size,0,none⟩=some (.int .i64 0):=cell_at mE 0
  have k1:WE.cell? ⟨w.heap.size,1,none⟩=some (.int .i64 0):=cell_at mE 1
  refine bodyPost_ret (v:=u4 0 0 0 ⟨#[]⟩ 4) (by simp[results,Tryz.results32,go_sem,k0,k1]) rfl ?_
  exact⟨rfl,HLD⟩
 ·obtain⟨i1,i2,i3,i4⟩:=f_yes hc
  rw[HDI.out]at i1
  rw[i1,i2,i3,i4,hc]
  have g4':unpC (s.extract 21 s.size)=0:=Classical.byContradiction fun h=>g4 h
  rw[g4']at HUN
  have HMK:Hid (∀W:World,_):=fun W=>Num.specReadMark_val (s.extract 9 17) W (by rw[ext_size s 9 17 h17];unfold maxLen;omega)
  generalize unpT (s.extract 21 s.size)=T5 at*
  generalize rmR (s.extract 9 17)=mR at*
  generalize rmS (s.extract 9 17)=mS at*
  generalize decide ((s.extract 9 17).size=8)=mB at*
  clear hc i1 i2 i3 i4 g4 g4' HDI
  go_enter Tryz.func32,Tryz.ntmps32
  go_wp2_with fail
  refine(HD2.out _).mono ?_
  rintro e w1 ⟨rfl,rfl⟩
  go_wp2_with fail
  refine(HD4.out _).mono ?_
  rintro e w1 ⟨rfl,rfl⟩
  go_wp2_with fail
  refine(HUN.out _).mono ?_
  rintro e w2 ⟨rfl,L2⟩
  have m2:=kept L2 (lt_of m0) m0
  have L3:=join_below N L2
  go_wp2_with fail
  refine(HMK.out _).mono ?_
  rintro e w3 ⟨rfl,L4⟩
  have m3:=kept L4 (lt_of m2) m2
  have L5:=join_below L3 L4
  have N5:=new_below w3 (.cells #[.int .i64 mR,.int .i64 mS] 42)
  have x5:=heap_new w3 (.cells #[.int .i64 mR,.int .i64 mS] 42)
  have m5:=kept N5 (lt_of m3) m3
  have L6:=join_below L5 N5
  have hne:w.heap.size≠w3.heap.size:=by have:=lt_of m3;omega
  clear m2 m0 N L2 L3 L4 L5 N5 m3 HUN HMK HD4
  go_wp2
  generalize w3.alloc (.cells #[.int .i64 mR,.int .i64 mS] 42)=W3 at*
  have q0:W3.cell? ⟨w3.heap.size,0,none⟩=some (.int .i64 mR):=cell_at x5 0
  have q1:W3.cell? ⟨w3.heap.size,1,none⟩=some (.int .i64 mS):=cell_at x5 1
  have d0:W3.cell? ⟨w.heap.size,0,none⟩=some (.int .i64 0):=cell_at m5 0
  have d1:W3.cell? ⟨w.heap.size,1,none⟩=some (.int .i64 0):=cell_at m5 1
  have f0:=frozen_at m5 0
  have f1:=frozen_at m5 1
  have HS:Hid (_):=set_two _ w.heap.size _ _ (.int .i64 mR) (.int .i64 mS) _ m5
  have HL:Hid (Below w.heap.size w ((W3.setCell ⟨w.heap.size,0,none⟩ (.int .i64 mR)).setCell ⟨w.heap.size,1,none⟩ (.int .i64 mS))):=(L6.setCell (p:=⟨w.heap.size,0,none⟩) (Nat.le_refl _) _).setCell (p:=⟨w.heap.size,1,none⟩) (Nat.le_refl _) _
  clear m5 x5 L6
  have hsl:∀W,(Instr.slice 9 (.string s) (some (.int .i64 5)) (some (.int .i64 9)) none).run Tryz.prog W= .ok (.string (s.extract 5 9)) W:=fun W=>by
   simp[go_sem,Tryz.underlying9,h9J]
   try omega
  have s0:((W3.setCell ⟨w.heap.size,0,none⟩ (.int .i64 mR)).setCell ⟨w.heap.size,1,none⟩ (.int .i64 mS)).drew.cell? ⟨w3.heap.size,0,none⟩=some (.int .i64 mR):=by
   show((W3.setCell ⟨w.heap.size,0,none⟩ (.int .i64 mR)).setCell ⟨w.heap.size,1,none⟩ (.int .i64 mS)).cell? ⟨w3.heap.size,0,none⟩=_
   rw[World.cell?_of_block (Below.heap_setCell _ _ _ _ (fun h=>hne h.symm)),World.cell?_of_block (Below.heap_setCell _ _ _ _ (fun h=>hne h.symm))]
   exact q0
  have s1:((W3.setCell ⟨w.heap.size,0,none⟩ (.int .i64 mR)).setCell ⟨w.heap.size,1,none⟩ (.int .i64 mS)).drew.cell? ⟨w3.heap.size,1,none⟩=some (.int .i64 mS):=by
   show((W3.setCell ⟨w.heap.size,0,none⟩ (.int .i64 mR)).setCell ⟨w.heap.size,1,none⟩ (.int .i64 mS)).cell? ⟨w3.heap.size,1,none⟩=_
   rw[World.cell?_of_block (Below.heap_setCell _ _ _ _ (fun h=>hne h.symm)),World.cell?_of_block (Below.heap_setCell _ _ _ _ (fun h=>hne h.symm))]
   exact q1
  refine wp_region_held_drew (S:=(fun w'=>w'.cell? ⟨w3.heap.size,0,none⟩=some (.int .i64 mR)∧w'.cell? ⟨w3.heap.size,1,none⟩=some (.int .i64 mS))) (by kernel_rfl) ?_ (fun hHeld=> ?_)
  ·exact⟨q0,q1⟩
  refine wpAnyH_take (i:=0) (v:= .string s) rfl (by kernel_rfl) (by kernel_rfl) (by kernel_rfl) (fun _ _ _ h=>h) (Or.inl ⟨by kernel_rfl,fun w hSw=>by first|(go_simp;done)|(dsimp only at hSw;obtain⟨hS0,hS1⟩:=hSw;go_simp;done)|rfl⟩) (by assumption) ?_
  simp only[Act.put,List.getElem_toArray,List.getElem_cons_succ,List.getElem_cons_zero,List.setIfInBounds_toArray,List.set_cons_succ,List.set_cons_zero]
  refine wpAnyH_take (i:=1) (v:= .int .i64 5) rfl (by kernel_rfl) (by kernel_rfl) (by kernel_rfl) (fun _ _ _ h=>h) (Or.inl ⟨by kernel_rfl,fun w hSw=>by first|(go_simp;done)|(dsimp only at hSw;obtain⟨hS0,hS1⟩:=hSw;go_simp;done)|rfl⟩) (by assumption) ?_
  simp only[Act.put,List.getElem_toArray,List.getElem_cons_succ,List.getElem_cons_zero,List.setIfInBounds_toArray,List.set_cons_succ,List.set_cons_zero]
  refine wpAnyH_take (i:=2) (v:= .int .i64 5) rfl (by kernel_rfl) (by kernel_rfl) (by kernel_rfl) (fun _ _ _ h=>h) (Or.inl ⟨by kernel_rfl,fun w hSw=>by first|(go_simp;done)|(dsimp only at hSw;obtain⟨hS0,hS1⟩:=hSw;go_simp;done)|rfl⟩) (by assumption) ?_
  simp only[Act.put,List.getElem_toArray,List.getElem_cons_succ,List.getElem_cons_zero,List.setIfInBounds_toArray,List.set_cons_succ,List.set_cons_zero]
  refine wpAnyH_take (i:=3) (v:= .int .i64 9) rfl (by kernel_rfl) (by kernel_rfl) (by kernel_rfl) (fun _ _ _ h=>h) (Or.inl ⟨by kernel_rfl,fun w hSw=>by first|(go_simp;done)|(dsimp only at hSw;obtain⟨hS0,hS1⟩:=hSw;go_simp;done)|rfl⟩) (by assumption) ?_
  simp only[Act.put,List.getElem_toArray,List.getElem_cons_succ,List.getElem_cons_zero,List.setIfInBounds_toArray,List.set_cons_succ,List.set_cons_zero]
  refine wpAnyH_take (i:=4) (v:= .string (s.extract 5 9)) rfl (by kernel_rfl) (by kernel_rfl) (by kernel_rfl) (fun _ _ _ h=>h) (Or.inl ⟨by kernel_rfl,fun w hSw=>by first|(go_simp;done)|(dsimp only at hSw;obtain⟨hS0,hS1⟩:=hSw;go_simp;done)|rfl⟩) (by assumption) ?_
  simp only[Act.put,List.getElem_toArray,List.getElem_cons_succ,List.getElem_cons_zero,List.setIfInBounds_toArray,List.set_cons_succ,List.set_cons_zero]
  refine wpAnyH_take (i:=6) (v:= .agg #[.int .i64 mR,.int .i64 mS]) rfl (by kernel_rfl) (by kernel_rfl) (by kernel_rfl) (fun _ _ _ h=>h) (Or.inl ⟨by kernel_rfl,fun w hSw=>by first|(go_simp;done)|(dsimp only at hSw;obtain⟨hS0,hS1⟩:=hSw;go_simp;done)|rfl⟩) (by assumption) ?_
  simp only[Act.put,List.getElem_toArray,List.getElem_cons_succ,List.getElem_cons_zero,List.setIfInBounds_toArray,List.set_cons_succ,List.set_cons_zero]
  refine wpAnyH_take (i:=7) (v:= .string T5) rfl (by kernel_rfl) (by kernel_rfl) (by kernel_rfl) (fun _ _ _ h=>h) (Or.inl ⟨by kernel_rfl,fun w hSw=>by first|(go_simp;done)|(dsimp only at hSw;obtain⟨hS0,hS1⟩:=hSw;go_simp;done)|rfl⟩) (by assumption) ?_
  simp only[Act.put,List.getElem_toArray,List.getElem_cons_succ,List.getElem_cons_zero,List.setIfInBounds_toArray,List.set_cons_succ,List.set_cons_zero]
  refine wpAnyH_ready (rs:= [5]) (by kernel_rfl) (by simp) ?_
  refine AllReadyH.cons rfl (fun K hK=> ?_) AllReadyH.nil
  go_simp
  go_wp2_with (go_at_call 71;(with_reducible refine(HD2.out _).mono ?_);rintro e wq ⟨rfl,hwq⟩;have hwqq:=hwq.symm;subst hwqq;clear hwq)
  refine hK.out _ _ ?_ (fun hHeld2=> ?_)
  ·(first|(with_reducible exact⟨q0,q1⟩)|(with_reducible exact⟨s0,s1⟩)|exact⟨q0,q1⟩|exact⟨s0,s1⟩)
  clear hK K hHeld
  have hHeld:=hHeld2
  clear hHeld2
  refine wpAnyH_ready (rs:= [8]) (by kernel_rfl) (by simp) ?_
  refine AllReadyH.cons rfl (fun K hK=> ?_) AllReadyH.nil
  go_simp
  refine hK.out _ _ ?_ (fun hHeld2=> ?_)
  ·(first|(with_reducible exact⟨q0,q1⟩)|(with_reducible exact⟨s0,s1⟩)|exact⟨q0,q1⟩|exact⟨s0,s1⟩)
  clear hK K hHeld
  have hHeld:=hHeld2
  clear hHeld2
  refine wpAnyH_ready (rs:= [9]) (by kernel_rfl) (by simp) ?_
  refine AllReadyH.cons rfl (fun K hK=> ?_) AllReadyH.nil
  go_simp
  refine hK.out _ _ ?_ (fun hHeld2=> ?_)
  ·(first|(with_reducible exact⟨q0,q1⟩)|(with_reducible exact⟨s0,s1⟩)|exact⟨q0,q1⟩|exact⟨s0,s1⟩)
  clear hK K hHeld
  have hHeld:=hHeld2
  clear hHeld2
  refine wpAnyH_ready (rs:= [10]) (by kernel_rfl) (by simp) ?_
  refine AllReadyH.cons rfl (fun K hK=> ?_) AllReadyH.nil
  go_simp
  refine hK.out _ _ ?_ (fun hHeld2=> ?_)
  ·(first|(with_reducible exact⟨q0,q1⟩)|(with_reducible exact⟨s0,s1⟩)|exact⟨q0,q1⟩|exact⟨s0,s1⟩)
  clear hK K hHeld
  have hHeld:=hHeld2
  clear hHeld2
  refine wpAnyH_ready (rs:= [11]) (by kernel_rfl) (by simp) ?_
  refine AllReadyH.cons rfl (fun K hK=> ?_) AllReadyH.nil
  go_simp
  refine hK.out _ _ ?_ (fun hHeld2=> ?_)
  ·(first|(with_reducible exact⟨q0,q1⟩)|(with_reducible exact⟨s0,s1⟩)|exact⟨q0,q1⟩|exact⟨s0,s1⟩)
  clear hK K hHeld
  have hHeld:=hHeld2
  clear hHeld2
  refine wpAnyH_done (by kernel_rfl) ?_ _
  go_wp2
  have mE:=HS.out
  have HLD:=HL.out.drew
  generalize (W3.setCell ⟨w.heap.size,0,none⟩ (.int .i64 mR)).setCell ⟨w.heap.size,1,none⟩ (.int .i64 mS)=WE at*
  have k0:WE.drew.cell? ⟨w.heap.size,0,none⟩=some (.int .i64 mR):=cell_at (w:=WE.drew) mE 0
  have k1:WE.drew.cell? ⟨w.heap.size,1,none⟩=some (.int .i64 mS):=cell_at (w:=WE.drew) mE 1
  refine bodyPost_ret (v:=u4 (n:Int) mR mS T5 0) (by simp[results,Tryz.results32,go_sem,k0,k1]) rfl ?_
  exact⟨rfl,HLD⟩

end Fr
end Go.Proofs.YtcjgkmhpeedhiaaGreatDoor

/- Contracts of Read, of the program and of its model. -/
namespace Go.Proofs.YtcjgkmhpeedhiaaGreatDoor
namespace Re
open Go.ChangeShapes Go.WideShapes Go.ChangeAt Go.RowKit
open Pk (own_at own_ge own_below own_form new_below join_below heap_new lt_of kept cell_at heap_old frozen_at Room)
open Tk (Lg Hd Legs tkV tkB)
open Gt (GetEnd GetIs ML lcells)
open Fr (fN fR fS fP fC)
open Num (verV pv mv)
set_option linter.unusedSimpArgs false
set_option linter.unusedVariables false

abbrev put7 (w:World) (P:Nat) (v0 v1 v2 v3 v4 v5 v6:Value):World:=((((((w.setCell ⟨P,0,none⟩ v0).setCell ⟨P,1,none⟩ v1).setCell ⟨P,2,none⟩ v2).setCell ⟨P,3,none⟩ v3).setCell ⟨P,4,none⟩ v4).setCell ⟨P,5,none⟩ v5).setCell ⟨P,6,none⟩ v6

theorem put7_heap {w:World} {P:Nat} {a0 a1 a2 a3 a4 a5 a6:Value} {t:TypeId} (h:w.heap[P]? =some (.cells #[a0,a1,a2,a3,a4,a5,a6] t (0,0))) (v0 v1 v2 v3 v4 v5 v6:Value):(put7 w P v0 v1 v2 v3 v4 v5 v6).heap[P]? =some (.cells #[v0,v1,v2,v3,v4,v5,v6] t (0,0)):=by
 unfold put7 World.setCell
 simp[Array.getElem?_modify,h]

theorem put7_other {w:World} {P k:Nat} (hk:k≠P) (v0 v1 v2 v3 v4 v5 v6:Value):(put7 w P v0 v1 v2 v3 v4 v5 v6).heap[k]? =w.heap[k]? :=by
 unfold put7
 rw[Below.heap_setCell _ _ _ _ hk,Below.heap_setCell _ _ _ _ hk,Below.heap_setCell _ _ _ _ hk,Below.heap_setCell _ _ _ _ hk,Below.heap_setCell _ _ _ _ hk,Below.heap_setCell _ _ _ _ hk,Below.heap_setCell _ _ _ _ hk]

theorem put7_below {B P:Nat} {a w:World} (h:Below B a w) (hP:B≤P) (v0 v1 v2 v3 v4 v5 v6:Value):Below B a (put7 w P v0 v1 v2 v3 v4 v5 v6):=
 ((((((h.setCell (p:=⟨P,0,none⟩) hP _).setCell (p:=⟨P,1,none⟩) hP _).setCell (p:=⟨P,2,none⟩) hP _).setCell (p:=⟨P,3,none⟩) hP _).setCell (p:=⟨P,4,none⟩) hP _).setCell (p:=⟨P,5,none⟩) hP _).setCell (p:=⟨P,6,none⟩) hP _

theorem own_move {w w1:World} {base base' e size:Nat} {v:Value} {n:Nat} {xs:List Value} (h:w.ownsRow base e size v n xs) (hb:base'≤base) (hk:∀k,base≤k→w1.heap[k]? =w.heap[k]?):w1.ownsRow base' e size v n xs:=by
 obtain⟨h1,h2⟩:=h
 refine⟨h1,?_⟩
 rcases h2 with h2|⟨g,cap,cur,hv,hg,hh,hr⟩
 ·exact Or.inl h2
 ·refine Or.inr ⟨g,cap,cur,hv,Nat.le_trans hb hg,?_,hr⟩
  rw[hk g hg]
  exact hh

set_option maxRecDepth 100000 in
set_option maxHeartbeats 4000000 in
theorem specRead_val (p q g o i:Int) (s:ByteArray) {t:Hd} {nm:ByteArray} {ls:List Lg} {ok:Bool} (w:World) (hs:s.size≤1048576) (H:∀base e w,GetEnd (fP s) base e w→GetIs t nm ls ok base e w):
 Calls Tryz.prog 12 #[pv p q g,.int .i64 o,.int .i64 i,.string s] w fun e w'=>ReadIs (rT (rC p q g o i s ok) t) (rN (rC p q g o i s ok) nm) (rL (rC p q g o i s ok) ls) (rC p q g o i s ok) w.heap.size e w'∧Below w.heap.size w w':=by
 have hfp:=Fr.fP_bound s
 have hfm:(fP s).size≤maxLen:=by unfold maxLen;omega
 have N0:=join_below (new_below w (.cells #[.int .i64 p,.int .i64 q,.int .i64 g] 25)) (new_below (w.alloc (.cells #[.int .i64 p,.int .i64 q,.int .i64 g] 25)) (tkB ⟨0,0,0,0,0⟩ ⟨#[]⟩ none 0 0 28))
 have e1:(w.alloc (.cells #[.int .i64 p,.int .i64 q,.int .i64 g] 25)).heap.size=w.heap.size+1:=Array.size_push ..
 have x0:=heap_old (heap_new w (.cells #[.int .i64 p,.int .i64 q,.int .i64 g] 25)) (tkB ⟨0,0,0,0,0⟩ ⟨#[]⟩ none 0 0 28)
 have x1:=heap_new (w.alloc (.cells #[.int .i64 p,.int .i64 q,.int .i64 g] 25)) (tkB ⟨0,0,0,0,0⟩ ⟨#[]⟩ none 0 0 28)
 rw[e1]at x1
 have HU:Hid (∀W:World,_):=fun W=>Fr.specUnframe_val s W hs
 have HV:Hid (∀W:World,_):=fun W=>Num.specVerify_val p q g o (fR s) (fS s) (fP s) W hfm
 have HG:Hid (∀W:World,_):=fun W=>Gt.specGet_is (by omega) H W
 have hcs:=r_cases p q g o i s ok
 generalize hrc:rC p q g o i s ok=C at*
 have HCC:Hid (rC p q g o i s ok=C):=hrc
 clear hrc H
 generalize hr:fR s=r at*
 generalize hsg:fS s=sg at*
 generalize hfn:fN s=n at*
 generalize hfc:fC s=c at*
 generalize hfpp:fP s=tx at*
 generalize verV p q g o r sg tx=B at*
 clear hr hsg hfn hfc hfpp
 rcases hcs with⟨h1,hC⟩|⟨h1,h2,hC⟩|⟨h1,h2,h3,hC⟩|⟨h1,h2,h3,h4,hC⟩|⟨h1,h2,h3,h4,hC⟩
 all_goals
  subst hC
  go_enter Tryz.func12,Tryz.ntmps12
  go_wp2_with fail
  refine(HU.out _).mono ?_
  rintro e w1 ⟨rfl,L1⟩
  have m0:=kept L1 (lt_of x0) x0
  have m1:=kept L1 (lt_of x1) x1
  have K1:=join_below N0 L1
  have N2:=new_below w1 (.cells #[.int .i64 r,.int .i64 sg] 42)
  have y2:=heap_new w1 (.cells #[.int .i64 r,.int .i64 sg] 42)
  have n0:=kept N2 (lt_of m0) m0
  have n1:=kept N2 (lt_of m1) m1
  have K2:=join_below K1 N2
  have hw1:w.heap.size+1<w1.heap.size:=lt_of m1
  clear x0 x1 N0 L1 m0 m1 N2 K1 e1 hfp hfm y2
  have hPw:w.heap.size≤w.heap.size+1:=by omega
  generalize w.heap.size+1=P1 at*
 ·have d9:((c:Int) !=0)=true:=by simp;exact h1
  have d9b:¬((c:Int)=0):=by omega
  obtain⟨W2,hW2⟩:∃W,w1.alloc (.cells #[.int .i64 r,.int .i64 sg] 42)=W:=⟨_,rfl⟩
  rw[hW2]at n1 K2
  have f0:=frozen_at n1 0
  have f1:=frozen_at n1 1
  have f2:=frozen_at n1 2
  have f3:=frozen_at n1 3
  have f4:=frozen_at n1 4
  have f5:=frozen_at n1 5
  have f6:=frozen_at n1 6
  have d0:W2.cell? ⟨P1,0,none⟩=some (.int .i64 0):=cell_at n1 0
  have d1:W2.cell? ⟨P1,1,none⟩=some (.string ⟨#[]⟩):=cell_at n1 1
  have d2:W2.cell? ⟨P1,2,none⟩=some (.int .i64 0):=cell_at n1 2
  have d3:W2.cell? ⟨P1,3,none⟩=some (.int .i64 0):=cell_at n1 3
  have d4:W2.cell? ⟨P1,4,none⟩=some (.int .i64 0):=cell_at n1 4
  have d5:W2.cell? ⟨P1,5,none⟩=some (.int .i64 0):=cell_at n1 5
  have d6:W2.cell? ⟨P1,6,none⟩=some (.slice none 0 0):=cell_at n1 6
  have HPT:Hid (_):=put7_heap n1 (.int .i64 0) (.string ⟨#[]⟩) (.int .i64 0) (.int .i64 0) (.int .i64 0) (.int .i64 0) (.slice none 0 0)
  have HPL:Hid (Below w.heap.size w (put7 W2 P1 (.int .i64 0) (.string ⟨#[]⟩) (.int .i64 0) (.int .i64 0) (.int .i64 0) (.int .i64 0) (.slice none 0 0))):=put7_below K2 hPw _ _ _ _ _ _ _
  clear n1 K2 n0 HU HV HG HCC hw1
  go_wp2
  have mE:=HPT.out
  have LE:=HPL.out
  change bodyPost _ _ _ _ _ (put7 W2 P1 (.int .i64 0) (.string ⟨#[]⟩) (.int .i64 0) (.int .i64 0) (.int .i64 0) (.int .i64 0) (.slice none 0 0))
  generalize put7 W2 P1 (.int .i64 0) (.string ⟨#[]⟩) (.int .i64 0) (.int .i64 0) (.int .i64 0) (.int .i64 0) (.slice none 0 0)=WE at*
  have k0:WE.cell? ⟨P1,0,none⟩=some (.int .i64 0):=cell_at mE 0
  have k1:WE.cell? ⟨P1,1,none⟩=some (.string ⟨#[]⟩):=cell_at mE 1
  have k2:WE.cell? ⟨P1,2,none⟩=some (.int .i64 0):=cell_at mE 2
  have k3:WE.cell? ⟨P1,3,none⟩=some (.int .i64 0):=cell_at mE 3
  have k4:WE.cell? ⟨P1,4,none⟩=some (.int .i64 0):=cell_at mE 4
  have k5:WE.cell? ⟨P1,5,none⟩=some (.int .i64 0):=cell_at mE 5
  have k6:WE.cell? ⟨P1,6,none⟩=some (.slice none 0 0):=cell_at mE 6
  refine bodyPost_ret (v:= .tuple #[tkV ⟨0,0,0,0,0⟩ ⟨#[]⟩ none 0 0,.int .i64 1]) (by simp[results,Tryz.results12,go_sem,k0,k1,k2,k3,k4,k5,k6]) rfl ?_
  exact⟨read_no (by omega) rfl,LE⟩
 ·subst h1
  have d9:(n !=i)=true:=by simp;exact h2
  obtain⟨W2,hW2⟩:∃W,w1.alloc (.cells #[.int .i64 r,.int .i64 sg] 42)=W:=⟨_,rfl⟩
  rw[hW2]at n1 K2
  have f0:=frozen_at n1 0
  have f1:=frozen_at n1 1
  have f2:=frozen_at n1 2
  have f3:=frozen_at n1 3
  have f4:=frozen_at n1 4
  have f5:=frozen_at n1 5
  have f6:=frozen_at n1 6
  have d0:W2.cell? ⟨P1,0,none⟩=some (.int .i64 0):=cell_at n1 0
  have d1:W2.cell? ⟨P1,1,none⟩=some (.string ⟨#[]⟩):=cell_at n1 1
  have d2:W2.cell? ⟨P1,2,none⟩=some (.int .i64 0):=cell_at n1 2
  have d3:W2.cell? ⟨P1,3,none⟩=some (.int .i64 0):=cell_at n1 3
  have d4:W2.cell? ⟨P1,4,none⟩=some (.int .i64 0):=cell_at n1 4
  have d5:W2.cell? ⟨P1,5,none⟩=some (.int .i64 0):=cell_at n1 5
  have d6:W2.cell? ⟨P1,6,none⟩=some (.slice none 0 0):=cell_at n1 6
  have HPT:Hid (_):=put7_heap n1 (.int .i64 0) (.string ⟨#[]⟩) (.int .i64 0) (.int .i64 0) (.int .i64 0) (.int .i64 0) (.slice none 0 0)
  have HPL:Hid (Below w.heap.size w (put7 W2 P1 (.int .i64 0) (.string ⟨#[]⟩) (.int .i64 0) (.int .i64 0) (.int .i64 0) (.int .i64 0) (.slice none 0 0))):=put7_below K2 hPw _ _ _ _ _ _ _
  clear n1 K2 n0 HU HV HG HCC hw1
  go_wp2
  have mE:=HPT.out
  have LE:=HPL.out
  change bodyPost _ _ _ _ _ (put7 W2 P1 (.int .i64 0) (.string ⟨#[]⟩) (.int .i64 0) (.int .i64 0) (.int .i64 0) (.int .i64 0) (.slice none 0 0))
  generalize put7 W2 P1 (.int .i64 0) (.string ⟨#[]⟩) (.int .i64 0) (.int .i64 0) (.int .i64 0) (.int .i64 0) (.slice none 0 0)=WE at*
  have k0:WE.cell? ⟨P1,0,none⟩=some (.int .i64 0):=cell_at mE 0
  have k1:WE.cell? ⟨P1,1,none⟩=some (.string ⟨#[]⟩):=cell_at mE 1
  have k2:WE.cell? ⟨P1,2,none⟩=some (.int .i64 0):=cell_at mE 2
  have k3:WE.cell? ⟨P1,3,none⟩=some (.int .i64 0):=cell_at mE 3
  have k4:WE.cell? ⟨P1,4,none⟩=some (.int .i64 0):=cell_at mE 4
  have k5:WE.cell? ⟨P1,5,none⟩=some (.int .i64 0):=cell_at mE 5
  have k6:WE.cell? ⟨P1,6,none⟩=some (.slice none 0 0):=cell_at mE 6
  refine bodyPost_ret (v:= .tuple #[tkV ⟨0,0,0,0,0⟩ ⟨#[]⟩ none 0 0,.int .i64 1]) (by simp[results,Tryz.results12,go_sem,k0,k1,k2,k3,k4,k5,k6]) rfl ?_
  exact⟨read_no (by omega) rfl,LE⟩
 ·subst h1
  subst h2
  subst h3
  have c0:(w1.alloc (.cells #[.int .i64 r,.int .i64 sg] 42)).cell? ⟨w.heap.size,0,none⟩=some (.int .i64 p):=cell_at n0 0
  have c1:(w1.alloc (.cells #[.int .i64 r,.int .i64 sg] 42)).cell? ⟨w.heap.size,1,none⟩=some (.int .i64 q):=cell_at n0 1
  have c2:(w1.alloc (.cells #[.int .i64 r,.int .i64 sg] 42)).cell? ⟨w.heap.size,2,none⟩=some (.int .i64 g):=cell_at n0 2
  go_wp2_with fail
  refine(HV.out _).mono ?_
  rintro e w3 ⟨rfl,L3⟩
  have n3:=kept L3 (lt_of n1) n1
  have K3:=join_below K2 L3
  clear c0 c1 c2 n0 n1 K2 L3
  have f0:=frozen_at n3 0
  have f1:=frozen_at n3 1
  have f2:=frozen_at n3 2
  have f3:=frozen_at n3 3
  have f4:=frozen_at n3 4
  have f5:=frozen_at n3 5
  have f6:=frozen_at n3 6
  have d0:w3.cell? ⟨P1,0,none⟩=some (.int .i64 0):=cell_at n3 0
  have d1:w3.cell? ⟨P1,1,none⟩=some (.string ⟨#[]⟩):=cell_at n3 1
  have d2:w3.cell? ⟨P1,2,none⟩=some (.int .i64 0):=cell_at n3 2
  have d3:w3.cell? ⟨P1,3,none⟩=some (.int .i64 0):=cell_at n3 3
  have d4:w3.cell? ⟨P1,4,none⟩=some (.int .i64 0):=cell_at n3 4
  have d5:w3.cell? ⟨P1,5,none⟩=some (.int .i64 0):=cell_at n3 5
  have d6:w3.cell? ⟨P1,6,none⟩=some (.slice none 0 0):=cell_at n3 6
  have HPT:Hid (_):=put7_heap n3 (.int .i64 0) (.string ⟨#[]⟩) (.int .i64 0) (.int .i64 0) (.int .i64 0) (.int .i64 0) (.slice none 0 0)
  have HPL:Hid (Below w.heap.size w (put7 w3 P1 (.int .i64 0) (.string ⟨#[]⟩) (.int .i64 0) (.int .i64 0) (.int .i64 0) (.int .i64 0) (.slice none 0 0))):=put7_below K3 hPw _ _ _ _ _ _ _
  clear n3 K3 HU HV HG HCC hw1
  go_wp2
  have mE:=HPT.out
  have LE:=HPL.out
  change bodyPost _ _ _ _ _ (put7 w3 P1 (.int .i64 0) (.string ⟨#[]⟩) (.int .i64 0) (.int .i64 0) (.int .i64 0) (.int .i64 0) (.slice none 0 0))
  generalize put7 w3 P1 (.int .i64 0) (.string ⟨#[]⟩) (.int .i64 0) (.int .i64 0) (.int .i64 0) (.int .i64 0) (.slice none 0 0)=WE at*
  have k0:WE.cell? ⟨P1,0,none⟩=some (.int .i64 0):=cell_at mE 0
  have k1:WE.cell? ⟨P1,1,none⟩=some (.string ⟨#[]⟩):=cell_at mE 1
  have k2:WE.cell? ⟨P1,2,none⟩=some (.int .i64 0):=cell_at mE 2
  have k3:WE.cell? ⟨P1,3,none⟩=some (.int .i64 0):=cell_at mE 3
  have k4:WE.cell? ⟨P1,4,none⟩=some (.int .i64 0):=cell_at mE 4
  have k5:WE.cell? ⟨P1,5,none⟩=some (.int .i64 0):=cell_at mE 5
  have k6:WE.cell? ⟨P1,6,none⟩=some (.slice none 0 0):=cell_at mE 6
  refine bodyPost_ret (v:= .tuple #[tkV ⟨0,0,0,0,0⟩ ⟨#[]⟩ none 0 0,.int .i64 2]) (by simp[results,Tryz.results12,go_sem,k0,k1,k2,k3,k4,k5,k6]) rfl ?_
  exact⟨read_no (by omega) rfl,LE⟩
 ·subst h1
  subst h2
  subst h3
  have c0:(w1.alloc (.cells #[.int .i64 r,.int .i64 sg] 42)).cell? ⟨w.heap.size,0,none⟩=some (.int .i64 p):=cell_at n0 0
  have c1:(w1.alloc (.cells #[.int .i64 r,.int .i64 sg] 42)).cell? ⟨w.heap.size,1,none⟩=some (.int .i64 q):=cell_at n0 1
  have c2:(w1.alloc (.cells #[.int .i64 r,.int .i64 sg] 42)).cell? ⟨w.heap.size,2,none⟩=some (.int .i64 g):=cell_at n0 2
  go_wp2_with fail
  refine(HV.out _).mono ?_
  rintro e w3 ⟨rfl,L3⟩
  have n3:=kept L3 (lt_of n1) n1
  have K3:=join_below K2 L3
  clear c0 c1 c2 n0 n1 K2 L3
  go_wp2_with fail
  refine(HG.out _).mono ?_
  rintro e w4 ⟨⟨a4,c4,rfl,O4⟩,L4⟩
  have n4:=kept L4 (lt_of n3) n3
  have K4:=join_below K3 L4
  have N5:=new_below w4 (tkB t nm a4 ls.length c4 28)
  have y5:=heap_new w4 (tkB t nm a4 ls.length c4 28)
  have n5:=kept N5 (lt_of n4) n4
  have K5:=join_below K4 N5
  have hw3:P1<w3.heap.size:=lt_of n3
  subst h4
  clear n3 K3 L4 K4 N5 n4 y5 O4
  obtain⟨W5,hW5⟩:∃W,w4.alloc (tkB t nm a4 ls.length c4 28)=W:=⟨_,rfl⟩
  rw[hW5]at n5 K5
  have f0:=frozen_at n5 0
  have f1:=frozen_at n5 1
  have f2:=frozen_at n5 2
  have f3:=frozen_at n5 3
  have f4:=frozen_at n5 4
  have f5:=frozen_at n5 5
  have f6:=frozen_at n5 6
  have d0:W5.cell? ⟨P1,0,none⟩=some (.int .i64 0):=cell_at n5 0
  have d1:W5.cell? ⟨P1,1,none⟩=some (.string ⟨#[]⟩):=cell_at n5 1
  have d2:W5.cell? ⟨P1,2,none⟩=some (.int .i64 0):=cell_at n5 2
  have d3:W5.cell? ⟨P1,3,none⟩=some (.int .i64 0):=cell_at n5 3
  have d4:W5.cell? ⟨P1,4,none⟩=some (.int .i64 0):=cell_at n5 4
  have d5:W5.cell? ⟨P1,5,none⟩=some (.int .i64 0):=cell_at n5 5
  have d6:W5.cell? ⟨P1,6,none⟩=some (.slice none 0 0):=cell_at n5 6
  have HPT:Hid (_):=put7_heap n5 (.int .i64 0) (.string ⟨#[]⟩) (.int .i64 0) (.int .i64 0) (.int .i64 0) (.int .i64 0) (.slice none 0 0)
  have HPL:Hid (Below w.heap.size w (put7 W5 P1 (.int .i64 0) (.string ⟨#[]⟩) (.int .i64 0) (.int .i64 0) (.int .i64 0) (.int .i64 0) (.slice none 0 0))):=put7_below K5 hPw _ _ _ _ _ _ _
  clear n5 K5 HU HV HG HCC hw1
  go_wp2
  have mE:=HPT.out
  have LE:=HPL.out
  change bodyPost _ _ _ _ _ (put7 W5 P1 (.int .i64 0) (.string ⟨#[]⟩) (.int .i64 0) (.int .i64 0) (.int .i64 0) (.int .i64 0) (.slice none 0 0))
  generalize put7 W5 P1 (.int .i64 0) (.string ⟨#[]⟩) (.int .i64 0) (.int .i64 0) (.int .i64 0) (.int .i64 0) (.slice none 0 0)=WE at*
  have k0:WE.cell? ⟨P1,0,none⟩=some (.int .i64 0):=cell_at mE 0
  have k1:WE.cell? ⟨P1,1,none⟩=some (.string ⟨#[]⟩):=cell_at mE 1
  have k2:WE.cell? ⟨P1,2,none⟩=some (.int .i64 0):=cell_at mE 2
  have k3:WE.cell? ⟨P1,3,none⟩=some (.int .i64 0):=cell_at mE 3
  have k4:WE.cell? ⟨P1,4,none⟩=some (.int .i64 0):=cell_at mE 4
  have k5:WE.cell? ⟨P1,5,none⟩=some (.int .i64 0):=cell_at mE 5
  have k6:WE.cell? ⟨P1,6,none⟩=some (.slice none 0 0):=cell_at mE 6
  refine bodyPost_ret (v:= .tuple #[tkV ⟨0,0,0,0,0⟩ ⟨#[]⟩ none 0 0,.int .i64 3]) (by simp[results,Tryz.results12,go_sem,k0,k1,k2,k3,k4,k5,k6]) rfl ?_
  exact⟨read_no (by omega) rfl,LE⟩
 ·subst h1
  subst h2
  subst h3
  have c0:(w1.alloc (.cells #[.int .i64 r,.int .i64 sg] 42)).cell? ⟨w.heap.size,0,none⟩=some (.int .i64 p):=cell_at n0 0
  have c1:(w1.alloc (.cells #[.int .i64 r,.int .i64 sg] 42)).cell? ⟨w.heap.size,1,none⟩=some (.int .i64 q):=cell_at n0 1
  have c2:(w1.alloc (.cells #[.int .i64 r,.int .i64 sg] 42)).cell? ⟨w.heap.size,2,none⟩=some (.int .i64 g):=cell_at n0 2
  go_wp2_with fail
  refine(HV.out _).mono ?_
  rintro e w3 ⟨rfl,L3⟩
  have n3:=kept L3 (lt_of n1) n1
  have K3:=join_below K2 L3
  clear c0 c1 c2 n0 n1 K2 L3
  go_wp2_with fail
  refine(HG.out _).mono ?_
  rintro e w4 ⟨⟨a4,c4,rfl,O4⟩,L4⟩
  have n4:=kept L4 (lt_of n3) n3
  have K4:=join_below K3 L4
  have N5:=new_below w4 (tkB t nm a4 ls.length c4 28)
  have y5:=heap_new w4 (tkB t nm a4 ls.length c4 28)
  have n5:=kept N5 (lt_of n4) n4
  have K5:=join_below K4 N5
  have hw3:P1<w3.heap.size:=lt_of n3
  subst h4
  have O5:=own_below O4 N5 (Nat.le_refl _)
  have hne:P1≠w4.heap.size:=by have:=lt_of n4;omega
  clear n3 K3 L4 K4 N5 n4 O4
  obtain⟨W5,hW5⟩:∃W,w4.alloc (tkB t nm a4 ls.length c4 28)=W:=⟨_,rfl⟩
  rw[hW5]at n5 K5 y5 O5
  have q0:W5.cell? ⟨w4.heap.size,0,none⟩=some (.int .i64 t.id):=cell_at y5 0
  have q1:W5.cell? ⟨w4.heap.size,1,none⟩=some (.string nm):=cell_at y5 1
  have q2:W5.cell? ⟨w4.heap.size,2,none⟩=some (.int .i64 t.cl):=cell_at y5 2
  have q3:W5.cell? ⟨w4.heap.size,3,none⟩=some (.int .i64 t.pr):=cell_at y5 3
  have q4:W5.cell? ⟨w4.heap.size,4,none⟩=some (.int .i64 t.fi):=cell_at y5 4
  have q5:W5.cell? ⟨w4.heap.size,5,none⟩=some (.int .i64 t.la):=cell_at y5 5
  have q6:W5.cell? ⟨w4.heap.size,6,none⟩=some (.slice a4 ls.length c4):=cell_at y5 6
  have f0:=frozen_at n5 0
  have f1:=frozen_at n5 1
  have f2:=frozen_at n5 2
  have f3:=frozen_at n5 3
  have f4:=frozen_at n5 4
  have f5:=frozen_at n5 5
  have f6:=frozen_at n5 6
  have d0:W5.cell? ⟨P1,0,none⟩=some (.int .i64 0):=cell_at n5 0
  have d1:W5.cell? ⟨P1,1,none⟩=some (.string ⟨#[]⟩):=cell_at n5 1
  have d2:W5.cell? ⟨P1,2,none⟩=some (.int .i64 0):=cell_at n5 2
  have d3:W5.cell? ⟨P1,3,none⟩=some (.int .i64 0):=cell_at n5 3
  have d4:W5.cell? ⟨P1,4,none⟩=some (.int .i64 0):=cell_at n5 4
  have d5:W5.cell? ⟨P1,5,none⟩=some (.int .i64 0):=cell_at n5 5
  have d6:W5.cell? ⟨P1,6,none⟩=some (.slice none 0 0):=cell_at n5 6
  have HPT:Hid (_):=put7_heap n5 (.int .i64 t.id) (.string nm) (.int .i64 t.cl) (.int .i64 t.pr) (.int .i64 t.fi) (.int .i64 t.la) (.slice a4 ls.length c4)
  have HPL:Hid (Below w.heap.size w (put7 W5 P1 (.int .i64 t.id) (.string nm) (.int .i64 t.cl) (.int .i64 t.pr) (.int .i64 t.fi) (.int .i64 t.la) (.slice a4 ls.length c4))):=put7_below K5 hPw _ _ _ _ _ _ _
  have HPO:Hid ((put7 W5 P1 (.int .i64 t.id) (.string nm) (.int .i64 t.cl) (.int .i64 t.pr) (.int .i64 t.fi) (.int .i64 t.la) (.slice a4 ls.length c4)).ownsRow w.heap.size 64 6 (.slice a4 ls.length c4) ls.length (lcells ls)):=own_move O5 (by omega) fun k hk=>put7_other (by omega) _ _ _ _ _ _ _
  clear n5 y5 K5 O5
  go_wp2
  have mE:=HPT.out
  have LE:=HPL.out
  have OE:=HPO.out
  change bodyPost _ _ _ _ _ (put7 W5 P1 (.int .i64 t.id) (.string nm) (.int .i64 t.cl) (.int .i64 t.pr) (.int .i64 t.fi) (.int .i64 t.la) (.slice a4 ls.length c4))
  generalize put7 W5 P1 (.int .i64 t.id) (.string nm) (.int .i64 t.cl) (.int .i64 t.pr) (.int .i64 t.fi) (.int .i64 t.la) (.slice a4 ls.length c4)=WE at*
  have k0:WE.cell? ⟨P1,0,none⟩=some (.int .i64 t.id):=cell_at mE 0
  have k1:WE.cell? ⟨P1,1,none⟩=some (.string nm):=cell_at mE 1
  have k2:WE.cell? ⟨P1,2,none⟩=some (.int .i64 t.cl):=cell_at mE 2
  have k3:WE.cell? ⟨P1,3,none⟩=some (.int .i64 t.pr):=cell_at mE 3
  have k4:WE.cell? ⟨P1,4,none⟩=some (.int .i64 t.fi):=cell_at mE 4
  have k5:WE.cell? ⟨P1,5,none⟩=some (.int .i64 t.la):=cell_at mE 5
  have k6:WE.cell? ⟨P1,6,none⟩=some (.slice a4 ls.length c4):=cell_at mE 6
  refine bodyPost_ret (v:= .tuple #[tkV t nm a4 ls.length c4,.int .i64 0]) (by simp[results,Tryz.results12,go_sem,k0,k1,k2,k3,k4,k5,k6]) rfl ?_
  exact⟨read_yes rfl OE,LE⟩

set_option maxRecDepth 100000 in
set_option maxHeartbeats 4000000 in
theorem implRead_val (p q g o i:Int) (s:ByteArray) {t:Hd} {nm:ByteArray} {ls:List Lg} {ok:Bool} (w:World) (hs:s.size≤1048576) (H:∀base e w,GetEnd (fP s) base e w→GetIs t nm ls ok base e w) (R:Pk.Runs w) (E1:Errs.ErrAt 1 w) (E2:Errs.ErrAt 3 w) (E3:Errs.ErrAt 4 w) (E4:Errs.ErrAt 5 w) (M:ML w) (Tn:Num.Tens w):
 Calls Tryz.prog 9 #[pv p q g,.int .i64 o,.int .i64 i,.string s] w fun e w'=>ReadIs (rT (rC p q g o i s ok) t) (rN (rC p q g o i s ok) nm) (rL (rC p q g o i s ok) ls) (rC p q g o i s ok) w.heap.size e w'∧Below w.heap.size w w':=by
 have hfp:=Fr.fP_bound s
 have hfm:(fP s).size≤maxLen:=by unfold maxLen;omega
 have N0:=join_below (new_below w (.cells #[.int .i64 p,.int .i64 q,.int .i64 g] 25)) (new_below (w.alloc (.cells #[.int .i64 p,.int .i64 q,.int .i64 g] 25)) (tkB ⟨0,0,0,0,0⟩ ⟨#[]⟩ none 0 0 28))
 have e1:(w.alloc (.cells #[.int .i64 p,.int .i64 q,.int .i64 g] 25)).heap.size=w.heap.size+1:=Array.size_push ..
 have x0:=heap_old (heap_new w (.cells #[.int .i64 p,.int .i64 q,.int .i64 g] 25)) (tkB ⟨0,0,0,0,0⟩ ⟨#[]⟩ none 0 0 28)
 have x1:=heap_new (w.alloc (.cells #[.int .i64 p,.int .i64 q,.int .i64 g] 25)) (tkB ⟨0,0,0,0,0⟩ ⟨#[]⟩ none 0 0 28)
 rw[e1]at x1
 have hlt:=R.lt
 have HU:Hid (∀W:World,Pk.Runs W→_):=fun W r=>Fr.implUnframe_val s W hs r
 have HV:Hid (∀W:World,Errs.ErrAt 1 W→Errs.ErrAt 3 W→Errs.ErrAt 4 W→Errs.ErrAt 5 W→_):=fun W h1 h2 h3 h4=>Num.implVerify_val p q g o (fR s) (fS s) (fP s) W hfm h1 h2 h3 h4
 have HG:Hid (∀W:World,ML W→Num.Tens W→_):=fun W h1 h2=>Gt.implGet_is (by omega) H W h1 h2
 have hcs:=r_cases p q g o i s ok
 generalize hrc:rC p q g o i s ok=C at*
 have HCC:Hid (rC p q g o i s ok=C):=hrc
 clear hrc H
 generalize hr:fR s=r at*
 generalize hsg:fS s=sg at*
 generalize hfn:fN s=n at*
 generalize hfc:fC s=c at*
 generalize hfpp:fP s=tx at*
 generalize verV p q g o r sg tx=B at*
 clear hr hsg hfn hfc hfpp
 rcases hcs with⟨h1,hC⟩|⟨h1,h2,hC⟩|⟨h1,h2,h3,hC⟩|⟨h1,h2,h3,h4,hC⟩|⟨h1,h2,h3,h4,hC⟩
 all_goals
  subst hC
  go_enter Tryz.func9,Tryz.ntmps9
  go_wp2_with fail
  refine(HU.out _ (R.on N0 hlt)).mono ?_
  rintro e w1 ⟨rfl,L1⟩
  have m0:=kept L1 (lt_of x0) x0
  have m1:=kept L1 (lt_of x1) x1
  have K1:=join_below N0 L1
  have N2:=new_below w1 (.cells #[.int .i64 r,.int .i64 sg] 42)
  have y2:=heap_new w1 (.cells #[.int .i64 r,.int .i64 sg] 42)
  have n0:=kept N2 (lt_of m0) m0
  have n1:=kept N2 (lt_of m1) m1
  have K2:=join_below K1 N2
  have hw1:w.heap.size+1<w1.heap.size:=lt_of m1
  clear x0 x1 N0 L1 m0 m1 N2 K1 e1 hfp hfm y2
  have hPw:w.heap.size≤w.heap.size+1:=by omega
  generalize w.heap.size+1=P1 at*
 ·have d9:((c:Int) !=0)=true:=by simp;exact h1
  have d9b:¬((c:Int)=0):=by omega
  obtain⟨W2,hW2⟩:∃W,w1.alloc (.cells #[.int .i64 r,.int .i64 sg] 42)=W:=⟨_,rfl⟩
  rw[hW2]at n1 K2
  have f0:=frozen_at n1 0
  have f1:=frozen_at n1 1
  have f2:=frozen_at n1 2
  have f3:=frozen_at n1 3
  have f4:=frozen_at n1 4
  have f5:=frozen_at n1 5
  have f6:=frozen_at n1 6
  have d0:W2.cell? ⟨P1,0,none⟩=some (.int .i64 0):=cell_at n1 0
  have d1:W2.cell? ⟨P1,1,none⟩=some (.string ⟨#[]⟩):=cell_at n1 1
  have d2:W2.cell? ⟨P1,2,none⟩=some (.int .i64 0):=cell_at n1 2
  have d3:W2.cell? ⟨P1,3,none⟩=some (.int .i64 0):=cell_at n1 3
  have d4:W2.cell? ⟨P1,4,none⟩=some (.int .i64 0):=cell_at n1 4
  have d5:W2.cell? ⟨P1,5,none⟩=some (.int .i64 0):=cell_at n1 5
  have d6:W2.cell? ⟨P1,6,none⟩=some (.slice none 0 0):=cell_at n1 6
  have HPT:Hid (_):=put7_heap n1 (.int .i64 0) (.string ⟨#[]⟩) (.int .i64 0) (.int .i64 0) (.int .i64 0) (.int .i64 0) (.slice none 0 0)
  have HPL:Hid (Below w.heap.size w (put7 W2 P1 (.int .i64 0) (.string ⟨#[]⟩) (.int .i64 0) (.int .i64 0) (.int .i64 0) (.int .i64 0) (.slice none 0 0))):=put7_below K2 hPw _ _ _ _ _ _ _
  clear n1 K2 n0 HU HV HG HCC hw1
  go_wp2
  have mE:=HPT.out
  have LE:=HPL.out
  change bodyPost _ _ _ _ _ (put7 W2 P1 (.int .i64 0) (.string ⟨#[]⟩) (.int .i64 0) (.int .i64 0) (.int .i64 0) (.int .i64 0) (.slice none 0 0))
  generalize put7 W2 P1 (.int .i64 0) (.string ⟨#[]⟩) (.int .i64 0) (.int .i64 0) (.int .i64 0) (.int .i64 0) (.slice none 0 0)=WE at*
  have k0:WE.cell? ⟨P1,0,none⟩=some (.int .i64 0):=cell_at mE 0
  have k1:WE.cell? ⟨P1,1,none⟩=some (.string ⟨#[]⟩):=cell_at mE 1
  have k2:WE.cell? ⟨P1,2,none⟩=some (.int .i64 0):=cell_at mE 2
  have k3:WE.cell? ⟨P1,3,none⟩=some (.int .i64 0):=cell_at mE 3
  have k4:WE.cell? ⟨P1,4,none⟩=some (.int .i64 0):=cell_at mE 4
  have k5:WE.cell? ⟨P1,5,none⟩=some (.int .i64 0):=cell_at mE 5
  have k6:WE.cell? ⟨P1,6,none⟩=some (.slice none 0 0):=cell_at mE 6
  refine bodyPost_ret (v:= .tuple #[tkV ⟨0,0,0,0,0⟩ ⟨#[]⟩ none 0 0,.int .i64 1]) (by simp[results,Tryz.results9,go_sem,k0,k1,k2,k3,k4,k5,k6]) rfl ?_
  exact⟨read_no (by omega) rfl,LE⟩
 ·subst h1
  have d9:(n !=i)=true:=by simp;exact h2
  obtain⟨W2,hW2⟩:∃W,w1.alloc (.cells #[.int .i64 r,.int .i64 sg] 42)=W:=⟨_,rfl⟩
  rw[hW2]at n1 K2
  have f0:=frozen_at n1 0
  have f1:=frozen_at n1 1
  have f2:=frozen_at n1 2
  have f3:=frozen_at n1 3
  have f4:=frozen_at n1 4
  have f5:=frozen_at n1 5
  have f6:=frozen_at n1 6
  have d0:W2.cell? ⟨P1,0,none⟩=some (.int .i64 0):=cell_at n1 0
  have d1:W2.cell? ⟨P1,1,none⟩=some (.string ⟨#[]⟩):=cell_at n1 1
  have d2:W2.cell? ⟨P1,2,none⟩=some (.int .i64 0):=cell_at n1 2
  have d3:W2.cell? ⟨P1,3,none⟩=some (.int .i64 0):=cell_at n1 3
  have d4:W2.cell? ⟨P1,4,none⟩=some (.int .i64 0):=cell_at n1 4
  have d5:W2.cell? ⟨P1,5,none⟩=some (.int .i64 0):=cell_at n1 5
  have d6:W2.cell? ⟨P1,6,none⟩=some (.slice none 0 0):=cell_at n1 6
  have HPT:Hid (_):=put7_heap n1 (.int .i64 0) (.string ⟨#[]⟩) (.int .i64 0) (.int .i64 0) (.int .i64 0) (.int .i64 0) (.slice none 0 0)
  have HPL:Hid (Below w.heap.size w (put7 W2 P1 (.int .i64 0) (.string ⟨#[]⟩) (.int .i64 0) (.int .i64 0) (.int .i64 0) (.int .i64 0) (.slice none 0 0))):=put7_below K2 hPw _ _ _ _ _ _ _
  clear n1 K2 n0 HU HV HG HCC hw1
  go_wp2
  have mE:=HPT.out
  have LE:=HPL.out
  change bodyPost _ _ _ _ _ (put7 W2 P1 (.int .i64 0) (.string ⟨#[]⟩) (.int .i64 0) (.int .i64 0) (.int .i64 0) (.int .i64 0) (.slice none 0 0))
  generalize put7 W2 P1 (.int .i64 0) (.string ⟨#[]⟩) (.int .i64 0) (.int .i64 0) (.int .i64 0) (.int .i64 0) (.slice none 0 0)=WE at*
  have k0:WE.cell? ⟨P1,0,none⟩=some (.int .i64 0):=cell_at mE 0
  have k1:WE.cell? ⟨P1,1,none⟩=some (.string ⟨#[]⟩):=cell_at mE 1
  have k2:WE.cell? ⟨P1,2,none⟩=some (.int .i64 0):=cell_at mE 2
  have k3:WE.cell? ⟨P1,3,none⟩=some (.int .i64 0):=cell_at mE 3
  have k4:WE.cell? ⟨P1,4,none⟩=some (.int .i64 0):=cell_at mE 4
  have k5:WE.cell? ⟨P1,5,none⟩=some (.int .i64 0):=cell_at mE 5
  have k6:WE.cell? ⟨P1,6,none⟩=some (.slice none 0 0):=cell_at mE 6
  refine bodyPost_ret (v:= .tuple #[tkV ⟨0,0,0,0,0⟩ ⟨#[]⟩ none 0 0,.int .i64 1]) (by simp[results,Tryz.results9,go_sem,k0,k1,k2,k3,k4,k5,k6]) rfl ?_
  exact⟨read_no (by omega) rfl,LE⟩
 ·subst h1
  subst h2
  subst h3
  have c0:(w1.alloc (.cells #[.int .i64 r,.int .i64 sg] 42)).cell? ⟨w.heap.size,0,none⟩=some (.int .i64 p):=cell_at n0 0
  have c1:(w1.alloc (.cells #[.int .i64 r,.int .i64 sg] 42)).cell? ⟨w.heap.size,1,none⟩=some (.int .i64 q):=cell_at n0 1
  have c2:(w1.alloc (.cells #[.int .i64 r,.int .i64 sg] 42)).cell? ⟨w.heap.size,2,none⟩=some (.int .i64 g):=cell_at n0 2
  go_wp2_with fail
  refine(HV.out _ (E1.on K2) (E2.on K2) (E3.on K2) (E4.on K2)).mono ?_
  rintro e w3 ⟨rfl,L3⟩
  have n3:=kept L3 (lt_of n1) n1
  have K3:=join_below K2 L3
  clear c0 c1 c2 n0 n1 K2 L3
  have f0:=frozen_at n3 0
  have f1:=frozen_at n3 1
  have f2:=frozen_at n3 2
  have f3:=frozen_at n3 3
  have f4:=frozen_at n3 4
  have f5:=frozen_at n3 5
  have f6:=frozen_at n3 6
  have d0:w3.cell? ⟨P1,0,none⟩=some (.int .i64 0):=cell_at n3 0
  have d1:w3.cell? ⟨P1,1,none⟩=some (.string ⟨#[]⟩):=cell_at n3 1
  have d2:w3.cell? ⟨P1,2,none⟩=some (.int .i64 0):=cell_at n3 2
  have d3:w3.cell? ⟨P1,3,none⟩=some (.int .i64 0):=cell_at n3 3
  have d4:w3.cell? ⟨P1,4,none⟩=some (.int .i64 0):=cell_at n3 4
  have d5:w3.cell? ⟨P1,5,none⟩=some (.int .i64 0):=cell_at n3 5
  have d6:w3.cell? ⟨P1,6,none⟩=some (.slice none 0 0):=cell_at n3 6
  have HPT:Hid (_):=put7_heap n3 (.int .i64 0) (.string ⟨#[]⟩) (.int .i64 0) (.int .i64 0) (.int .i64 0) (.int .i64 0) (.slice none 0 0)
  have HPL:Hid (Below w.heap.size w (put7 w3 P1 (.int .i64 0) (.string ⟨#[]⟩) (.int .i64 0) (.int .i64 0) (.int .i64 0) (.int .i64 0) (.slice none 0 0))):=put7_below K3 hPw _ _ _ _ _ _ _
  clear n3 K3 HU HV HG HCC hw1
  go_wp2
  have mE:=HPT.out
  have LE:=HPL.out
  change bodyPost _ _ _ _ _ (put7 w3 P1 (.int .i64 0) (.string ⟨#[]⟩) (.int .i64 0) (.int .i64 0) (.int .i64 0) (.int .i64 0) (.slice none 0 0))
  generalize put7 w3 P1 (.int .i64 0) (.string ⟨#[]⟩) (.int .i64 0) (.int .i64 0) (.int .i64 0) (.int .i64 0) (.slice none 0 0)=WE at*
  have k0:WE.cell? ⟨P1,0,none⟩=some (.int .i64 0):=cell_at mE 0
  have k1:WE.cell? ⟨P1,1,none⟩=some (.string ⟨#[]⟩):=cell_at mE 1
  have k2:WE.cell? ⟨P1,2,none⟩=some (.int .i64 0):=cell_at mE 2
  have k3:WE.cell? ⟨P1,3,none⟩=some (.int .i64 0):=cell_at mE 3
  have k4:WE.cell? ⟨P1,4,none⟩=some (.int .i64 0):=cell_at mE 4
  have k5:WE.cell? ⟨P1,5,none⟩=some (.int .i64 0):=cell_at mE 5
  have k6:WE.cell? ⟨P1,6,none⟩=some (.slice none 0 0):=cell_at mE 6
  refine bodyPost_ret (v:= .tuple #[tkV ⟨0,0,0,0,0⟩ ⟨#[]⟩ none 0 0,.int .i64 2]) (by simp[results,Tryz.results9,go_sem,k0,k1,k2,k3,k4,k5,k6]) rfl ?_
  exact⟨read_no (by omega) rfl,LE⟩
 ·subst h1
  subst h2
  subst h3
  have c0:(w1.alloc (.cells #[.int .i64 r,.int .i64 sg] 42)).cell? ⟨w.heap.size,0,none⟩=some (.int .i64 p):=cell_at n0 0
  have c1:(w1.alloc (.cells #[.int .i64 r,.int .i64 sg] 42)).cell? ⟨w.heap.size,1,none⟩=some (.int .i64 q):=cell_at n0 1
  have c2:(w1.alloc (.cells #[.int .i64 r,.int .i64 sg] 42)).cell? ⟨w.heap.size,2,none⟩=some (.int .i64 g):=cell_at n0 2
  go_wp2_with fail
  refine(HV.out _ (E1.on K2) (E2.on K2) (E3.on K2) (E4.on K2)).mono ?_
  rintro e w3 ⟨rfl,L3⟩
  have n3:=kept L3 (lt_of n1) n1
  have K3:=join_below K2 L3
  clear c0 c1 c2 n0 n1 K2 L3
  go_wp2_with fail
  refine(HG.out _ (M.on K3) (Tn.on K3)).mono ?_
  rintro e w4 ⟨⟨a4,c4,rfl,O4⟩,L4⟩
  have n4:=kept L4 (lt_of n3) n3
  have K4:=join_below K3 L4
  have N5:=new_below w4 (tkB t nm a4 ls.length c4 28)
  have y5:=heap_new w4 (tkB t nm a4 ls.length c4 28)
  have n5:=kept N5 (lt_of n4) n4
  have K5:=join_below K4 N5
  have hw3:P1<w3.heap.size:=lt_of n3
  subst h4
  clear n3 K3 L4 K4 N5 n4 y5 O4
  obtain⟨W5,hW5⟩:∃W,w4.alloc (tkB t nm a4 ls.length c4 28)=W:=⟨_,rfl⟩
  rw[hW5]at n5 K5
  have f0:=frozen_at n5 0
  have f1:=frozen_at n5 1
  have f2:=frozen_at n5 2
  have f3:=frozen_at n5 3
  have f4:=frozen_at n5 4
  have f5:=frozen_at n5 5
  have f6:=frozen_at n5 6
  have d0:W5.cell? ⟨P1,0,none⟩=some (.int .i64 0):=cell_at n5 0
  have d1:W5.cell? ⟨P1,1,none⟩=some (.string ⟨#[]⟩):=cell_at n5 1
  have d2:W5.cell? ⟨P1,2,none⟩=some (.int .i64 0):=cell_at n5 2
  have d3:W5.cell? ⟨P1,3,none⟩=some (.int .i64 0):=cell_at n5 3
  have d4:W5.cell? ⟨P1,4,none⟩=some (.int .i64 0):=cell_at n5 4
  have d5:W5.cell? ⟨P1,5,none⟩=some (.int .i64 0):=cell_at n5 5
  have d6:W5.cell? ⟨P1,6,none⟩=some (.slice none 0 0):=cell_at n5 6
  have HPT:Hid (_):=put7_heap n5 (.int .i64 0) (.string ⟨#[]⟩) (.int .i64 0) (.int .i64 0) (.int .i64 0) (.int .i64 0) (.slice none 0 0)
  have HPL:Hid (Below w.heap.size w (put7 W5 P1 (.int .i64 0) (.string ⟨#[]⟩) (.int .i64 0) (.int .i64 0) (.int .i64 0) (.int .i64 0) (.slice none 0 0))):=put7_below K5 hPw _ _ _ _ _ _ _
  clear n5 K5 HU HV HG HCC hw1
  go_wp2
  have mE:=HPT.out
  have LE:=HPL.out
  change bodyPost _ _ _ _ _ (put7 W5 P1 (.int .i64 0) (.string ⟨#[]⟩) (.int .i64 0) (.int .i64 0) (.int .i64 0) (.int .i64 0) (.slice none 0 0))
  generalize put7 W5 P1 (.int .i64 0) (.string ⟨#[]⟩) (.int .i64 0) (.int .i64 0) (.int .i64 0) (.int .i64 0) (.slice none 0 0)=WE at*
  have k0:WE.cell? ⟨P1,0,none⟩=some (.int .i64 0):=cell_at mE 0
  have k1:WE.cell? ⟨P1,1,none⟩=some (.string ⟨#[]⟩):=cell_at mE 1
  have k2:WE.cell? ⟨P1,2,none⟩=some (.int .i64 0):=cell_at mE 2
  have k3:WE.cell? ⟨P1,3,none⟩=some (.int .i64 0):=cell_at mE 3
  have k4:WE.cell? ⟨P1,4,none⟩=some (.int .i64 0):=cell_at mE 4
  have k5:WE.cell? ⟨P1,5,none⟩=some (.int .i64 0):=cell_at mE 5
  have k6:WE.cell? ⟨P1,6,none⟩=some (.slice none 0 0):=cell_at mE 6
  refine bodyPost_ret (v:= .tuple #[tkV ⟨0,0,0,0,0⟩ ⟨#[]⟩ none 0 0,.int .i64 3]) (by simp[results,Tryz.results9,go_sem,k0,k1,k2,k3,k4,k5,k6]) rfl ?_
  exact⟨read_no (by omega) rfl,LE⟩
 ·subst h1
  subst h2
  subst h3
  have c0:(w1.alloc (.cells #[.int .i64 r,.int .i64 sg] 42)).cell? ⟨w.heap.size,0,none⟩=some (.int .i64 p):=cell_at n0 0
  have c1:(w1.alloc (.cells #[.int .i64 r,.int .i64 sg] 42)).cell? ⟨w.heap.size,1,none⟩=some (.int .i64 q):=cell_at n0 1
  have c2:(w1.alloc (.cells #[.int .i64 r,.int .i64 sg] 42)).cell? ⟨w.heap.size,2,none⟩=some (.int .i64 g):=cell_at n0 2
  go_wp2_with fail
  refine(HV.out _ (E1.on K2) (E2.on K2) (E3.on K2) (E4.on K2)).mono ?_
  rintro e w3 ⟨rfl,L3⟩
  have n3:=kept L3 (lt_of n1) n1
  have K3:=join_below K2 L3
  clear c0 c1 c2 n0 n1 K2 L3
  go_wp2_with fail
  refine(HG.out _ (M.on K3) (Tn.on K3)).mono ?_
  rintro e w4 ⟨⟨a4,c4,rfl,O4⟩,L4⟩
  have n4:=kept L4 (lt_of n3) n3
  have K4:=join_below K3 L4
  have N5:=new_below w4 (tkB t nm a4 ls.length c4 28)
  have y5:=heap_new w4 (tkB t nm a4 ls.length c4 28)
  have n5:=kept N5 (lt_of n4) n4
  have K5:=join_below K4 N5
  have hw3:P1<w3.heap.size:=lt_of n3
  subst h4
  have O5:=own_below O4 N5 (Nat.le_refl _)
  have hne:P1≠w4.heap.size:=by have:=lt_of n4;omega
  clear n3 K3 L4 K4 N5 n4 O4
  obtain⟨W5,hW5⟩:∃W,w4.alloc (tkB t nm a4 ls.length c4 28)=W:=⟨_,rfl⟩
  rw[hW5]at n5 K5 y5 O5
  have q0:W5.cell? ⟨w4.heap.size,0,none⟩=some (.int .i64 t.id):=cell_at y5 0
  have q1:W5.cell? ⟨w4.heap.size,1,none⟩=some (.string nm):=cell_at y5 1
  have q2:W5.cell? ⟨w4.heap.size,2,none⟩=some (.int .i64 t.cl):=cell_at y5 2
  have q3:W5.cell? ⟨w4.heap.size,3,none⟩=some (.int .i64 t.pr):=cell_at y5 3
  have q4:W5.cell? ⟨w4.heap.size,4,none⟩=some (.int .i64 t.fi):=cell_at y5 4
  have q5:W5.cell? ⟨w4.heap.size,5,none⟩=some (.int .i64 t.la):=cell_at y5 5
  have q6:W5.cell? ⟨w4.heap.size,6,none⟩=some (.slice a4 ls.length c4):=cell_at y5 6
  have f0:=frozen_at n5 0
  have f1:=frozen_at n5 1
  have f2:=frozen_at n5 2
  have f3:=frozen_at n5 3
  have f4:=frozen_at n5 4
  have f5:=frozen_at n5 5
  have f6:=frozen_at n5 6
  have d0:W5.cell? ⟨P1,0,none⟩=some (.int .i64 0):=cell_at n5 0
  have d1:W5.cell? ⟨P1,1,none⟩=some (.string ⟨#[]⟩):=cell_at n5 1
  have d2:W5.cell? ⟨P1,2,none⟩=some (.int .i64 0):=cell_at n5 2
  have d3:W5.cell? ⟨P1,3,none⟩=some (.int .i64 0):=cell_at n5 3
  have d4:W5.cell? ⟨P1,4,none⟩=some (.int .i64 0):=cell_at n5 4
  have d5:W5.cell? ⟨P1,5,none⟩=some (.int .i64 0):=cell_at n5 5
  have d6:W5.cell? ⟨P1,6,none⟩=some (.slice none 0 0):=cell_at n5 6
  have HPT:Hid (_):=put7_heap n5 (.int .i64 t.id) (.string nm) (.int .i64 t.cl) (.int .i64 t.pr) (.int .i64 t.fi) (.int .i64 t.la) (.slice a4 ls.length c4)
  have HPL:Hid (Below w.heap.size w (put7 W5 P1 (.int .i64 t.id) (.string nm) (.int .i64 t.cl) (.int .i64 t.pr) (.int .i64 t.fi) (.int .i64 t.la) (.slice a4 ls.length c4))):=put7_below K5 hPw _ _ _ _ _ _ _
  have HPO:Hid ((put7 W5 P1 (.int .i64 t.id) (.string nm) (.int .i64 t.cl) (.int .i64 t.pr) (.int .i64 t.fi) (.int .i64 t.la) (.slice a4 ls.length c4)).ownsRow w.heap.size 64 6 (.slice a4 ls.length c4) ls.length (lcells ls)):=own_move O5 (by omega) fun k hk=>put7_other (by omega) _ _ _ _ _ _ _
  clear n5 y5 K5 O5
  go_wp2
  have mE:=HPT.out
  have LE:=HPL.out
  have OE:=HPO.out
  change bodyPost _ _ _ _ _ (put7 W5 P1 (.int .i64 t.id) (.string nm) (.int .i64 t.cl) (.int .i64 t.pr) (.int .i64 t.fi) (.int .i64 t.la) (.slice a4 ls.length c4))
  generalize put7 W5 P1 (.int .i64 t.id) (.string nm) (.int .i64 t.cl) (.int .i64 t.pr) (.int .i64 t.fi) (.int .i64 t.la) (.slice a4 ls.length c4)=WE at*
  have k0:WE.cell? ⟨P1,0,none⟩=some (.int .i64 t.id):=cell_at mE 0
  have k1:WE.cell? ⟨P1,1,none⟩=some (.string nm):=cell_at mE 1
  have k2:WE.cell? ⟨P1,2,none⟩=some (.int .i64 t.cl):=cell_at mE 2
  have k3:WE.cell? ⟨P1,3,none⟩=some (.int .i64 t.pr):=cell_at mE 3
  have k4:WE.cell? ⟨P1,4,none⟩=some (.int .i64 t.fi):=cell_at mE 4
  have k5:WE.cell? ⟨P1,5,none⟩=some (.int .i64 t.la):=cell_at mE 5
  have k6:WE.cell? ⟨P1,6,none⟩=some (.slice a4 ls.length c4):=cell_at mE 6
  refine bodyPost_ret (v:= .tuple #[tkV t nm a4 ls.length c4,.int .i64 0]) (by simp[results,Tryz.results9,go_sem,k0,k1,k2,k3,k4,k5,k6]) rfl ?_
  exact⟨read_yes rfl OE,LE⟩

end Re
end Go.Proofs.YtcjgkmhpeedhiaaGreatDoor

/- The law of what is issued, at a code that is not too long. -/
namespace Go.Proofs.YtcjgkmhpeedhiaaGreatDoor
namespace Cur
open Go.ChangeShapes Go.WideShapes Go.ChangeAt Go.RowKit
open Pk (new_below join_below heap_new lt_of kept cell_at heap_old frozen_at own_below)
open Tk (Lg Hd tkV tkB Legs putS okB)
open Gt (lcells ML)
open Num (pv mv pb mb Tens signV powV)
open Re (ReadIs rT rN rL rC)
open Fr (fP)
set_option linter.unusedSimpArgs false
set_option linter.unusedVariables false

structure St (a:Option Addr) (n:Nat) (w0 w:World):Prop where
 bl:Below w0.heap.size w0 w
 cd:Bytes w a n
 tn:Tens w
 mm:ML w
 rn:Pk.Runs w
 e1:Errs.ErrAt 1 w
 e2:Errs.ErrAt 2 w
 e3:Errs.ErrAt 5 w
 e4:Errs.ErrAt 0 w
 e5:Errs.ErrAt 3 w
 e6:Errs.ErrAt 4 w

theorem St.on {a:Option Addr} {n:Nat} {w0 w w1:World} (h:St a n w0 w) (L:Below w.heap.size w w1):St a n w0 w1:=⟨join_below h.bl L,h.cd.on L,h.tn.on L,h.mm.on L,h.rn.on L h.rn.lt,h.e1.on L,h.e2.on L,h.e3.on L,h.e4.on L,h.e5.on L,h.e6.on L⟩

theorem St.read {a:Option Addr} {n:Nat} {w0 w:World} (h:St a n w0 w) (p q g o i:Int) (s:ByteArray) {t:Hd} {nm:ByteArray} {ls:List Lg} {ok:Bool} (hs:s.size≤1048576) (H:∀base e w,Gt.GetEnd (fP s) base e w→Gt.GetIs t nm ls ok base e w) {c:Nat} (hc:rC p q g o i s ok=c):
 Calls Tryz.prog 9 #[pv p q g,.int .i64 o,.int .i64 i,.string s] w fun e w'=>ReadIs (rT c t) (rN c nm) (rL c ls) c w.heap.size e w'∧Below w.heap.size w w':=by
 subst hc
 exact Re.implRead_val p q g o i s w hs H h.rn h.e1 h.e5 h.e6 h.e3 h.mm h.tn

set_option maxRecDepth 100000 in
set_option maxHeartbeats 8000000 in
theorem issued_law (a:Option Addr) (n cap:Nat) (w0:World) (hb:n≤1048576) (S:St a n w0 w0):
 Calls Tryz.prog 3 #[.slice a n cap] w0 fun e w'=>e= .returned (.bool true)∧Below w0.heap.size w0 w':=by
 go_enter Tryz.func3,Tryz.ntmps3
 go_wp2_with fail
 refine(big_no a n cap _ hb).mono ?_
 rintro e w0 ⟨rfl,rfl⟩
 go_wp2_with fail
 refine(drawIssued _ a n cap hb S.cd).mono ?_
 rintro e w2 ⟨⟨p,q,g,x,i,t,nm,va,vc,ls,b,zs,rfl,hL,hx,hi,hnm,hln,hzs,O,J⟩,L2⟩
 replace S:=S.on L2
 have hok:=listed_ok hL
 obtain⟨hkb,hki⟩:=Num.key_yes hok hx.1 hx.2
 have IL:=own_legs' O
 have hcs:=Is4.is_read (n:=i) (t:=t) (nm:=nm) (ls:=ls) (zs:=zs) hok hx.1 hx.2 (by omega)
 have NP:=new_below w2 (pb p q g)
 have mP:=heap_new w2 (pb p q g)
 have NT:=new_below (w2.alloc (pb p q g)) (tkB t nm va ls.length vc 28)
 replace mP:=heap_old mP (tkB t nm va ls.length vc 28)
 have mT:=heap_new (w2.alloc (pb p q g)) (tkB t nm va ls.length vc 28)
 have hsz:(w2.alloc (pb p q g)).heap.size=w2.heap.size+1:=Array.size_push ..
 rw[hsz]at mT
 have NN:=join_below NP NT
 replace S:=S.on NN
 have IL0:=IL
 replace IL:=IL.on NN
 replace J:=J.on NN
 have HII:Hid (∀W:World,St a n w0 W→Legs W va ls→Num.Ints W (some ⟨b,0,none⟩) zs→_):=fun W S I J=>Is4.implIssue_val p q g x i t nm va ls vc (some ⟨b,0,none⟩) zs 6 W (by unfold maxLen;omega) (by omega) (by omega) I J S.tn S.rn S.e1 S.e2 S.e3 S.e4
 have HIS:Hid (∀W:World,Legs W va ls→Num.Ints W (some ⟨b,0,none⟩) zs→_):=fun W I J=>Is4.specIssue_val p q g x i t nm va ls vc (some ⟨b,0,none⟩) zs 6 W (by unfold maxLen;omega) (by omega) (by omega) I J
 have HOK:Hid (∀W:World,St a n w0 W→_):=fun W S=>Num.implOpenKey_val p q g x W S.e1 S.e2
 rw[hki,hkb]at HOK
 rw[hzs]at HII HIS
 have hi9:=hi
 have hwi:IntKind.i64.wrap (i+1)=i+1:=wrap_is _ (by omega)
 clear NP NT NN hsz L2 hL hok hkb hki hx hi hnm O
 generalize hV:Is4.isV (okB t nm ls) (putS t nm ls) (signV p q g x (putS t nm ls) zs) i=V at*
 clear hV
 generalize powV g x p=o at*
 go_wp2_with fail
 generalize (w2.alloc (pb p q g)).alloc (tkB t nm va ls.length vc 28)=W2 at*
 generalize w2.heap.size=P at*
 refine(HII.out _ S IL J).mono ?_
 rintro e w3 ⟨rfl,L⟩
 replace S:=S.on L
 replace mP:=kept L (lt_of mP) mP
 replace mT:=kept L (lt_of mT) mT
 replace IL:=IL.on L
 replace J:=J.on L
 clear L
 have c0:w3.cell? ⟨P,0,none⟩=some (.int .i64 p):=cell_at mP 0
 have c1:w3.cell? ⟨P,1,none⟩=some (.int .i64 q):=cell_at mP 1
 have c2:w3.cell? ⟨P,2,none⟩=some (.int .i64 g):=cell_at mP 2
 have a0:w3.cell? ⟨P+1,0,none⟩=some (.int .i64 t.id):=cell_at mT 0
 have a1:w3.cell? ⟨P+1,1,none⟩=some (.string nm):=cell_at mT 1
 have a2:w3.cell? ⟨P+1,2,none⟩=some (.int .i64 t.cl):=cell_at mT 2
 have a3:w3.cell? ⟨P+1,3,none⟩=some (.int .i64 t.pr):=cell_at mT 3
 have a4:w3.cell? ⟨P+1,4,none⟩=some (.int .i64 t.fi):=cell_at mT 4
 have a5:w3.cell? ⟨P+1,5,none⟩=some (.int .i64 t.la):=cell_at mT 5
 have a6:w3.cell? ⟨P+1,6,none⟩=some (.slice va ls.length vc):=cell_at mT 6
 go_wp2_with fail
 refine(HIS.out _ IL J).mono ?_
 rintro e w4 ⟨rfl,L⟩
 replace S:=S.on L
 replace mP:=kept L (lt_of mP) mP
 replace mT:=kept L (lt_of mT) mT
 replace IL:=IL.on L
 clear L c0 c1 c2 a0 a1 a2 a3 a4 a5 a6 HII HIS J
 have c0:w4.cell? ⟨P,0,none⟩=some (.int .i64 p):=cell_at mP 0
 have c1:w4.cell? ⟨P,1,none⟩=some (.int .i64 q):=cell_at mP 1
 have c2:w4.cell? ⟨P,2,none⟩=some (.int .i64 g):=cell_at mP 2
 go_wp2_with fail
 refine(HOK.out _ S).mono ?_
 rintro e w5 ⟨rfl,L⟩
 replace S:=S.on L
 replace mP:=kept L (lt_of mP) mP
 replace mT:=kept L (lt_of mT) mT
 replace IL:=IL.on L
 clear L c0 c1 c2 HOK
 rcases hcs with rfl|⟨s,j,rfl,hs,hl6,HG,HC⟩
 case' inl=>
  clear hwi hi9 mP mT IL
  go_wp2_with fail
  generalize w5=w9 at*
 case' inr=>
  have HRA:Hid (∀W:World,St a n w0 W→Calls Tryz.prog 9 #[pv p q g,.int .i64 o,.int .i64 i,.string s] W fun e w'=>ReadIs t nm ls 0 W.heap.size e w'∧Below W.heap.size W w'):=fun W S=>S.read p q g o i s (by omega) HG (HC true).1
  have HRB:Hid (∀W:World,St a n w0 W→_):=fun W S=>S.read p q g o (i+1) s (by omega) HG (HC true).2
  have HSM:Hid (∀(W:World) (b:Option Addr) (c2:Nat),Legs W b ls→Legs W va ls→_):=fun W b c2 h g=>Tk.sameTicket_same t nm b va ls c2 vc W (by omega) h g
  clear HG HC
  have c0:w5.cell? ⟨P,0,none⟩=some (.int .i64 p):=cell_at mP 0
  have c1:w5.cell? ⟨P,1,none⟩=some (.int .i64 q):=cell_at mP 1
  have c2:w5.cell? ⟨P,2,none⟩=some (.int .i64 g):=cell_at mP 2
  go_wp2_with fail
  refine(HRA.out _ S).mono ?_
  rintro e w6 ⟨⟨ka,kc,rfl,O6⟩,L⟩
  replace S:=S.on L
  replace mP:=kept L (lt_of mP) mP
  replace mT:=kept L (lt_of mT) mT
  replace IL:=IL.on L
  clear L c0 c1 c2 HRA
  have IK:=own_legs' O6
  have NK:=new_below w6 (tkB t nm ka ls.length kc 28)
  have mK:=heap_new w6 (tkB t nm ka ls.length kc 28)
  replace S:=S.on NK
  replace mP:=kept NK (lt_of mP) mP
  replace mT:=kept NK (lt_of mT) mT
  replace IL:=IL.on NK
  replace IK:=IK.on NK
  clear NK O6
  have c0:(w6.alloc (tkB t nm ka ls.length kc 28)).cell? ⟨P,0,none⟩=some (.int .i64 p):=cell_at mP 0
  have c1:(w6.alloc (tkB t nm ka ls.length kc 28)).cell? ⟨P,1,none⟩=some (.int .i64 q):=cell_at mP 1
  have c2:(w6.alloc (tkB t nm ka ls.length kc 28)).cell? ⟨P,2,none⟩=some (.int .i64 g):=cell_at mP 2
  go_wp2_with fail
  generalize w6.alloc (tkB t nm ka ls.length kc 28)=W6 at*
  generalize w6.heap.size=K at*
  refine(HRB.out _ S).mono ?_
  rintro e w7 ⟨⟨ra,rc,rfl,-⟩,L⟩
  replace S:=S.on L
  replace mP:=kept L (lt_of mP) mP
  replace mT:=kept L (lt_of mT) mT
  replace mK:=kept L (lt_of mK) mK
  replace IL:=IL.on L
  replace IK:=IK.on L
  clear L c0 c1 c2 HRB
  generalize rT 1 t=t1 at*
  generalize rN 1 nm=nm1 at*
  generalize rL 1 ls=ls1 at*
  have NK:=new_below w7 (tkB t1 nm1 ra ls1.length rc 28)
  replace S:=S.on NK
  replace mP:=kept NK (lt_of mP) mP
  replace mT:=kept NK (lt_of mT) mT
  replace mK:=kept NK (lt_of mK) mK
  replace IL:=IL.on NK
  replace IK:=IK.on NK
  clear NK
  have a0:(w7.alloc (tkB t1 nm1 ra ls1.length rc 28)).cell? ⟨P+1,0,none⟩=some (.int .i64 t.id):=cell_at mT 0
  have a1:(w7.alloc (tkB t1 nm1 ra ls1.length rc 28)).cell? ⟨P+1,1,none⟩=some (.string nm):=cell_at mT 1
  have a2:(w7.alloc (tkB t1 nm1 ra ls1.length rc 28)).cell? ⟨P+1,2,none⟩=some (.int .i64 t.cl):=cell_at mT 2
  have a3:(w7.alloc (tkB t1 nm1 ra ls1.length rc 28)).cell? ⟨P+1,3,none⟩=some (.int .i64 t.pr):=cell_at mT 3
  have a4:(w7.alloc (tkB t1 nm1 ra ls1.length rc 28)).cell? ⟨P+1,4,none⟩=some (.int .i64 t.fi):=cell_at mT 4
  have a5:(w7.alloc (tkB t1 nm1 ra ls1.length rc 28)).cell? ⟨P+1,5,none⟩=some (.int .i64 t.la):=cell_at mT 5
  have a6:(w7.alloc (tkB t1 nm1 ra ls1.length rc 28)).cell? ⟨P+1,6,none⟩=some (.slice va ls.length vc):=cell_at mT 6
  have d0:(w7.alloc (tkB t1 nm1 ra ls1.length rc 28)).cell? ⟨K,0,none⟩=some (.int .i64 t.id):=cell_at mK 0
  have d1:(w7.alloc (tkB t1 nm1 ra ls1.length rc 28)).cell? ⟨K,1,none⟩=some (.string nm):=cell_at mK 1
  have d2:(w7.alloc (tkB t1 nm1 ra ls1.length rc 28)).cell? ⟨K,2,none⟩=some (.int .i64 t.cl):=cell_at mK 2
  have d3:(w7.alloc (tkB t1 nm1 ra ls1.length rc 28)).cell? ⟨K,3,none⟩=some (.int .i64 t.pr):=cell_at mK 3
  have d4:(w7.alloc (tkB t1 nm1 ra ls1.length rc 28)).cell? ⟨K,4,none⟩=some (.int .i64 t.fi):=cell_at mK 4
  have d5:(w7.alloc (tkB t1 nm1 ra ls1.length rc 28)).cell? ⟨K,5,none⟩=some (.int .i64 t.la):=cell_at mK 5
  have d6:(w7.alloc (tkB t1 nm1 ra ls1.length rc 28)).cell? ⟨K,6,none⟩=some (.slice ka ls.length kc):=cell_at mK 6
  go_wp2_with fail
  generalize w7.alloc (tkB t1 nm1 ra ls1.length rc 28)=W7 at*
  refine(HSM.out _ _ _ IK IL).mono ?_
  rintro e w9 ⟨rfl,L⟩
  replace S:=S.on L
  clear L a0 a1 a2 a3 a4 a5 a6 d0 d1 d2 d3 d4 d5 d6 mP mT mK IL IK HSM hwi hi9
  go_wp2_with fail
 all_goals
  refine(drawRead _ a n cap hb S.cd).mono ?_
  rintro e v1 ⟨⟨p,q,g,o,i,r,rfl,hr⟩,L⟩
  replace S:=S.on L
  obtain⟨t,nm,ls,ok,hl6,hok1,hok0,hnm,H⟩:=Is4.get_fine (fP r)
  have hfp:=Fr.fP_bound r
  have hcs:=Re.r_cases p q g o i r ok
  obtain⟨C,hC⟩:∃C,rC p q g o i r ok=C:=⟨_,rfl⟩
  have HR:Hid (∀W:World,St a n w0 W→_):=fun W S=>S.read p q g o i r (by omega) H hC
  have HQ:Hid (∀W:World,_):=fun W=>Re.specRead_val p q g o i r W (by omega) H
  rw[hC]at HQ hcs
  have HU:Hid (∀W:World,St a n w0 W→_):=fun W S=>Fr.implUnframe_val r W (by omega) S.rn
  have HV:Hid (∀W:World,St a n w0 W→_):=fun W S=>Num.implVerify_val p q g o (Fr.fR r) (Fr.fS r) (fP r) W (by unfold maxLen;omega) S.e1 S.e5 S.e6 S.e3
  have HT:Hid (∀(W:World) (b:Option Addr) (c2:Nat),Legs W b ls→_):=fun W b c2 h=>Tk.implOk_val t nm b ls c2 W (by unfold maxLen;omega) (by omega) h
  have NQ:=new_below v1 (pb p q g)
  have mQ:=heap_new v1 (pb p q g)
  replace S:=S.on NQ
  clear L NQ H hC hfp
  go_wp2_with fail
  generalize v1.alloc (pb p q g)=V1 at*
  generalize v1.heap.size=Q at*
  by_cases hC0:C=0
  ·subst hC0
   have hgood:Num.verV p q g o (Fr.fR r) (Fr.fS r) (fP r)=true∧okB t nm ls=true:=by
    rcases hcs with⟨-,h⟩|⟨-,-,h⟩|⟨-,-,-,h⟩|⟨-,-,-,-,h⟩|⟨-,-,h1,h2,-⟩
    ·omega
    ·omega
    ·omega
    ·omega
    ·exact⟨h1,hok1 h2⟩
   rw[hgood.1]at HV
   rw[hgood.2]at HT
   have HRZ:Hid (∀W:World,St a n w0 W→Calls Tryz.prog 9 #[pv p q g,.int .i64 o,.int .i64 i,.string r] W fun e w'=>ReadIs t nm ls 0 W.heap.size e w'∧Below W.heap.size W w'):=HR.out
   have HQZ:Hid (∀W:World,Calls Tryz.prog 12 #[pv p q g,.int .i64 o,.int .i64 i,.string r] W fun e w'=>ReadIs t nm ls 0 W.heap.size e w'∧Below W.heap.size W w'):=HQ.out
   clear hcs hok1 hok0 HR HQ hgood
   generalize Fr.fN r=fn at*
   generalize Fr.fR r=fr at*
   generalize Fr.fS r=fs at*
   generalize fP r=fp at*
   generalize Fr.fC r=fc at*
   refine(HRZ.out _ S).mono ?_
   rintro e v2 ⟨⟨ka,kc,rfl,O2⟩,L⟩
   replace S:=S.on L
   replace mQ:=kept L (lt_of mQ) mQ
   have IK:=own_legs' O2
   have NK:=new_below v2 (tkB t nm ka ls.length kc 28)
   have mK:=heap_new v2 (tkB t nm ka ls.length kc 28)
   replace S:=S.on NK
   replace mQ:=kept NK (lt_of mQ) mQ
   replace IK:=IK.on NK
   clear NK L O2 HRZ
   have c0:(v2.alloc (tkB t nm ka ls.length kc 28)).cell? ⟨Q,0,none⟩=some (.int .i64 p):=cell_at mQ 0
   have c1:(v2.alloc (tkB t nm ka ls.length kc 28)).cell? ⟨Q,1,none⟩=some (.int .i64 q):=cell_at mQ 1
   have c2:(v2.alloc (tkB t nm ka ls.length kc 28)).cell? ⟨Q,2,none⟩=some (.int .i64 g):=cell_at mQ 2
   go_wp2_with fail
   generalize v2.alloc (tkB t nm ka ls.length kc 28)=V2 at*
   generalize v2.heap.size=K at*
   refine(HQZ.out _).mono ?_
   rintro e v3 ⟨⟨la,lc,rfl,-⟩,L⟩
   replace S:=S.on L
   replace mQ:=kept L (lt_of mQ) mQ
   replace mK:=kept L (lt_of mK) mK
   replace IK:=IK.on L
   have NK:=new_below v3 (tkB t nm la ls.length lc 28)
   replace S:=S.on NK
   replace mQ:=kept NK (lt_of mQ) mQ
   replace mK:=kept NK (lt_of mK) mK
   replace IK:=IK.on NK
   clear NK L HQZ c0 c1 c2
   go_wp2_with fail
   generalize v3.alloc (tkB t nm la ls.length lc 28)=V3 at*
   refine(HU.out _ S).mono ?_
   rintro e v4 ⟨rfl,L⟩
   replace S:=S.on L
   replace mQ:=kept L (lt_of mQ) mQ
   replace mK:=kept L (lt_of mK) mK
   replace IK:=IK.on L
   have NM:=new_below v4 (mb fr fs)
   replace S:=S.on NM
   replace mQ:=kept NM (lt_of mQ) mQ
   replace mK:=kept NM (lt_of mK) mK
   replace IK:=IK.on NM
   clear NM L HU
   have c0:(v4.alloc (mb fr fs)).cell? ⟨Q,0,none⟩=some (.int .i64 p):=cell_at mQ 0
   have c1:(v4.alloc (mb fr fs)).cell? ⟨Q,1,none⟩=some (.int .i64 q):=cell_at mQ 1
   have c2:(v4.alloc (mb fr fs)).cell? ⟨Q,2,none⟩=some (.int .i64 g):=cell_at mQ 2
   go_wp2_with fail
   generalize v4.alloc (mb fr fs)=V4 at*
   refine(HV.out _ S).mono ?_
   rintro e v5 ⟨rfl,L⟩
   replace S:=S.on L
   replace mK:=kept L (lt_of mK) mK
   replace IK:=IK.on L
   clear L HV c0 c1 c2 mQ
   have d0:v5.cell? ⟨K,0,none⟩=some (.int .i64 t.id):=cell_at mK 0
   have d1:v5.cell? ⟨K,1,none⟩=some (.string nm):=cell_at mK 1
   have d2:v5.cell? ⟨K,2,none⟩=some (.int .i64 t.cl):=cell_at mK 2
   have d3:v5.cell? ⟨K,3,none⟩=some (.int .i64 t.pr):=cell_at mK 3
   have d4:v5.cell? ⟨K,4,none⟩=some (.int .i64 t.fi):=cell_at mK 4
   have d5:v5.cell? ⟨K,5,none⟩=some (.int .i64 t.la):=cell_at mK 5
   have d6:v5.cell? ⟨K,6,none⟩=some (.slice ka ls.length kc):=cell_at mK 6
   go_wp2_with fail
   refine(HT.out _ _ _ IK).mono ?_
   rintro e v6 ⟨rfl,L⟩
   replace S:=S.on L
   clear L HT d0 d1 d2 d3 d4 d5 d6 mK IK
   go_wp2
   go_ret
   exact⟨rfl,S.bl⟩
  ·have z1:rT C t=⟨0,0,0,0,0⟩:=if_neg hC0
   have z2:rN C nm=⟨#[]⟩:=if_neg hC0
   have z3:rL C ls= []:=if_neg hC0
   have hCi:((C:Int) !=0)=true:=by simp[hC0]
   have hCj:¬((C:Int)=0):=by omega
   rw[z1,z2,z3]at HR HQ
   clear z1 z2 z3 hcs hok1 hok0 HU HV HT hC0
   refine(HR.out _ S).mono ?_
   rintro e v2 ⟨⟨ka,kc,rfl,O2⟩,L⟩
   replace S:=S.on L
   replace mQ:=kept L (lt_of mQ) mQ
   have NK:=new_below v2 (tkB ⟨0,0,0,0,0⟩ ⟨#[]⟩ ka 0 kc 28)
   have mK:=heap_new v2 (tkB ⟨0,0,0,0,0⟩ ⟨#[]⟩ ka 0 kc 28)
   replace S:=S.on NK
   replace mQ:=kept NK (lt_of mQ) mQ
   clear NK L O2 HR
   have c0:(v2.alloc (tkB ⟨0,0,0,0,0⟩ ⟨#[]⟩ ka 0 kc 28)).cell? ⟨Q,0,none⟩=some (.int .i64 p):=cell_at mQ 0
   have c1:(v2.alloc (tkB ⟨0,0,0,0,0⟩ ⟨#[]⟩ ka 0 kc 28)).cell? ⟨Q,1,none⟩=some (.int .i64 q):=cell_at mQ 1
   have c2:(v2.alloc (tkB ⟨0,0,0,0,0⟩ ⟨#[]⟩ ka 0 kc 28)).cell? ⟨Q,2,none⟩=some (.int .i64 g):=cell_at mQ 2
   go_wp2_with fail
   generalize v2.alloc (tkB ⟨0,0,0,0,0⟩ ⟨#[]⟩ ka 0 kc 28)=V2 at*
   generalize v2.heap.size=K at*
   refine(HQ.out _).mono ?_
   rintro e v3 ⟨⟨la,lc,rfl,-⟩,L⟩
   replace S:=S.on L
   replace mK:=kept L (lt_of mK) mK
   have NK:=new_below v3 (tkB ⟨0,0,0,0,0⟩ ⟨#[]⟩ la 0 lc 28)
   replace S:=S.on NK
   replace mK:=kept NK (lt_of mK) mK
   clear NK L HQ c0 c1 c2 mQ
   have d0:(v3.alloc (tkB ⟨0,0,0,0,0⟩ ⟨#[]⟩ la 0 lc 28)).cell? ⟨K,0,none⟩=some (.int .i64 0):=cell_at mK 0
   have d6:(v3.alloc (tkB ⟨0,0,0,0,0⟩ ⟨#[]⟩ la 0 lc 28)).cell? ⟨K,6,none⟩=some (.slice ka 0 kc):=cell_at mK 6
   go_wp2
   go_ret
   exact⟨rfl,S.bl⟩

end Cur
end Go.Proofs.YtcjgkmhpeedhiaaGreatDoor

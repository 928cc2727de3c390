/- Contracts of the model's functions of chapter 2, further: Sign. -/
import Derived.Test.YtcjgkmhpeedhiaaGreatDoorSignVals
namespace Go.Proofs.YtcjgkmhpeedhiaaGreatDoor
namespace Num
open Go.ChangeShapes Go.WideShapes Go.ChangeAt Go.RowKit
set_option linter.unusedSimpArgs false
set_option linter.unusedVariables false

set_option maxHeartbeats 8000000 in
theorem specSign_val (p q g x:Int) (t:ByteArray) (a:Option Addr) (zs:List Int) (cap:Nat) (w:World) (ht:t.size≤maxLen) (hz:zs.length≤9223372036854775807) (I:Ints w a zs):
 Calls Tryz.prog 24 #[pv p q g,.int .i64 x,.string t,.slice a zs.length cap] w fun e w'=>e= .returned (sv (signV p q g x t zs))∧Below w.heap.size w w':=by
 unfold maxLen at ht
 have L0:Below w.heap.size w ((w.alloc (pb p q g)).alloc (mb 0 0)):=((Below.refl _ _).alloc (Nat.le_refl _) _).alloc (by simp) _
 have b1:((w.alloc (pb p q g)).alloc (mb 0 0)).heap[w.heap.size]? =some (pb p q g):=heap_old (heap_new w (pb p q g)) (mb 0 0)
 have b2:((w.alloc (pb p q g)).alloc (mb 0 0)).heap[w.heap.size+1]? =some (mb 0 0):=by have:=heap_new (w.alloc (pb p q g)) (mb 0 0);simpa using this
 rcases signB_cases p q g x t with⟨h1,hs⟩|⟨h1,hx,hs⟩|⟨h1,hx,h5,hs⟩|⟨h1,hx,h5,hs⟩
 ·have HE:Hid (_):=signV_no (zs:=zs) (Or.inl hs)
  have H1:Hid (okP p q g=false):=h1
  clear h1 hs I
  go_enter Tryz.func24,Tryz.ntmps24
  go_wp2_with fail
  refine(specParamsOk_is p q g false H1.out _).mono ?_
  rintro e w3 ⟨rfl,L1⟩
  have hb:=L1.block _ ((Array.getElem?_eq_some_iff.1 b2).1)
  rw[b2]at hb
  have hc:=L1.block _ ((Array.getElem?_eq_some_iff.1 b1).1)
  rw[b1]at hc
  have L2:=L0.trans (L1.mono L0.size)
  have c0:w3.cell? ⟨w.heap.size,0,none⟩=some (.int .i64 p):=cell_at hc 0
  have c1:w3.cell? ⟨w.heap.size,1,none⟩=some (.int .i64 q):=cell_at hc 1
  have c2:w3.cell? ⟨w.heap.size,2,none⟩=some (.int .i64 g):=cell_at hc 2
  have d0:w3.cell? ⟨w.heap.size+1,0,none⟩=some (.int .i64 0):=cell_at hb 0
  have d1:w3.cell? ⟨w.heap.size+1,1,none⟩=some (.int .i64 0):=cell_at hb 1
  have f0:w3.frozen? ⟨w.heap.size+1,0,none⟩=false:=frozen_at hb 0
  have f1:w3.frozen? ⟨w.heap.size+1,1,none⟩=false:=frozen_at hb 1
  clear L0 b1 b2 L1 hb hc c0 c1 c2
  go_wp2
  refine bodyPost_ret (v:=sv (0,0,-1,false)) (by simp[results,Tryz.results24,go_sem,d0,d1]) rfl ?_
  rw[HE.out]
  exact⟨rfl,(L2.setCell (by simp) _).setCell (by simp) _⟩
 ·obtain⟨-,hq,hq1,-⟩:=okP_facts h1
  have hm3:=hq.2
  have HE:Hid (_):=signV_no (zs:=zs) (Or.inl hs)
  have H1:Hid (okP p q g=true):=h1
  clear h1 hs hq I
  go_enter Tryz.func24,Tryz.ntmps24
  go_wp2_with fail
  refine(specParamsOk_is p q g true H1.out _).mono ?_
  rintro e w3 ⟨rfl,L1⟩
  have hb:=L1.block _ ((Array.getElem?_eq_some_iff.1 b2).1)
  rw[b2]at hb
  have hc:=L1.block _ ((Array.getElem?_eq_some_iff.1 b1).1)
  rw[b1]at hc
  have L2:=L0.trans (L1.mono L0.size)
  have c0:w3.cell? ⟨w.heap.size,0,none⟩=some (.int .i64 p):=cell_at hc 0
  have c1:w3.cell? ⟨w.heap.size,1,none⟩=some (.int .i64 q):=cell_at hc 1
  have c2:w3.cell? ⟨w.heap.size,2,none⟩=some (.int .i64 g):=cell_at hc 2
  have d0:w3.cell? ⟨w.heap.size+1,0,none⟩=some (.int .i64 0):=cell_at hb 0
  have d1:w3.cell? ⟨w.heap.size+1,1,none⟩=some (.int .i64 0):=cell_at hb 1
  have f0:w3.frozen? ⟨w.heap.size+1,0,none⟩=false:=frozen_at hb 0
  have f1:w3.frozen? ⟨w.heap.size+1,1,none⟩=false:=frozen_at hb 1
  clear L0 b1 b2 L1 hb hc c0 c2
  go_wp2_with fail
  refine(specIn_is x 1 (q-1) false (decide_eq_false hx) _).mono ?_
  rintro e w2 ⟨rfl,rfl⟩
  go_wp2
  refine bodyPost_ret (v:=sv (0,0,-1,false)) (by simp[results,Tryz.results24,go_sem,d0,d1]) rfl ?_
  rw[HE.out]
  exact⟨rfl,(L2.setCell (by simp) _).setCell (by simp) _⟩
 ·obtain⟨-,hq,hq1,-⟩:=okP_facts h1
  have hm3:=hq.2
  have HE:Hid (_):=signV_no (zs:=zs) (Or.inl hs)
  have H1:Hid (okP p q g=true):=h1
  have hd:decide ((5000:Int)<t.size)=true:=by simp;omega
  clear h1 hs hq I
  go_enter Tryz.func24,Tryz.ntmps24
  go_wp2_with fail
  refine(specParamsOk_is p q g true H1.out _).mono ?_
  rintro e w3 ⟨rfl,L1⟩
  have hb:=L1.block _ ((Array.getElem?_eq_some_iff.1 b2).1)
  rw[b2]at hb
  have hc:=L1.block _ ((Array.getElem?_eq_some_iff.1 b1).1)
  rw[b1]at hc
  have L2:=L0.trans (L1.mono L0.size)
  have c0:w3.cell? ⟨w.heap.size,0,none⟩=some (.int .i64 p):=cell_at hc 0
  have c1:w3.cell? ⟨w.heap.size,1,none⟩=some (.int .i64 q):=cell_at hc 1
  have c2:w3.cell? ⟨w.heap.size,2,none⟩=some (.int .i64 g):=cell_at hc 2
  have d0:w3.cell? ⟨w.heap.size+1,0,none⟩=some (.int .i64 0):=cell_at hb 0
  have d1:w3.cell? ⟨w.heap.size+1,1,none⟩=some (.int .i64 0):=cell_at hb 1
  have f0:w3.frozen? ⟨w.heap.size+1,0,none⟩=false:=frozen_at hb 0
  have f1:w3.frozen? ⟨w.heap.size+1,1,none⟩=false:=frozen_at hb 1
  clear L0 b1 b2 L1 hb hc c0 c2
  go_wp2_with fail
  refine(specIn_is x 1 (q-1) true (decide_eq_true hx) _).mono ?_
  rintro e w2 ⟨rfl,rfl⟩
  go_wp2
  refine bodyPost_ret (v:=sv (0,0,-1,false)) (by simp[results,Tryz.results24,go_sem,d0,d1]) rfl ?_
  rw[HE.out]
  exact⟨rfl,(L2.setCell (by simp) _).setCell (by simp) _⟩
 ·obtain⟨-,hq,hq1,-⟩:=okP_facts h1
  have hm2:=hq.1
  have hm3:=hq.2
  have H1:Hid (okP p q g=true):=h1
  have hd:decide ((5000:Int)<t.size)=false:=by simp;omega
  by_cases hn:zs.length≤100
  ·obtain⟨hh0,hh1⟩:=hV_bd t hq
   have hd2:decide ((100:Int)<zs.length)=false:=by simp;omega
   have HF:Hid (∀w,Calls Tryz.prog 56 #[.string t,.int .i64 q] w fun e w'=>e= .returned (.int .i64 (hV t q))∧w'=w):=fun w=>specFold_yes t q w hm2 hm3 h5
   have HE:Hid (signV p q g x t zs=sg p q g x (hV t q) zs 0):=if_pos ⟨hs,hn⟩
   clear h1 hs hq
   generalize hV t q=h at*
   go_enter Tryz.func24,Tryz.ntmps24
   go_wp2_with fail
   refine(specParamsOk_is p q g true H1.out _).mono ?_
   rintro e w3 ⟨rfl,L1⟩
   have hb:=L1.block _ ((Array.getElem?_eq_some_iff.1 b2).1)
   rw[b2]at hb
   have hc:=L1.block _ ((Array.getElem?_eq_some_iff.1 b1).1)
   rw[b1]at hc
   have L2:=L0.trans (L1.mono L0.size)
   have c0:w3.cell? ⟨w.heap.size,0,none⟩=some (.int .i64 p):=cell_at hc 0
   have c1:w3.cell? ⟨w.heap.size,1,none⟩=some (.int .i64 q):=cell_at hc 1
   have c2:w3.cell? ⟨w.heap.size,2,none⟩=some (.int .i64 g):=cell_at hc 2
   have d0:w3.cell? ⟨w.heap.size+1,0,none⟩=some (.int .i64 0):=cell_at hb 0
   have d1:w3.cell? ⟨w.heap.size+1,1,none⟩=some (.int .i64 0):=cell_at hb 1
   have f0:w3.frozen? ⟨w.heap.size+1,0,none⟩=false:=frozen_at hb 0
   have f1:w3.frozen? ⟨w.heap.size+1,1,none⟩=false:=frozen_at hb 1
   have I3:=I.on L2
   clear L0 b1 b2 L1 I
   go_wp2_with fail
   refine(specIn_is x 1 (q-1) true (decide_eq_true hx) _).mono ?_
   rintro e w2 ⟨rfl,rfl⟩
   go_wp2_with fail
   refine(HF.out _).mono ?_
   rintro e w2' ⟨rfl,rfl⟩
   clear c0 c1 c2 d0 d1 f0 f1
   go_wp2
   go_loopw [12] (fun i wr=>∃k:Nat,k≤zs.length∧i= .int .i64 k∧Below w.heap.size w wr∧wr.heap[w.heap.size]? =some (pb p q g)∧wr.heap[w.heap.size+1]? =some (mb 0 0)∧Ints wr a zs∧Hid (sg p q g x h zs 0=sg p q g x h (zs.drop k) k)) (fun i _=>zs.length-(intOf i).toNat)
   case atStart=>exact⟨0,by omega,rfl,L2,hc,hb,I3,by show _=_;simp⟩
   case round=>
    obtain⟨k,hk,rfl,LR,RC,RB,RI,HS⟩:=hrel
    clear L2 hc hb I3
    have c0:wr.cell? ⟨w.heap.size,0,none⟩=some (.int .i64 p):=cell_at RC 0
    have c1:wr.cell? ⟨w.heap.size,1,none⟩=some (.int .i64 q):=cell_at RC 1
    have c2:wr.cell? ⟨w.heap.size,2,none⟩=some (.int .i64 g):=cell_at RC 2
    have l1:w.heap.size<wr.heap.size:=(Array.getElem?_eq_some_iff.1 RC).1
    have l2:w.heap.size+1<wr.heap.size:=(Array.getElem?_eq_some_iff.1 RB).1
    by_cases hkn:k<zs.length
    ·obtain⟨b,o,rfl,hlt,hcell⟩:=RI.at k hkn
     have XLR:Hid (Below w.heap.size w wr):=LR
     have XRC:Hid (wr.heap[w.heap.size]? =some (pb p q g)):=RC
     have XRB:Hid (wr.heap[w.heap.size+1]? =some (mb 0 0)):=RB
     have XRI:Hid (Ints wr (some ⟨b,o,none⟩) zs):=RI
     have XHH:Hid (0≤h∧h<q):=⟨hh0,hh1⟩
     have XHX:Hid (1≤x∧x≤q-1):=hx
     have Xl2:Hid (w.heap.size+1<wr.heap.size):=l2
     have hn1:wr.heap.size≠w.heap.size+1:=by omega
     have hn2:w.heap.size+1≠wr.heap.size:=by omega
     have hn3:wr.heap.size≠w.heap.size:=by omega
     have hn4:w.heap.size≠wr.heap.size:=by omega
     have hn5:b≠wr.heap.size:=by omega
     have hn6:wr.heap.size≠b:=by omega
     clear LR RC RB RI hh0 hh1 hx ht h5 hq1 hm2 hm3 hd hd2 HF hn3 hn4 hn5 hn6
     cases hdo:doV p q g x h zs[k]
     ·have HC:Hid (∀w,Calls Tryz.prog 57 #[pv p q g,.int .i64 x,.int .i64 h,.int .i64 zs[k]] w fun e w'=>e= .returned (.tuple #[mv 0 0,.bool false])∧Hid (Below w.heap.size w w')):=by
       intro w
       have:=specOnce_val p q g x h zs[k] w H1.out XHH.out
       rwa [(once_no hdo).1,(once_no hdo).2,hdo]at this
      have HN:Hid (_):=HS.out.trans (sg_no hkn hdo)
      clear hdo HS HE H1 hn1 hn2
      generalize zs[k]=z at*
      go_wp2
      go_region_with ((go_at_call 57;refine(HC.out _).mono ?_;rintro e w4 ⟨rfl,L4⟩;try (have hX:Hid _:=kept_new L4.out (heap_new wr (mb 0 0));have e0:w4.cell? ⟨wr.heap.size,0,none⟩=some (.int .i64 0):=cell_at hX.out 0;have e1:w4.cell? ⟨wr.heap.size,1,none⟩=some (.int .i64 0):=cell_at hX.out 1;have g0:w4.frozen? ⟨wr.heap.size,0,none⟩=false:=frozen_at hX.out 0;have g1:w4.frozen? ⟨wr.heap.size,1,none⟩=false:=frozen_at hX.out 1)))
      all_goals
       go_wp2
       go_roundw
       case rel=>
        refine⟨k+1,by omega,by go_num,?_⟩
        refine sign_rel XLR.out XRC.out XRB.out XRI.out ?_ HN
        first
         |exact(((Below.refl _ _).drew.trans L4.out).alloc L4.out.size _)
         |exact(((((Below.refl _ _).alloc (Nat.le_refl _) _).drew.trans (L4.out.mono (by simp))).setCell (Nat.le_refl _) _).setCell (Nat.le_refl _) _)
       case measure=>simp[intOf];omega
     ·have HC:Hid (∀w,Calls Tryz.prog 57 #[pv p q g,.int .i64 x,.int .i64 h,.int .i64 zs[k]] w fun e w'=>e= .returned (.tuple #[mv (rV p q g zs[k]) (sV p q g x h zs[k]),.bool true])∧Hid (Below w.heap.size w w')):=by
       intro w
       have:=specOnce_val p q g x h zs[k] w H1.out XHH.out
       rwa [(once_yes hdo).1,(once_yes hdo).2,hdo]at this
      have HN:Hid (_):=HE.out.trans (HS.out.trans (sg_yes hkn hdo))
      clear hdo HS HE H1
      generalize rV p q g zs[k]=r at*
      generalize sV p q g x h zs[k]=s at*
      generalize zs[k]=z at*
      go_wp2
      go_region_with ((go_at_call 57;refine(HC.out _).mono ?_;rintro e w4 ⟨rfl,L4⟩;have hB:Hid _:=kept_new L4.out (heap_any Xl2.out XRB.out);first
       |(have hX:Hid _:=kept_new L4.out (heap_new wr (mb 0 0));have LW:Hid (Below w.heap.size w w4):=(XLR.out.alloc XLR.out.size _).drew.trans (L4.out.mono (Nat.le_trans XLR.out.size (by simp)));have e0:w4.cell? ⟨wr.heap.size,0,none⟩=some (.int .i64 0):=cell_at hX.out 0;have e1:w4.cell? ⟨wr.heap.size,1,none⟩=some (.int .i64 0):=cell_at hX.out 1;have g0:w4.frozen? ⟨wr.heap.size,0,none⟩=false:=frozen_at hX.out 0;have g1:w4.frozen? ⟨wr.heap.size,1,none⟩=false:=frozen_at hX.out 1;have y0:w4.cell? ⟨w.heap.size+1,0,none⟩=some (.int .i64 0):=cell_at hB.out 0;have y1:w4.cell? ⟨w.heap.size+1,1,none⟩=some (.int .i64 0):=cell_at hB.out 1;have k0:w4.frozen? ⟨w.heap.size+1,0,none⟩=false:=frozen_at hB.out 0;have k1:w4.frozen? ⟨w.heap.size+1,1,none⟩=false:=frozen_at hB.out 1)
       |(have LW:Hid (Below w.heap.size w w4):=XLR.out.drew.trans (L4.out.mono XLR.out.size);have hB2:Hid _:=heap_old hB.out (mb r s);have y0:(w4.alloc (mb r s)).cell? ⟨w.heap.size+1,0,none⟩=some (.int .i64 0):=cell_at hB2.out 0;have y1:(w4.alloc (mb r s)).cell? ⟨w.heap.size+1,1,none⟩=some (.int .i64 0):=cell_at hB2.out 1;have z0:(w4.alloc (mb r s)).frozen? ⟨w.heap.size+1,0,none⟩=false:=frozen_at hB2.out 0;have z1:(w4.alloc (mb r s)).frozen? ⟨w.heap.size+1,1,none⟩=false:=frozen_at hB2.out 1;have hX:Hid True:=trivial)))
      all_goals
       go_wp2
       refine bodyPost_ret (v:=sv (r,s,(k:Int),true)) (by simp[results,Tryz.results24,go_sem,y0,y1,hn1,hn2]) rfl ?_
       rw[HN.out]
       refine⟨rfl,?_⟩
       first
        |with_reducible exact((LW.out.alloc LW.out.size _).setCell (Nat.le_succ _) _).setCell (Nat.le_succ _) _
        |with_reducible exact(((LW.out.setCell XLR.out.size _).setCell XLR.out.size _).setCell (Nat.le_succ _) _).setCell (Nat.le_succ _) _
    ·have HN:Hid (signV p q g x t zs=(0,0,-1,false)):=by
      have e:k=zs.length:=by omega
      subst e
      have:=HE.out.trans HS.out
      rw[List.drop_length]at this
      exact this
     have h0:wr.cell? ⟨w.heap.size+1,0,none⟩=some (.int .i64 0):=cell_at RB 0
     have h1:wr.cell? ⟨w.heap.size+1,1,none⟩=some (.int .i64 0):=cell_at RB 1
     have k0:wr.frozen? ⟨w.heap.size+1,0,none⟩=false:=frozen_at RB 0
     have k1:wr.frozen? ⟨w.heap.size+1,1,none⟩=false:=frozen_at RB 1
     go_wp2
     refine bodyPost_ret (v:=sv (0,0,-1,false)) (by simp[results,Tryz.results24,go_sem,h0,h1]) rfl ?_
     rw[HN.out]
     exact⟨rfl,(LR.setCell (by simp) _).setCell (by simp) _⟩
  ·have HE:Hid (_):=signV_no (p:=p) (q:=q) (g:=g) (x:=x) (t:=t) (zs:=zs) (Or.inr (by omega))
   have hd2:decide ((100:Int)<zs.length)=true:=by simp;omega
   clear h1 hs hq I
   go_enter Tryz.func24,Tryz.ntmps24
   go_wp2_with fail
   refine(specParamsOk_is p q g true H1.out _).mono ?_
   rintro e w3 ⟨rfl,L1⟩
   have hb:=L1.block _ ((Array.getElem?_eq_some_iff.1 b2).1)
   rw[b2]at hb
   have hc:=L1.block _ ((Array.getElem?_eq_some_iff.1 b1).1)
   rw[b1]at hc
   have L2:=L0.trans (L1.mono L0.size)
   have c0:w3.cell? ⟨w.heap.size,0,none⟩=some (.int .i64 p):=cell_at hc 0
   have c1:w3.cell? ⟨w.heap.size,1,none⟩=some (.int .i64 q):=cell_at hc 1
   have c2:w3.cell? ⟨w.heap.size,2,none⟩=some (.int .i64 g):=cell_at hc 2
   have d0:w3.cell? ⟨w.heap.size+1,0,none⟩=some (.int .i64 0):=cell_at hb 0
   have d1:w3.cell? ⟨w.heap.size+1,1,none⟩=some (.int .i64 0):=cell_at hb 1
   have f0:w3.frozen? ⟨w.heap.size+1,0,none⟩=false:=frozen_at hb 0
   have f1:w3.frozen? ⟨w.heap.size+1,1,none⟩=false:=frozen_at hb 1
   clear L0 b1 b2 L1 hb hc c0 c2
   go_wp2_with fail
   refine(specIn_is x 1 (q-1) true (decide_eq_true hx) _).mono ?_
   rintro e w2 ⟨rfl,rfl⟩
   go_wp2
   refine bodyPost_ret (v:=sv (0,0,-1,false)) (by simp[results,Tryz.results24,go_sem,d0,d1]) rfl ?_
   rw[HE.out]
   exact⟨rfl,(L2.setCell (by simp) _).setCell (by simp) _⟩

end Num
end Go.Proofs.YtcjgkmhpeedhiaaGreatDoor

/- The model's GetTicket. -/
import Derived.Test.YtcjgkmhpeedhiaaGreatDoorGtLegs
import Derived.Deep.RegionLaw
import Derived.Deep.RegionHeld3
import Derived.Deep.AppendLies
namespace Go.Proofs.YtcjgkmhpeedhiaaGreatDoor
namespace Gt
open Go.ChangeShapes Go.WideShapes Go.ChangeAt Go.RowKit
open Pk (own_at own_ge own_below own_form info_of new_below join_below heap_new lt_of kept cell_at heap_old frozen_at icells)
open Tk (Lg Hd Legs lgV tkV tkB okB putT putS p2V)
set_option linter.unusedSimpArgs false
set_option linter.unusedVariables false

set_option maxRecDepth 100000 in
set_option maxHeartbeats 16000000 in
theorem specGet_val (s:ByteArray) (w:World) (hs:s.size≤1048576) (SH:∀t nm ls,Good s t nm ls→Shape (split 10 s) t nm ls):
 Calls Tryz.prog 34 #[.string s] w fun e w'=>GetEnd s w.heap.size e w'∧Below w.heap.size w w':=by
 obtain⟨i0,hi,hz0,hz1,hz2⟩:=info_of Tk.info_leg
 have HSP:Hid (∀W,_):=fun W=>split_val 10 s W (by omega)
 have HLN:Hid (_):=splF_length 10 s s.size 0 0
 rw[show splF 10 s s.size 0 0=split 10 s from rfl]at HLN
 have HSZ:Hid (∀x∈split 10 s,_):=splF_size 10 s s.size 0 0
 have HSH:Hid (_):=SH
 clear SH
 generalize split 10 s=L at*
 have hl1:=HLN.out.1
 have hl2:L.length≤1048577:=by have:=HLN.out.2;omega
 clear HLN
 have N0:=new_below w (.cells #[.int .i64 0,.string ⟨#[]⟩,.int .i64 0,.int .i64 0,.int .i64 0,.int .i64 0,.slice none 0 0] 28)
 have m0:=heap_new w (.cells #[.int .i64 0,.string ⟨#[]⟩,.int .i64 0,.int .i64 0,.int .i64 0,.int .i64 0,.slice none 0 0] 28)
 go_enter Tryz.func34,Tryz.ntmps34
 go_wp2_with fail
 generalize w.alloc (.cells #[.int .i64 0,.string ⟨#[]⟩,.int .i64 0,.int .i64 0,.int .i64 0,.int .i64 0,.slice none 0 0] 28)=w0 at*
 rw[show(10:Int)=((10:UInt8).toNat:Int)from rfl]
 refine(HSP.out _).mono ?_
 rintro e w1 ⟨v,rfl,O1,L1⟩
 obtain⟨g,cap,rfl⟩:=own_pos O1 (by omega)
 obtain⟨cur,mg,tg,hgw,hcap,hcapM⟩:=own_blk O1
 have HC:Hid (∀W:World,W.heap[g]? =some (.cells cur 9)→∀k (h:k<L.length),W.cell? ⟨g,k,none⟩=some (.string (ln L k))):=by
  intro W hW k hk
  have h1:cur.toList[k]? =some (.string L[k]):=by
   have h2:=tcells_at L k hk
   rw[←tg,List.getElem?_take_of_lt hk]at h2
   exact h2
  have h3:=cell_at hW k
  rw[Array.getElem?_toList]at h1
  rw[h3,ln_at hk]
  exact h1
 have HLS:Hid (∀k,k<L.length→(ln L k).size≤1048576):=by
  intro k hk
  rw[ln_at hk]
  have:=HSZ.out _ (List.getElem_mem hk)
  omega
 have m1:=kept L1 (lt_of m0) m0
 have K1:=join_below N0 L1
 have hgR:w.heap.size<g:=by have:=lt_of m0;omega
 clear N0 m0 L1 O1 HSP HSZ tg
 have hg0:(0:Int)<(L.length:Int):=by omega
 by_cases h3:3≤L.length
 ·have hg1:(1:Int)<(L.length:Int):=by omega
  have h3I:¬(L.length:Int)<3:=by omega
  have l0:=HC.out _ mg 0 (by omega)
  have l1:=HC.out _ mg 1 (by omega)
  have z0:=HLS.out 0 (by omega)
  have z1:=HLS.out 1 (by omega)
  by_cases h5:5≤(ln L 1).size
  ·have h5I:¬((ln L 1).size:Int)<5:=by omega
   have HNU:Hid (∀W,_):=fun W=>nums_val (ln L 0) headW 5 W (by omega) (by decide) (by omega)
   rw[show headW=⟨#[104,101,97,100]⟩from rfl]at HNU
   rw[show((5:Nat):Int)=5 from rfl]at HNU
   go_wp2_with fail
   refine(HNU.out _).mono ?_
   rintro e w2 ⟨hE,L2⟩
   have m2:=kept L2 (lt_of m1) m1
   have mg2:=kept L2 (lt_of mg) mg
   have K2:=join_below K1 L2
   rcases hE with⟨hok,vx,rfl,Ox⟩|⟨hno,vx,rfl⟩
   ·have hnl:(numsL (ln L 0)).length=5:=by
     have:=hok.2.1
     unfold numsL
     rw[List.length_map,List.length_tail,this]
    obtain⟨gx,cx,rfl,-,hgx,hcx,-⟩:=own_cell Ox (by omega)
    obtain⟨nl,hnlE⟩:∃nl,numsL (ln L 0)=nl:=⟨_,rfl⟩
    rw[hnlE]at hnl hcx
    have HX:Hid (∀j,j<5→w2.cell? ⟨gx,j,none⟩=some (.int .i64 ((nl.getD j 0:Nat):Int))):=by
     intro j hj
     refine hcx j _ ?_
     rw[Pk.icells_at _ _ (by omega),List.getD_eq_getElem?_getD,List.getElem?_eq_getElem (by omega)]
     rfl
    have x0:=HX.out 0 (by omega)
    have x1:=HX.out 1 (by omega)
    have x2:=HX.out 2 (by omega)
    have x3:=HX.out 3 (by omega)
    have x4:=HX.out 4 (by omega)
    have l1:=HC.out _ mg2 1 (by omega)
    have NA:=new_below w2 (.cells #[.int .i64 0,.string ⟨#[]⟩,.int .i64 0,.int .i64 0,.int .i64 0,.int .i64 0,.slice none 0 0] 28)
    have lA:=HC.out _ (heap_old mg2 (.cells #[.int .i64 0,.string ⟨#[]⟩,.int .i64 0,.int .i64 0,.int .i64 0,.int .i64 0,.slice none 0 0] 28)) 1 (by omega)
    have HXA:Hid (∀j,j<5→(w2.alloc (.cells #[.int .i64 0,.string ⟨#[]⟩,.int .i64 0,.int .i64 0,.int .i64 0,.int .i64 0,.slice none 0 0] 28)).cell? ⟨gx,j,none⟩=some (.int .i64 ((nl.getD j 0:Nat):Int))):=by
     intro j hj
     rw[NA.cell (p:=⟨gx,j,none⟩) hgx]
     exact HX.out j hj
    have y0:=HXA.out 0 (by omega)
    have y1:=HXA.out 1 (by omega)
    have y2:=HXA.out 2 (by omega)
    have y3:=HXA.out 3 (by omega)
    have y4:=HXA.out 4 (by omega)
    have HHD:Hid (hdOf nl=⟨(nl.getD 0 0:Nat),(nl.getD 1 0:Nat),(nl.getD 2 0:Nat),(nl.getD 3 0:Nat),(nl.getD 4 0:Nat)⟩):=rfl
    generalize nl.getD 0 0=n0 at*
    generalize nl.getD 1 0=n1 at*
    generalize nl.getD 2 0=n2 at*
    generalize nl.getD 3 0=n3 at*
    generalize nl.getD 4 0=n4 at*
    obtain⟨nm,hnm⟩:∃nm,(ln L 1).extract 5 (ln L 1).size=nm:=⟨_,rfl⟩
    have hnz:nm.size≤1048576:=by rw[←hnm,ByteArray.size_extract];omega
    have h5J:(5:Int)≤((ln L 1).size:Int):=by omega
    clear m1 mg K1 L2 Ox hcx HX HXA HNU l0
    have e0:=World.new_ne w2 ⟨gx,0,none⟩ x0
    have e1:=World.new_ne w2 ⟨gx,1,none⟩ x1
    have e2:=World.new_ne w2 ⟨gx,2,none⟩ x2
    have e3:=World.new_ne w2 ⟨gx,3,none⟩ x3
    have e4:=World.new_ne w2 ⟨gx,4,none⟩ x4
    have e5:=World.new_ne w2 ⟨g,1,none⟩ l1
    go_wp2
    go_region_held3 (fun w'=>w'.cell? ⟨gx,0,none⟩=some (.int .i64 (n0:Int))∧w'.cell? ⟨gx,1,none⟩=some (.int .i64 (n1:Int))∧w'.cell? ⟨gx,2,none⟩=some (.int .i64 (n2:Int))∧w'.cell? ⟨gx,3,none⟩=some (.int .i64 (n3:Int))∧w'.cell? ⟨gx,4,none⟩=some (.int .i64 (n4:Int))∧w'.cell? ⟨g,1,none⟩=some (.string (ln L 1))) (go_keep) (fail)
    have mT:=heap_new w2 (.cells #[.int .i64 (n0:Int),.string nm,.int .i64 (n1:Int),.int .i64 (n2:Int),.int .i64 (n3:Int),.int .i64 (n4:Int),.slice none 0 0] 28)
    have NT:=new_below w2 (.cells #[.int .i64 (n0:Int),.string nm,.int .i64 (n1:Int),.int .i64 (n2:Int),.int .i64 (n3:Int),.int .i64 (n4:Int),.slice none 0 0] 28)
    have m3:=kept NT (lt_of m2) m2
    have mg3:=kept NT (lt_of mg2) mg2
    have K3:=join_below K2 NT
    have hTR:w2.heap.size≠w.heap.size:=by have:=lt_of m2;omega
    have hTge:w.heap.size≤w2.heap.size:=by have:=lt_of m2;omega
    have hTg:w2.heap.size≠g:=by have:=lt_of mg2;omega
    clear m2 mg2 K2 NT NA e0 e1 e2 e3 e4 e5 x0 x1 x2 x3 x4 y0 y1 y2 y3 y4 lA l1 hgx
    generalize w2.alloc (.cells #[.int .i64 (n0:Int),.string nm,.int .i64 (n1:Int),.int .i64 (n2:Int),.int .i64 (n3:Int),.int .i64 (n4:Int),.slice none 0 0] 28)=W3 at*
    generalize w2.heap.size=T at*
    go_wp2
    go_loopw [8] (fun i wr=>∃(k q:Nat) (a:Option Addr) (lc:Nat),Hid (q=k+2)∧q+1≤L.length∧i= .int .i64 q∧wr.heap[w.heap.size]? =some (.cells #[.int .i64 0,.string ⟨#[]⟩,.int .i64 0,.int .i64 0,.int .i64 0,.int .i64 0,.slice none 0 0] 28)∧wr.heap[g]? =some (.cells cur 9)∧wr.heap[T]? =some (.cells #[.int .i64 (n0:Int),.string nm,.int .i64 (n1:Int),.int .i64 (n2:Int),.int .i64 (n3:Int),.int .i64 (n4:Int),.slice a k lc] 28)∧wr.ownsRow w.heap.size 64 6 (.slice a k lc) k (lcells (legsL L k))∧Hid (∀j,j<k→NumsOk (ln L (j+2)) legW 6)∧Hid (Below w.heap.size w wr)) (fun i _=>L.length-(intOf i).toNat)
    case atStart=>exact⟨0,2,none,0,rfl,by omega,rfl,m3,mg3,mT,⟨rfl,Or.inl ⟨rfl,rfl⟩⟩,fun j hj=>absurd hj (by omega),K3.drew⟩
    case round=>
     clear m3 mg3 mT K3
     obtain⟨k,q,la,lc,HQ,hq,rfl,m4,mg4,mT4,O4,HN,K4⟩:=hrel
     have hlm:(L.length:Int)-1=((L.length-1:Nat):Int):=by omega
     by_cases hlt:q+1<L.length
     ·have hqI:(q:Int)<(L.length:Int)-1:=by omega
      have hqJ:(q:Int)<(L.length:Int):=by omega
      have lq:=HC.out _ mg4 q (by omega)
      have zq:=HLS.out q (by omega)
      have HNU:Hid (∀W,_):=fun W=>nums_val (ln L q) legW 6 W (by omega) (by decide) (by omega)
      rw[show legW=⟨#[108,101,103]⟩from rfl]at HNU
      rw[show((6:Nat):Int)=6 from rfl]at HNU
      go_wp2_with fail
      refine(HNU.out _).mono ?_
      rintro e w5 ⟨hE,L5⟩
      have m5:=kept L5 (lt_of m4) m4
      have mg5:=kept L5 (lt_of mg4) mg4
      have mT5:=kept L5 (lt_of mT4) mT4
      have O5:=own_below O4 L5 (Nat.le_refl _)
      have K5:=join_below K4.out L5
      have hTw:T<wr.heap.size:=lt_of mT4
      have HLT:Hid (∀k',(Value.slice la k lc).ownBlock=some k'→k'<wr.heap.size):=fun k' h=>(O4.lt k' h).2
      clear m4 mg4 mT4 O4 K4 HNU lq
      rcases hE with⟨hok6,vx6,rfl,Ox⟩|⟨hno,vx6,rfl⟩
      ·have hnl6:(numsL (ln L q)).length=6:=by
        have:=hok6.2.1
        unfold numsL
        rw[List.length_map,List.length_tail,this]
       obtain⟨hx,cx6,rfl,hwx,hgx6,hcx6,-⟩:=own_cell Ox (by omega)
       obtain⟨nl6,hnlE6⟩:∃nl,numsL (ln L q)=nl:=⟨_,rfl⟩
       rw[hnlE6]at hnl6 hcx6
       have HX:Hid (∀j,j<6→w5.cell? ⟨hx,j,none⟩=some (.int .i64 ((nl6.getD j 0:Nat):Int))):=by
        intro j hj
        refine hcx6 j _ ?_
        rw[Pk.icells_at _ _ (by omega),List.getD_eq_getElem?_getD,List.getElem?_eq_getElem (by omega)]
        rfl
       have x0:=HX.out 0 (by omega)
       have x1:=HX.out 1 (by omega)
       have x2:=HX.out 2 (by omega)
       have x3:=HX.out 3 (by omega)
       have x4:=HX.out 4 (by omega)
       have x5:=HX.out 5 (by omega)
       have HLG:Hid (lgOf nl6=⟨(nl6.getD 0 0:Nat),(nl6.getD 1 0:Nat),(nl6.getD 2 0:Nat),(nl6.getD 3 0:Nat),(nl6.getD 4 0:Nat),(nl6.getD 5 0:Nat)⟩):=rfl
       generalize nl6.getD 0 0=p0 at*
       generalize nl6.getD 1 0=p1 at*
       generalize nl6.getD 2 0=p2 at*
       generalize nl6.getD 3 0=p3 at*
       generalize nl6.getD 4 0=p4 at*
       generalize nl6.getD 5 0=p5 at*
       have HN2:Hid (∀j,j<k+1→NumsOk (ln L (j+2)) legW 6):=by
        intro j hj
        by_cases e:j=k
        ·subst e
         rw[show j+2=q from by have:=HQ.out;omega]
         exact hok6
        ·exact HN.out j (by omega)
       have HLS2:Hid (legsL L (k+1)=legsL L k++ [⟨p0,p1,p2,p3,p4,p5⟩]):=by
        show _=_
        rw[legsL_step,show k+2=q from by have:=HQ.out;omega,hnlE6,HLG.out]
       have tx:w5.cell? ⟨T,6,none⟩=some (.slice la k lc):=cell_at mT5 6
       have tf:w5.frozen? ⟨T,6,none⟩=false:=frozen_at mT5 6
       have txA:(w5.alloc (.cells #[.int .i64 (p0:Int),.int .i64 (p1:Int),.int .i64 (p2:Int),.int .i64 (p3:Int),.int .i64 (p4:Int),.int .i64 (p5:Int)] 64)).cell? ⟨T,6,none⟩=some (.slice la k lc):=cell_at (heap_old mT5 _) 6
       have hTx:T≠hx:=by omega
       have eT:=World.new_ne w5 ⟨T,6,none⟩ tx
       have e0:=World.new_ne w5 ⟨hx,0,none⟩ x0
       have aT:(Value.slice la k lc).ownBlock≠some T:=Pk.own_ne' O5 mT5 (by decide)
       have aX:(Value.slice la k lc).ownBlock≠some hx:=fun h=>by have:=HLT.out hx h;omega
       have aR:(Value.slice la k lc).ownBlock≠some w.heap.size:=Pk.own_ne' O5 m5 (by decide)
       have aG:(Value.slice la k lc).ownBlock≠some g:=Pk.own_ne' O5 mg5 (by decide)
       have htl:T<w5.heap.size:=lt_of mT5
       have hkm:k+1≤maxLen:=by unfold maxLen;have:=HQ.out;omega
       have hkb:(k+1)*48≤140737488355328:=by have:=HQ.out;omega
       have hbs:w.heap.size≤w5.heap.size:=K5.size
       go_wp2
       refine wp_region_held_drew (S:=(fun w'=>w'.cell? ⟨hx,0,none⟩=some (.int .i64 (p0:Int))∧w'.cell? ⟨hx,1,none⟩=some (.int .i64 (p1:Int))∧w'.cell? ⟨hx,2,none⟩=some (.int .i64 (p2:Int))∧w'.cell? ⟨hx,3,none⟩=some (.int .i64 (p3:Int))∧w'.cell? ⟨hx,4,none⟩=some (.int .i64 (p4:Int))∧w'.cell? ⟨hx,5,none⟩=some (.int .i64 (p5:Int)))) (by kernel_rfl) ?_ (fun hHeld=> ?_)
       ·exact⟨x0,x1,x2,x3,x4,x5⟩
       refine wpAnyH_take (i:=0) (v:= ?_) rfl (by kernel_rfl) (by kernel_rfl) (by kernel_rfl) (fun _ _ _ h=>h) (Or.inl ⟨by rfl,?_⟩) (by assumption) ?_
       rotate_left 1
       ·(intro wS hSw;(try dsimp only at hSw);go_simp;try (with_reducible rfl))
       (try simp only[Act.put,List.setIfInBounds_toArray,List.set_cons_zero,List.set_cons_succ])
       refine wpAnyH_take (i:=2) (v:= ?_) rfl (by kernel_rfl) (by kernel_rfl) (by kernel_rfl) (fun _ _ _ h=>h) (Or.inl ⟨by rfl,?_⟩) (by assumption) ?_
       rotate_left 1
       ·(intro wS hSw;(try dsimp only at hSw);go_simp;try (with_reducible rfl))
       (try simp only[Act.put,List.setIfInBounds_toArray,List.set_cons_zero,List.set_cons_succ])
       refine wpAnyH_take (i:=3) (v:= ?_) rfl (by kernel_rfl) (by kernel_rfl) (by kernel_rfl) (fun _ _ _ h=>h) (Or.inl ⟨by rfl,?_⟩) (by assumption) ?_
       rotate_left 1
       ·(intro wS hSw;(try dsimp only at hSw);go_simp;try (with_reducible rfl))
       (try simp only[Act.put,List.setIfInBounds_toArray,List.set_cons_zero,List.set_cons_succ])
       refine wpAnyH_take (i:=4) (v:= ?_) rfl (by kernel_rfl) (by kernel_rfl) (by kernel_rfl) (fun _ _ _ h=>h) (Or.inl ⟨by rfl,?_⟩) (by assumption) ?_
       rotate_left 1
       ·(intro wS hSw;(try dsimp only at hSw);go_simp;try (with_reducible rfl))
       (try simp only[Act.put,List.setIfInBounds_toArray,List.set_cons_zero,List.set_cons_succ])
       refine wpAnyH_take (i:=5) (v:= ?_) rfl (by kernel_rfl) (by kernel_rfl) (by kernel_rfl) (fun _ _ _ h=>h) (Or.inl ⟨by rfl,?_⟩) (by assumption) ?_
       rotate_left 1
       ·(intro wS hSw;(try dsimp only at hSw);go_simp;try (with_reducible rfl))
       (try simp only[Act.put,List.setIfInBounds_toArray,List.set_cons_zero,List.set_cons_succ])
       refine wpAnyH_take (i:=6) (v:= ?_) rfl (by kernel_rfl) (by kernel_rfl) (by kernel_rfl) (fun _ _ _ h=>h) (Or.inl ⟨by rfl,?_⟩) (by assumption) ?_
       rotate_left 1
       ·(intro wS hSw;(try dsimp only at hSw);go_simp;try (with_reducible rfl))
       (try simp only[Act.put,List.setIfInBounds_toArray,List.set_cons_zero,List.set_cons_succ])
       refine wpAnyH_take (i:=7) (v:= ?_) rfl (by kernel_rfl) (by kernel_rfl) (by kernel_rfl) (fun _ _ _ h=>h) (Or.inl ⟨by rfl,?_⟩) (by assumption) ?_
       rotate_left 1
       ·(intro wS hSw;(try dsimp only at hSw);go_simp;try (with_reducible rfl))
       (try simp only[Act.put,List.setIfInBounds_toArray,List.set_cons_zero,List.set_cons_succ])
       refine wpAnyH_take (i:=8) (v:= ?_) rfl (by kernel_rfl) (by kernel_rfl) (by kernel_rfl) (fun _ _ _ h=>h) (Or.inl ⟨by rfl,?_⟩) (by assumption) ?_
       rotate_left 1
       ·(intro wS hSw;(try dsimp only at hSw);go_simp;try (with_reducible rfl))
       (try simp only[Act.put,List.setIfInBounds_toArray,List.set_cons_zero,List.set_cons_succ])
       refine wpAnyH_take (i:=9) (v:= ?_) rfl (by kernel_rfl) (by kernel_rfl) (by kernel_rfl) (fun _ _ _ h=>h) (Or.inl ⟨by rfl,?_⟩) (by assumption) ?_
       rotate_left 1
       ·(intro wS hSw;(try dsimp only at hSw);go_simp;try (with_reducible rfl))
       (try simp only[Act.put,List.setIfInBounds_toArray,List.set_cons_zero,List.set_cons_succ])
       refine wpAnyH_take (i:=10) (v:= ?_) rfl (by kernel_rfl) (by kernel_rfl) (by kernel_rfl) (fun _ _ _ h=>h) (Or.inl ⟨by rfl,?_⟩) (by assumption) ?_
       rotate_left 1
       ·(intro wS hSw;(try dsimp only at hSw);go_simp;try (with_reducible rfl))
       (try simp only[Act.put,List.setIfInBounds_toArray,List.set_cons_zero,List.set_cons_succ])
       refine wpAnyH_take (i:=11) (v:= ?_) rfl (by kernel_rfl) (by kernel_rfl) (by kernel_rfl) (fun _ _ _ h=>h) (Or.inl ⟨by rfl,?_⟩) (by assumption) ?_
       rotate_left 1
       ·(intro wS hSw;(try dsimp only at hSw);go_simp;try (with_reducible rfl))
       (try simp only[Act.put,List.setIfInBounds_toArray,List.set_cons_zero,List.set_cons_succ])
       refine wpAnyH_take (i:=12) (v:= ?_) rfl (by kernel_rfl) (by kernel_rfl) (by kernel_rfl) (fun _ _ _ h=>h) (Or.inl ⟨by rfl,?_⟩) (by assumption) ?_
       rotate_left 1
       ·(intro wS hSw;(try dsimp only at hSw);go_simp;try (with_reducible rfl))
       (try simp only[Act.put,List.setIfInBounds_toArray,List.set_cons_zero,List.set_cons_succ])
       refine wpAnyH_take (i:=13) (v:= ?_) rfl (by kernel_rfl) (by kernel_rfl) (by kernel_rfl) (fun _ _ _ h=>h) (Or.inl ⟨by rfl,?_⟩) (by assumption) ?_
       rotate_left 1
       ·(intro wS hSw;(try dsimp only at hSw);go_simp;try (with_reducible rfl))
       (try simp only[Act.put,List.setIfInBounds_toArray,List.set_cons_zero,List.set_cons_succ])
       refine wpAnyH_take (i:=14) (v:= ?_) rfl (by kernel_rfl) (by kernel_rfl) (by kernel_rfl) (fun _ _ _ h=>h) (Or.inl ⟨by rfl,?_⟩) (by assumption) ?_
       rotate_left 1
       ·(intro wS hSw;(try dsimp only at hSw);go_simp;try (with_reducible rfl))
       (try simp only[Act.put,List.setIfInBounds_toArray,List.set_cons_zero,List.set_cons_succ])
       refine wpAnyH_take (i:=15) (v:= ?_) rfl (by kernel_rfl) (by kernel_rfl) (by kernel_rfl) (fun _ _ _ h=>h) (Or.inl ⟨by rfl,?_⟩) (by assumption) ?_
       rotate_left 1
       ·(intro wS hSw;(try dsimp only at hSw);go_simp;try (with_reducible rfl))
       (try simp only[Act.put,List.setIfInBounds_toArray,List.set_cons_zero,List.set_cons_succ])
       refine wpAnyH_take (i:=16) (v:= ?_) rfl (by kernel_rfl) (by kernel_rfl) (by kernel_rfl) (fun _ _ _ h=>h) (Or.inl ⟨by rfl,?_⟩) (by assumption) ?_
       rotate_left 1
       ·(intro wS hSw;(try dsimp only at hSw);go_simp;try (with_reducible rfl))
       (try simp only[Act.put,List.setIfInBounds_toArray,List.set_cons_zero,List.set_cons_succ])
       refine wpAnyH_take (i:=17) (v:= ?_) rfl (by kernel_rfl) (by kernel_rfl) (by kernel_rfl) (fun _ _ _ h=>h) (Or.inl ⟨by rfl,?_⟩) (by assumption) ?_
       rotate_left 1
       ·(intro wS hSw;(try dsimp only at hSw);go_simp;try (with_reducible rfl))
       (try simp only[Act.put,List.setIfInBounds_toArray,List.set_cons_zero,List.set_cons_succ])
       refine wpAnyH_take (i:=18) (v:= ?_) rfl (by kernel_rfl) (by kernel_rfl) (by kernel_rfl) (fun _ _ _ h=>h) (Or.inl ⟨by rfl,?_⟩) (by assumption) ?_
       rotate_left 1
       ·(intro wS hSw;(try dsimp only at hSw);go_simp;try (with_reducible rfl))
       (try simp only[Act.put,List.setIfInBounds_toArray,List.set_cons_zero,List.set_cons_succ])
       refine wpAnyH_take (i:=19) (v:= ?_) rfl (by kernel_rfl) (by kernel_rfl) (by kernel_rfl) (fun _ _ _ h=>h) (Or.inl ⟨by rfl,?_⟩) (by assumption) ?_
       rotate_left 1
       ·(intro wS hSw;(try dsimp only at hSw);go_simp;try (with_reducible rfl))
       (try simp only[Act.put,List.setIfInBounds_toArray,List.set_cons_zero,List.set_cons_succ])
       refine wpAnyH_take (i:=20) (v:= ?_) rfl (by kernel_rfl) (by kernel_rfl) (by kernel_rfl) (fun _ _ _ h=>h) (Or.inl ⟨by rfl,?_⟩) (by assumption) ?_
       rotate_left 1
       ·(intro wS hSw;(try dsimp only at hSw);go_simp;try (with_reducible rfl))
       (try simp only[Act.put,List.setIfInBounds_toArray,List.set_cons_zero,List.set_cons_succ])
       have yy0:(w5.alloc (.cells #[.int .i64 (p0:Int),.int .i64 (p1:Int),.int .i64 (p2:Int),.int .i64 (p3:Int),.int .i64 (p4:Int),.int .i64 (p5:Int)] 64)).cell? ⟨hx,0,none⟩=some (.int .i64 (p0:Int)):=by rw[(new_below w5 _).cell (p:=⟨hx,0,none⟩) hgx6];exact x0
       have yy1:(w5.alloc (.cells #[.int .i64 (p0:Int),.int .i64 (p1:Int),.int .i64 (p2:Int),.int .i64 (p3:Int),.int .i64 (p4:Int),.int .i64 (p5:Int)] 64)).cell? ⟨hx,1,none⟩=some (.int .i64 (p1:Int)):=by rw[(new_below w5 _).cell (p:=⟨hx,1,none⟩) hgx6];exact x1
       have yy2:(w5.alloc (.cells #[.int .i64 (p0:Int),.int .i64 (p1:Int),.int .i64 (p2:Int),.int .i64 (p3:Int),.int .i64 (p4:Int),.int .i64 (p5:Int)] 64)).cell? ⟨hx,2,none⟩=some (.int .i64 (p2:Int)):=by rw[(new_below w5 _).cell (p:=⟨hx,2,none⟩) hgx6];exact x2
       have yy3:(w5.alloc (.cells #[.int .i64 (p0:Int),.int .i64 (p1:Int),.int .i64 (p2:Int),.int .i64 (p3:Int),.int .i64 (p4:Int),.int .i64 (p5:Int)] 64)).cell? ⟨hx,3,none⟩=some (.int .i64 (p3:Int)):=by rw[(new_below w5 _).cell (p:=⟨hx,3,none⟩) hgx6];exact x3
       have yy4:(w5.alloc (.cells #[.int .i64 (p0:Int),.int .i64 (p1:Int),.int .i64 (p2:Int),.int .i64 (p3:Int),.int .i64 (p4:Int),.int .i64 (p5:Int)] 64)).cell? ⟨hx,4,none⟩=some (.int .i64 (p4:Int)):=by rw[(new_below w5 _).cell (p:=⟨hx,4,none⟩) hgx6];exact x4
       have yy5:(w5.alloc (.cells #[.int .i64 (p0:Int),.int .i64 (p1:Int),.int .i64 (p2:Int),.int .i64 (p3:Int),.int .i64 (p4:Int),.int .i64 (p5:Int)] 64)).cell? ⟨hx,5,none⟩=some (.int .i64 (p5:Int)):=by rw[(new_below w5 _).cell (p:=⟨hx,5,none⟩) hgx6];exact x5
       refine wpAnyH_ready (rs:= [1,21]) (by kernel_rfl) (by simp) ?_
       refine AllReadyH.cons rfl (fun K hK=> ?_) ?_
       ·go_simp
        refine hK.out _ _ ?_ (fun hHeld=> ?_)
        ·exact⟨x0,x1,x2,x3,x4,x5⟩
        clear hK K
        (try simp only[Act.put,List.setIfInBounds_toArray,List.set_cons_zero,List.set_cons_succ])
        refine wpAnyH_ready (rs:= [21]) (by kernel_rfl) (by simp) ?_
        refine AllReadyH.cons rfl (fun K hK=> ?_) AllReadyH.nil
        go_simp
        refine hK.out _ _ ?_ (fun hHeld=> ?_)
        ·exact⟨yy0,yy1,yy2,yy3,yy4,yy5⟩
        clear hK K
        (try simp only[Act.put,List.setIfInBounds_toArray,List.set_cons_zero,List.set_cons_succ])
        refine wpAnyH_ready (rs:= [22]) (by kernel_rfl) (by simp) ?_
        refine AllReadyH.cons rfl (fun K hK=> ?_) AllReadyH.nil
        refine step_append_lies _ (by rfl) _ _ _ (by rfl) w.heap.size 64 i0 _ 6 48 Tryz.underlying26 hi hz0 hz1 hz2 rfl (by omega) (.slice la k lc) k (lcells (legsL L k)) (by rfl) ((O5.alloc _).drew) ⟨w5.heap.size,0,none⟩ 1 1 (lc1 ⟨p0,p1,p2,p3,p4,p5⟩) (by rfl) (by rfl) (World.news_of_block (cs:= #[.int .i64 (p0:Int),.int .i64 (p1:Int),.int .i64 (p2:Int),.int .i64 (p3:Int),.int .i64 (p4:Int),.int .i64 (p5:Int)]) (t:=64) (fr:=(0,0)) (heap_alloc_new w5 _)) (by simp[lc1,Value.oneCell']) (by omega) hkm hkb (by simp;omega) (w5.heap.size+1) (by simp) ?_
        intro gg cap6 w6 hown1 hgrow hat hlt
        have mT6:w6.heap[T]? =some (.cells #[.int .i64 (n0:Int),.string nm,.int .i64 (n1:Int),.int .i64 (n2:Int),.int .i64 (n3:Int),.int .i64 (n4:Int),.slice la k lc] 28):=(by rw[hgrow.block T (by simp;omega) (Ne.symm aT)];exact heap_old mT5 _)
        have tf6:w6.frozen? ⟨T,6,none⟩=false:=frozen_at mT6 6
        have tx6:w6.cell? ⟨T,6,none⟩=some (.slice la k lc):=cell_at mT6 6
        have q0:w6.cell? ⟨hx,0,none⟩=some (.int .i64 (p0:Int)):=(by rw[hgrow.cell_far _ (by simp;omega) (Ne.symm aX)];exact yy0)
        have q1:w6.cell? ⟨hx,1,none⟩=some (.int .i64 (p1:Int)):=(by rw[hgrow.cell_far _ (by simp;omega) (Ne.symm aX)];exact yy1)
        have q2:w6.cell? ⟨hx,2,none⟩=some (.int .i64 (p2:Int)):=(by rw[hgrow.cell_far _ (by simp;omega) (Ne.symm aX)];exact yy2)
        have q3:w6.cell? ⟨hx,3,none⟩=some (.int .i64 (p3:Int)):=(by rw[hgrow.cell_far _ (by simp;omega) (Ne.symm aX)];exact yy3)
        have q4:w6.cell? ⟨hx,4,none⟩=some (.int .i64 (p4:Int)):=(by rw[hgrow.cell_far _ (by simp;omega) (Ne.symm aX)];exact yy4)
        have q5:w6.cell? ⟨hx,5,none⟩=some (.int .i64 (p5:Int)):=(by rw[hgrow.cell_far _ (by simp;omega) (Ne.symm aX)];exact yy5)
        refine hK.out _ _ ?_ (fun hHeld=> ?_)
        ·exact⟨q0,q1,q2,q3,q4,q5⟩
        clear hK K
        (try simp only[Act.put,List.setIfInBounds_toArray,List.set_cons_zero,List.set_cons_succ])
        refine wpAnyH_take (i:=23) (v:= ?_) rfl (by kernel_rfl) (by kernel_rfl) (by kernel_rfl) (fun _ _ _ h=>h) (Or.inl ⟨by rfl,?_⟩) (by assumption) ?_
        rotate_left 1
        ·(intro wS hSw;(try dsimp only at hSw);go_simp;try (with_reducible rfl))
        (try simp only[Act.put,List.setIfInBounds_toArray,List.set_cons_zero,List.set_cons_succ])
        refine wpAnyH_ready (rs:= [24]) (by kernel_rfl) (by simp) ?_
        refine AllReadyH.cons rfl (fun K hK=> ?_) AllReadyH.nil
        go_simp
        refine hK.out _ _ ?_ (fun hHeld=> ?_)
        ·exact⟨by rw[Tk.cell_other (Ne.symm hTx)];exact q0,by rw[Tk.cell_other (Ne.symm hTx)];exact q1,by rw[Tk.cell_other (Ne.symm hTx)];exact q2,by rw[Tk.cell_other (Ne.symm hTx)];exact q3,by rw[Tk.cell_other (Ne.symm hTx)];exact q4,by rw[Tk.cell_other (Ne.symm hTx)];exact q5⟩
        clear hK K
        (try simp only[Act.put,List.setIfInBounds_toArray,List.set_cons_zero,List.set_cons_succ])
        refine wpAnyH_done (by kernel_rfl) ?_ _
        have hgT:gg≠T:=by
         rintro rfl
         rcases hat with h|h
         ·exact aT h
         ·omega
        have mR6:w6.heap[w.heap.size]? =some (.cells #[.int .i64 0,.string ⟨#[]⟩,.int .i64 0,.int .i64 0,.int .i64 0,.int .i64 0,.slice none 0 0] 28):=(by rw[hgrow.block w.heap.size (by have:=lt_of m5;simp;omega) (Ne.symm aR)];exact heap_old m5 _)
        have mg6:w6.heap[g]? =some (.cells cur 9):=(by rw[hgrow.block g (by have:=lt_of mg5;simp;omega) (Ne.symm aG)];exact heap_old mg5 _)
        have mR7:=Tk.h_other (i:=6) mR6 (Ne.symm hTR) (.slice (some ⟨gg,0,none⟩) (k+1) cap6)
        have mg7:=Tk.h_other (i:=6) mg6 (Ne.symm hTg) (.slice (some ⟨gg,0,none⟩) (k+1) cap6)
        have mT7:=Tk.h_set (i:=6) mT6 (.slice (some ⟨gg,0,none⟩) (k+1) cap6)
        have O7:=own_off (b:=T) (i:=6) hown1 hgT (.slice (some ⟨gg,0,none⟩) (k+1) cap6)
        rw[lcells_snoc,←HLS2.out]at O7
        have K6:Below w.heap.size w w6:=(K5.alloc hbs _).drew.grown hgrow (by simp;omega) (fun m h=>own_ge O5 m h)
        have K7:=K6.setCell (p:=⟨T,6,none⟩) (by show w.heap.size≤T;omega) (.slice (some ⟨gg,0,none⟩) (k+1) cap6)
        go_wp2
        go_roundw
        case rel=>exact⟨k+1,q+1,_,_,by show _=_;have:=HQ.out;omega,by omega,by go_num,mR7,mg7,mT7,O7,HN2,K7⟩
        case measure=>simp[intOf];omega
       refine AllReadyH.cons rfl (fun K hK=> ?_) AllReadyH.nil
       go_simp
       refine hK.out _ _ ?_ (fun hHeld=> ?_)
       ·exact⟨yy0,yy1,yy2,yy3,yy4,yy5⟩
       clear hK K
       (try simp only[Act.put,List.setIfInBounds_toArray,List.set_cons_zero,List.set_cons_succ])
       refine wpAnyH_ready (rs:= [1]) (by kernel_rfl) (by simp) ?_
       refine AllReadyH.cons rfl (fun K hK=> ?_) AllReadyH.nil
       go_simp
       refine hK.out _ _ ?_ (fun hHeld=> ?_)
       ·exact⟨yy0,yy1,yy2,yy3,yy4,yy5⟩
       clear hK K
       (try simp only[Act.put,List.setIfInBounds_toArray,List.set_cons_zero,List.set_cons_succ])
       refine wpAnyH_ready (rs:= [22]) (by kernel_rfl) (by simp) ?_
       refine AllReadyH.cons rfl (fun K hK=> ?_) AllReadyH.nil
       refine step_append_lies _ (by rfl) _ _ _ (by rfl) w.heap.size 64 i0 _ 6 48 Tryz.underlying26 hi hz0 hz1 hz2 rfl (by omega) (.slice la k lc) k (lcells (legsL L k)) (by rfl) ((O5.alloc _).drew) ⟨w5.heap.size,0,none⟩ 1 1 (lc1 ⟨p0,p1,p2,p3,p4,p5⟩) (by rfl) (by rfl) (World.news_of_block (cs:= #[.int .i64 (p0:Int),.int .i64 (p1:Int),.int .i64 (p2:Int),.int .i64 (p3:Int),.int .i64 (p4:Int),.int .i64 (p5:Int)]) (t:=64) (fr:=(0,0)) (heap_alloc_new w5 _)) (by simp[lc1,Value.oneCell']) (by omega) hkm hkb (by simp;omega) (w5.heap.size+1) (by simp) ?_
       intro gg cap6 w6 hown1 hgrow hat hlt
       have mT6:w6.heap[T]? =some (.cells #[.int .i64 (n0:Int),.string nm,.int .i64 (n1:Int),.int .i64 (n2:Int),.int .i64 (n3:Int),.int .i64 (n4:Int),.slice la k lc] 28):=(by rw[hgrow.block T (by simp;omega) (Ne.symm aT)];exact heap_old mT5 _)
       have tf6:w6.frozen? ⟨T,6,none⟩=false:=frozen_at mT6 6
       have tx6:w6.cell? ⟨T,6,none⟩=some (.slice la k lc):=cell_at mT6 6
       have q0:w6.cell? ⟨hx,0,none⟩=some (.int .i64 (p0:Int)):=(by rw[hgrow.cell_far _ (by simp;omega) (Ne.symm aX)];exact yy0)
       have q1:w6.cell? ⟨hx,1,none⟩=some (.int .i64 (p1:Int)):=(by rw[hgrow.cell_far _ (by simp;omega) (Ne.symm aX)];exact yy1)
       have q2:w6.cell? ⟨hx,2,none⟩=some (.int .i64 (p2:Int)):=(by rw[hgrow.cell_far _ (by simp;omega) (Ne.symm aX)];exact yy2)
       have q3:w6.cell? ⟨hx,3,none⟩=some (.int .i64 (p3:Int)):=(by rw[hgrow.cell_far _ (by simp;omega) (Ne.symm aX)];exact yy3)
       have q4:w6.cell? ⟨hx,4,none⟩=some (.int .i64 (p4:Int)):=(by rw[hgrow.cell_far _ (by simp;omega) (Ne.symm aX)];exact yy4)
       have q5:w6.cell? ⟨hx,5,none⟩=some (.int .i64 (p5:Int)):=(by rw[hgrow.cell_far _ (by simp;omega) (Ne.symm aX)];exact yy5)
       refine hK.out _ _ ?_ (fun hHeld=> ?_)
       ·exact⟨q0,q1,q2,q3,q4,q5⟩
       clear hK K
       (try simp only[Act.put,List.setIfInBounds_toArray,List.set_cons_zero,List.set_cons_succ])
       refine wpAnyH_take (i:=23) (v:= ?_) rfl (by kernel_rfl) (by kernel_rfl) (by kernel_rfl) (fun _ _ _ h=>h) (Or.inl ⟨by rfl,?_⟩) (by assumption) ?_
       rotate_left 1
       ·(intro wS hSw;(try dsimp only at hSw);go_simp;try (with_reducible rfl))
       (try simp only[Act.put,List.setIfInBounds_toArray,List.set_cons_zero,List.set_cons_succ])
       refine wpAnyH_ready (rs:= [24]) (by kernel_rfl) (by simp) ?_
       refine AllReadyH.cons rfl (fun K hK=> ?_) AllReadyH.nil
       go_simp
       refine hK.out _ _ ?_ (fun hHeld=> ?_)
       ·exact⟨by rw[Tk.cell_other (Ne.symm hTx)];exact q0,by rw[Tk.cell_other (Ne.symm hTx)];exact q1,by rw[Tk.cell_other (Ne.symm hTx)];exact q2,by rw[Tk.cell_other (Ne.symm hTx)];exact q3,by rw[Tk.cell_other (Ne.symm hTx)];exact q4,by rw[Tk.cell_other (Ne.symm hTx)];exact q5⟩
       clear hK K
       (try simp only[Act.put,List.setIfInBounds_toArray,List.set_cons_zero,List.set_cons_succ])
       refine wpAnyH_done (by kernel_rfl) ?_ _
       have hgT:gg≠T:=by
        rintro rfl
        rcases hat with h|h
        ·exact aT h
        ·omega
       have mR6:w6.heap[w.heap.size]? =some (.cells #[.int .i64 0,.string ⟨#[]⟩,.int .i64 0,.int .i64 0,.int .i64 0,.int .i64 0,.slice none 0 0] 28):=(by rw[hgrow.block w.heap.size (by have:=lt_of m5;simp;omega) (Ne.symm aR)];exact heap_old m5 _)
       have mg6:w6.heap[g]? =some (.cells cur 9):=(by rw[hgrow.block g (by have:=lt_of mg5;simp;omega) (Ne.symm aG)];exact heap_old mg5 _)
       have mR7:=Tk.h_other (i:=6) mR6 (Ne.symm hTR) (.slice (some ⟨gg,0,none⟩) (k+1) cap6)
       have mg7:=Tk.h_other (i:=6) mg6 (Ne.symm hTg) (.slice (some ⟨gg,0,none⟩) (k+1) cap6)
       have mT7:=Tk.h_set (i:=6) mT6 (.slice (some ⟨gg,0,none⟩) (k+1) cap6)
       have O7:=own_off (b:=T) (i:=6) hown1 hgT (.slice (some ⟨gg,0,none⟩) (k+1) cap6)
       rw[lcells_snoc,←HLS2.out]at O7
       have K6:Below w.heap.size w w6:=(K5.alloc hbs _).drew.grown hgrow (by simp;omega) (fun m h=>own_ge O5 m h)
       have K7:=K6.setCell (p:=⟨T,6,none⟩) (by show w.heap.size≤T;omega) (.slice (some ⟨gg,0,none⟩) (k+1) cap6)
       go_wp2
       go_roundw
       case rel=>exact⟨k+1,q+1,_,_,by show _=_;have:=HQ.out;omega,by omega,by go_num,mR7,mg7,mT7,O7,HN2,K7⟩
       case measure=>simp[intOf];omega
      ·have a0:w5.cell? ⟨w.heap.size,0,none⟩=some (.int .i64 0):=cell_at m5 0
       have a1:w5.cell? ⟨w.heap.size,1,none⟩=some (.string ⟨#[]⟩):=cell_at m5 1
       have a2:w5.cell? ⟨w.heap.size,2,none⟩=some (.int .i64 0):=cell_at m5 2
       have a3:w5.cell? ⟨w.heap.size,3,none⟩=some (.int .i64 0):=cell_at m5 3
       have a4:w5.cell? ⟨w.heap.size,4,none⟩=some (.int .i64 0):=cell_at m5 4
       have a5:w5.cell? ⟨w.heap.size,5,none⟩=some (.int .i64 0):=cell_at m5 5
       have a6:w5.cell? ⟨w.heap.size,6,none⟩=some (.slice none 0 0):=cell_at m5 6
       have r0:w5.frozen? ⟨w.heap.size,0,none⟩=false:=frozen_at m5 0
       have r1:w5.frozen? ⟨w.heap.size,1,none⟩=false:=frozen_at m5 1
       have r2:w5.frozen? ⟨w.heap.size,2,none⟩=false:=frozen_at m5 2
       have r3:w5.frozen? ⟨w.heap.size,3,none⟩=false:=frozen_at m5 3
       have r4:w5.frozen? ⟨w.heap.size,4,none⟩=false:=frozen_at m5 4
       have r5:w5.frozen? ⟨w.heap.size,5,none⟩=false:=frozen_at m5 5
       have r6:w5.frozen? ⟨w.heap.size,6,none⟩=false:=frozen_at m5 6
       have HNG:Hid (∀t nm ls,¬Good s t nm ls):=fun t nm2 ls h=>hno (by have h1:=(HSH.out t nm2 ls h).leg k (by have:=(HSH.out t nm2 ls h).len;have:=HQ.out;omega);rw[show k+2=q from by have:=HQ.out;omega]at h1;exact h1)
       go_wp2
       refine bodyPost_ret (v:= .tuple #[tkV ⟨0,0,0,0,0⟩ ⟨#[]⟩ none 0 0,.bool false]) (by simp[results,Tryz.results34,go_sem,a0,a1,a2,a3,a4,a5,a6]) rfl ?_
       refine⟨Or.inr ⟨HNG.out,rfl⟩,?_⟩
       (repeat' (first|apply Below.setCell|exact K5))<;>first|(simp;done)|(simp;omega)
     ·obtain rfl:q=L.length-1:=by omega
      have hqI:¬((L.length-1:Nat):Int)<(L.length:Int)-1:=by omega
      have hkL:L.length=k+3:=by have:=HQ.out;omega
      obtain⟨ls,hls⟩:∃ls,legsL L k=ls:=⟨_,rfl⟩
      have hll:ls.length=k:=by rw[←hls,legsL_length]
      obtain⟨td,htd⟩:∃td:Hd,td=⟨(n0:Nat),(n1:Nat),(n2:Nat),(n3:Nat),(n4:Nat)⟩:=⟨_,rfl⟩
      rw[hls]at O4
      subst hll
      obtain⟨la2,lc2,e2,I4⟩:=own_legs O4
      simp only[Value.slice.injEq,true_and]at e2
      obtain⟨rfl,rfl⟩:=e2
      have HPU:Hid (∀_:Unit,_):=fun _=>Tk.specPut_val td nm la ls lc wr (by unfold maxLen;omega) (by omega) I4
      have HUN:Hid (∀t nm2 ls2,Good s t nm2 ls2→t=td∧nm2=nm∧ls2=ls):=by
       intro t nm2 ls2 h
       have sh:=HSH.out t nm2 ls2 h
       have h1:=sh.len
       refine⟨?_,?_,?_⟩
       ·rw[←sh.hd,hnlE,HHD.out,htd]
       ·rw[←sh.name,hnm]
       ·rw[←sh.legs,show ls2.length=ls.length from by omega,hls]
      unfold Tk.tkV at HPU
      have t0:wr.cell? ⟨T,0,none⟩=some (.int .i64 (n0:Int)):=cell_at mT4 0
      have t1:wr.cell? ⟨T,1,none⟩=some (.string nm):=cell_at mT4 1
      have t2:wr.cell? ⟨T,2,none⟩=some (.int .i64 (n1:Int)):=cell_at mT4 2
      have t3:wr.cell? ⟨T,3,none⟩=some (.int .i64 (n2:Int)):=cell_at mT4 3
      have t4:wr.cell? ⟨T,4,none⟩=some (.int .i64 (n3:Int)):=cell_at mT4 4
      have t5:wr.cell? ⟨T,5,none⟩=some (.int .i64 (n4:Int)):=cell_at mT4 5
      have t6:wr.cell? ⟨T,6,none⟩=some (.slice la ls.length lc):=cell_at mT4 6
      by_cases hok9:okB td nm ls=true
      ·by_cases hpt:putT td nm ls ls.length=s
       ·have hg:Good s td nm ls:=⟨hok9,hpt⟩
        have hpos:0<ls.length:=(Tk.okB_parts td nm ls hok9).2.2.1.1
        rw[Tk.putS_yes td nm ls hok9,hpt,hok9]at HPU
        rw[htd]at HPU
        go_wp2_with fail
        refine(HPU.out ()).mono ?_
        rintro e w9 ⟨rfl,L9⟩
        have m9:=kept L9 (lt_of m4) m4
        have mT9:=kept L9 (lt_of mT4) mT4
        have O9:=own_below O4 L9 (Nat.le_refl _)
        have K9:=join_below K4.out L9
        obtain⟨gl,cl2,e3,hgl,-,-,-⟩:=own_cell O9 hpos
        simp only[Value.slice.injEq,true_and]at e3
        obtain⟨rfl,rfl⟩:=e3
        have hgR2:gl≠w.heap.size:=fun h=>Pk.own_ne' O9 m9 (by decide) (by rw[h];rfl)
        clear m4 mT4 O4 K4 L9 mg4 I4 HPU t0 t1 t2 t3 t4 t5 t6
        have b0:w9.cell? ⟨T,0,none⟩=some (.int .i64 (n0:Int)):=cell_at mT9 0
        have b1:w9.cell? ⟨T,1,none⟩=some (.string nm):=cell_at mT9 1
        have b2:w9.cell? ⟨T,2,none⟩=some (.int .i64 (n1:Int)):=cell_at mT9 2
        have b3:w9.cell? ⟨T,3,none⟩=some (.int .i64 (n2:Int)):=cell_at mT9 3
        have b4:w9.cell? ⟨T,4,none⟩=some (.int .i64 (n3:Int)):=cell_at mT9 4
        have b5:w9.cell? ⟨T,5,none⟩=some (.int .i64 (n4:Int)):=cell_at mT9 5
        have b6:w9.cell? ⟨T,6,none⟩=some (.slice (some ⟨gl,0,none⟩) ls.length lc):=cell_at mT9 6
        have a0:w9.cell? ⟨w.heap.size,0,none⟩=some (.int .i64 0):=cell_at m9 0
        have a1:w9.cell? ⟨w.heap.size,1,none⟩=some (.string ⟨#[]⟩):=cell_at m9 1
        have a2:w9.cell? ⟨w.heap.size,2,none⟩=some (.int .i64 0):=cell_at m9 2
        have a3:w9.cell? ⟨w.heap.size,3,none⟩=some (.int .i64 0):=cell_at m9 3
        have a4:w9.cell? ⟨w.heap.size,4,none⟩=some (.int .i64 0):=cell_at m9 4
        have a5:w9.cell? ⟨w.heap.size,5,none⟩=some (.int .i64 0):=cell_at m9 5
        have a6:w9.cell? ⟨w.heap.size,6,none⟩=some (.slice none 0 0):=cell_at m9 6
        have r0:w9.frozen? ⟨w.heap.size,0,none⟩=false:=frozen_at m9 0
        have r1:w9.frozen? ⟨w.heap.size,1,none⟩=false:=frozen_at m9 1
        have r2:w9.frozen? ⟨w.heap.size,2,none⟩=false:=frozen_at m9 2
        have r3:w9.frozen? ⟨w.heap.size,3,none⟩=false:=frozen_at m9 3
        have r4:w9.frozen? ⟨w.heap.size,4,none⟩=false:=frozen_at m9 4
        have r5:w9.frozen? ⟨w.heap.size,5,none⟩=false:=frozen_at m9 5
        have r6:w9.frozen? ⟨w.heap.size,6,none⟩=false:=frozen_at m9 6
        have HG:Hid (Good s ⟨(n0:Nat),(n1:Nat),(n2:Nat),(n3:Nat),(n4:Nat)⟩ nm ls):=by show Good _ _ _ _;rw[←htd];exact hg
        go_wp2
        refine bodyPost_ret (v:= .tuple #[tkV ⟨(n0:Nat),(n1:Nat),(n2:Nat),(n3:Nat),(n4:Nat)⟩ nm (some ⟨gl,0,none⟩) ls.length lc,.bool true]) (by simp[results,Tryz.results34,go_sem,a0,a1,a2,a3,a4,a5,a6]) rfl ?_
        refine⟨Or.inl ⟨_,nm,ls,_,lc,HG.out,rfl,?_⟩,?_⟩
        ·exact own_off (own_off (own_off (own_off (own_off (own_off (own_off O9 hgR2 _) hgR2 _) hgR2 _) hgR2 _) hgR2 _) hgR2 _) hgR2 _
        ·(repeat' (first|apply Below.setCell|exact K9))<;>first|(simp;done)|(simp;omega)
       ·rw[Tk.putS_yes td nm ls hok9,hok9]at HPU
        rw[htd]at HPU
        have hpt2:¬putT ⟨(n0:Nat),(n1:Nat),(n2:Nat),(n3:Nat),(n4:Nat)⟩ nm ls ls.length=s:=by rw[←htd];exact hpt
        have HNG0:Hid (∀t nm2 ls2,¬Good s t nm2 ls2):=fun t nm2 ls2 h=>by obtain⟨rfl,rfl,rfl⟩:=HUN.out t nm2 ls2 h;exact hpt h.2
        generalize putT ⟨(n0:Nat),(n1:Nat),(n2:Nat),(n3:Nat),(n4:Nat)⟩ nm ls ls.length=pt at*
        have z1:¬pt.toList=s.toList:=fun e=>hpt2 (Go.WideShapes.bytes_inj (by rw[←ByteArray.toList_eq,←ByteArray.toList_eq];exact e))
        have z2:(pt.toList==s.toList)=false:=beq_eq_false_iff_ne.2 z1
        go_wp2_with fail
        refine(HPU.out ()).mono ?_
        rintro e w9 ⟨rfl,L9⟩
        have m9:=kept L9 (lt_of m4) m4
        have K9:=join_below K4.out L9
        have a0:w9.cell? ⟨w.heap.size,0,none⟩=some (.int .i64 0):=cell_at m9 0
        have a1:w9.cell? ⟨w.heap.size,1,none⟩=some (.string ⟨#[]⟩):=cell_at m9 1
        have a2:w9.cell? ⟨w.heap.size,2,none⟩=some (.int .i64 0):=cell_at m9 2
        have a3:w9.cell? ⟨w.heap.size,3,none⟩=some (.int .i64 0):=cell_at m9 3
        have a4:w9.cell? ⟨w.heap.size,4,none⟩=some (.int .i64 0):=cell_at m9 4
        have a5:w9.cell? ⟨w.heap.size,5,none⟩=some (.int .i64 0):=cell_at m9 5
        have a6:w9.cell? ⟨w.heap.size,6,none⟩=some (.slice none 0 0):=cell_at m9 6
        have r0:w9.frozen? ⟨w.heap.size,0,none⟩=false:=frozen_at m9 0
        have r1:w9.frozen? ⟨w.heap.size,1,none⟩=false:=frozen_at m9 1
        have r2:w9.frozen? ⟨w.heap.size,2,none⟩=false:=frozen_at m9 2
        have r3:w9.frozen? ⟨w.heap.size,3,none⟩=false:=frozen_at m9 3
        have r4:w9.frozen? ⟨w.heap.size,4,none⟩=false:=frozen_at m9 4
        have r5:w9.frozen? ⟨w.heap.size,5,none⟩=false:=frozen_at m9 5
        have r6:w9.frozen? ⟨w.heap.size,6,none⟩=false:=frozen_at m9 6
        have HNG:Hid (∀t nm ls,¬Good s t nm ls):=HNG0
        go_wp2
        refine bodyPost_ret (v:= .tuple #[tkV ⟨0,0,0,0,0⟩ ⟨#[]⟩ none 0 0,.bool false]) (by simp[results,Tryz.results34,go_sem,a0,a1,a2,a3,a4,a5,a6]) rfl ?_
        refine⟨Or.inr ⟨HNG.out,rfl⟩,?_⟩
        (repeat' (first|apply Below.setCell|exact K9))<;>first|(simp;done)|(simp;omega)
      ·have hok8:okB td nm ls=false:=Bool.eq_false_iff.2 hok9
       rw[Tk.putS_no td nm ls hok8,hok8]at HPU
       rw[htd]at HPU
       have HNG0:Hid (∀t nm2 ls2,¬Good s t nm2 ls2):=fun t nm2 ls2 h=>by obtain⟨rfl,rfl,rfl⟩:=HUN.out t nm2 ls2 h;exact hok9 h.1
       go_wp2_with fail
       refine(HPU.out ()).mono ?_
       rintro e w9 ⟨rfl,L9⟩
       have m9:=kept L9 (lt_of m4) m4
       have K9:=join_below K4.out L9
       have a0:w9.cell? ⟨w.heap.size,0,none⟩=some (.int .i64 0):=cell_at m9 0
       have a1:w9.cell? ⟨w.heap.size,1,none⟩=some (.string ⟨#[]⟩):=cell_at m9 1
       have a2:w9.cell? ⟨w.heap.size,2,none⟩=some (.int .i64 0):=cell_at m9 2
       have a3:w9.cell? ⟨w.heap.size,3,none⟩=some (.int .i64 0):=cell_at m9 3
       have a4:w9.cell? ⟨w.heap.size,4,none⟩=some (.int .i64 0):=cell_at m9 4
       have a5:w9.cell? ⟨w.heap.size,5,none⟩=some (.int .i64 0):=cell_at m9 5
       have a6:w9.cell? ⟨w.heap.size,6,none⟩=some (.slice none 0 0):=cell_at m9 6
       have r0:w9.frozen? ⟨w.heap.size,0,none⟩=false:=frozen_at m9 0
       have r1:w9.frozen? ⟨w.heap.size,1,none⟩=false:=frozen_at m9 1
       have r2:w9.frozen? ⟨w.heap.size,2,none⟩=false:=frozen_at m9 2
       have r3:w9.frozen? ⟨w.heap.size,3,none⟩=false:=frozen_at m9 3
       have r4:w9.frozen? ⟨w.heap.size,4,none⟩=false:=frozen_at m9 4
       have r5:w9.frozen? ⟨w.heap.size,5,none⟩=false:=frozen_at m9 5
       have r6:w9.frozen? ⟨w.heap.size,6,none⟩=false:=frozen_at m9 6
       have HNG:Hid (∀t nm ls,¬Good s t nm ls):=HNG0
       go_wp2
       refine bodyPost_ret (v:= .tuple #[tkV ⟨0,0,0,0,0⟩ ⟨#[]⟩ none 0 0,.bool false]) (by simp[results,Tryz.results34,go_sem,a0,a1,a2,a3,a4,a5,a6]) rfl ?_
       refine⟨Or.inr ⟨HNG.out,rfl⟩,?_⟩
       (repeat' (first|apply Below.setCell|exact K9))<;>first|(simp;done)|(simp;omega)
   ·have a0:w2.cell? ⟨w.heap.size,0,none⟩=some (.int .i64 0):=cell_at m2 0
    have a1:w2.cell? ⟨w.heap.size,1,none⟩=some (.string ⟨#[]⟩):=cell_at m2 1
    have a2:w2.cell? ⟨w.heap.size,2,none⟩=some (.int .i64 0):=cell_at m2 2
    have a3:w2.cell? ⟨w.heap.size,3,none⟩=some (.int .i64 0):=cell_at m2 3
    have a4:w2.cell? ⟨w.heap.size,4,none⟩=some (.int .i64 0):=cell_at m2 4
    have a5:w2.cell? ⟨w.heap.size,5,none⟩=some (.int .i64 0):=cell_at m2 5
    have a6:w2.cell? ⟨w.heap.size,6,none⟩=some (.slice none 0 0):=cell_at m2 6
    have r0:w2.frozen? ⟨w.heap.size,0,none⟩=false:=frozen_at m2 0
    have r1:w2.frozen? ⟨w.heap.size,1,none⟩=false:=frozen_at m2 1
    have r2:w2.frozen? ⟨w.heap.size,2,none⟩=false:=frozen_at m2 2
    have r3:w2.frozen? ⟨w.heap.size,3,none⟩=false:=frozen_at m2 3
    have r4:w2.frozen? ⟨w.heap.size,4,none⟩=false:=frozen_at m2 4
    have r5:w2.frozen? ⟨w.heap.size,5,none⟩=false:=frozen_at m2 5
    have r6:w2.frozen? ⟨w.heap.size,6,none⟩=false:=frozen_at m2 6
    have HNG:Hid (∀t nm ls,¬Good s t nm ls):=fun t nm ls h=>hno (HSH.out t nm ls h).head
    go_wp2
    refine bodyPost_ret (v:= .tuple #[tkV ⟨0,0,0,0,0⟩ ⟨#[]⟩ none 0 0,.bool false]) (by simp[results,Tryz.results34,go_sem,a0,a1,a2,a3,a4,a5,a6]) rfl ?_
    refine⟨Or.inr ⟨HNG.out,rfl⟩,?_⟩
    (repeat' (first|apply Below.setCell|exact K2))<;>first|(simp;done)|(simp;omega)
  ·have h5I:((ln L 1).size:Int)<5:=by omega
   have a0:w1.cell? ⟨w.heap.size,0,none⟩=some (.int .i64 0):=cell_at m1 0
   have a1:w1.cell? ⟨w.heap.size,1,none⟩=some (.string ⟨#[]⟩):=cell_at m1 1
   have a2:w1.cell? ⟨w.heap.size,2,none⟩=some (.int .i64 0):=cell_at m1 2
   have a3:w1.cell? ⟨w.heap.size,3,none⟩=some (.int .i64 0):=cell_at m1 3
   have a4:w1.cell? ⟨w.heap.size,4,none⟩=some (.int .i64 0):=cell_at m1 4
   have a5:w1.cell? ⟨w.heap.size,5,none⟩=some (.int .i64 0):=cell_at m1 5
   have a6:w1.cell? ⟨w.heap.size,6,none⟩=some (.slice none 0 0):=cell_at m1 6
   have r0:w1.frozen? ⟨w.heap.size,0,none⟩=false:=frozen_at m1 0
   have r1:w1.frozen? ⟨w.heap.size,1,none⟩=false:=frozen_at m1 1
   have r2:w1.frozen? ⟨w.heap.size,2,none⟩=false:=frozen_at m1 2
   have r3:w1.frozen? ⟨w.heap.size,3,none⟩=false:=frozen_at m1 3
   have r4:w1.frozen? ⟨w.heap.size,4,none⟩=false:=frozen_at m1 4
   have r5:w1.frozen? ⟨w.heap.size,5,none⟩=false:=frozen_at m1 5
   have r6:w1.frozen? ⟨w.heap.size,6,none⟩=false:=frozen_at m1 6
   have HNG:Hid (∀t nm ls,¬Good s t nm ls):=fun t nm ls h=>h5 (HSH.out t nm ls h).name5
   go_wp2
   refine bodyPost_ret (v:= .tuple #[tkV ⟨0,0,0,0,0⟩ ⟨#[]⟩ none 0 0,.bool false]) (by simp[results,Tryz.results34,go_sem,a0,a1,a2,a3,a4,a5,a6]) rfl ?_
   refine⟨Or.inr ⟨HNG.out,rfl⟩,?_⟩
   (repeat' (first|apply Below.setCell|exact K1))<;>first|(simp;done)|(simp;omega)
 ·have h3I:(L.length:Int)<3:=by omega
  have a0:w1.cell? ⟨w.heap.size,0,none⟩=some (.int .i64 0):=cell_at m1 0
  have a1:w1.cell? ⟨w.heap.size,1,none⟩=some (.string ⟨#[]⟩):=cell_at m1 1
  have a2:w1.cell? ⟨w.heap.size,2,none⟩=some (.int .i64 0):=cell_at m1 2
  have a3:w1.cell? ⟨w.heap.size,3,none⟩=some (.int .i64 0):=cell_at m1 3
  have a4:w1.cell? ⟨w.heap.size,4,none⟩=some (.int .i64 0):=cell_at m1 4
  have a5:w1.cell? ⟨w.heap.size,5,none⟩=some (.int .i64 0):=cell_at m1 5
  have a6:w1.cell? ⟨w.heap.size,6,none⟩=some (.slice none 0 0):=cell_at m1 6
  have r0:w1.frozen? ⟨w.heap.size,0,none⟩=false:=frozen_at m1 0
  have r1:w1.frozen? ⟨w.heap.size,1,none⟩=false:=frozen_at m1 1
  have r2:w1.frozen? ⟨w.heap.size,2,none⟩=false:=frozen_at m1 2
  have r3:w1.frozen? ⟨w.heap.size,3,none⟩=false:=frozen_at m1 3
  have r4:w1.frozen? ⟨w.heap.size,4,none⟩=false:=frozen_at m1 4
  have r5:w1.frozen? ⟨w.heap.size,5,none⟩=false:=frozen_at m1 5
  have r6:w1.frozen? ⟨w.heap.size,6,none⟩=false:=frozen_at m1 6
  have HNG:Hid (∀t nm ls,¬Good s t nm ls):=fun t nm ls h=>h3 (by have:=(HSH.out t nm ls h).len;omega)
  go_wp2
  refine bodyPost_ret (v:= .tuple #[tkV ⟨0,0,0,0,0⟩ ⟨#[]⟩ none 0 0,.bool false]) (by simp[results,Tryz.results34,go_sem,a0,a1,a2,a3,a4,a5,a6]) rfl ?_
  refine⟨Or.inr ⟨HNG.out,rfl⟩,?_⟩
  (repeat' (first|apply Below.setCell|exact K1))<;>first|(simp;done)|(simp;omega)

end Gt
end Go.Proofs.YtcjgkmhpeedhiaaGreatDoor

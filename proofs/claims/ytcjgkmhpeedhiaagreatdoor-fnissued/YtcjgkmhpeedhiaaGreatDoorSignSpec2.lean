/- Contracts of the model's functions of chapter 2, further: keys and marks. -/
import Derived.Test.YtcjgkmhpeedhiaaGreatDoorSignSpec
namespace Go.Proofs.YtcjgkmhpeedhiaaGreatDoor
namespace Num
open Go.ChangeShapes Go.WideShapes Go.ChangeAt Go.RowKit

def keyB (p q g x:Int):Bool:=okP p q g&&decide (1≤x∧x≤q-1)

def keyI (p q g x:Int):Int:=if keyB p q g x=true then powV g x p else 0

theorem keyI_yes {p q g x:Int} (h:keyB p q g x=true):keyI p q g x=powV g x p:=if_pos h

theorem keyI_no {p q g x:Int} (h:keyB p q g x=false):keyI p q g x=0:=if_neg (by rw[h];simp)

theorem keyB_facts {p q g x:Int} (h:keyB p q g x=true):okP p q g=true∧1≤x∧x≤q-1:=by
 simpa [keyB]using h

theorem specParamsOk_is (p q g:Int) (b:Bool) (h:okP p q g=b) (w:World):
 Calls Tryz.prog 54 #[pv p q g] w fun e w'=>e= .returned (.bool b)∧Below w.heap.size w w':=by
 subst h
 exact specParamsOk_val p q g w

theorem specInverse_is (a m:Int) (i:Int) (b:Bool) (hi:invI a m=i) (hb:invB a m=b) (w:World):
 Calls Tryz.prog 74 #[.int .i64 a,.int .i64 m] w fun e w'=>e= .returned (.tuple #[.int .i64 i,.bool b])∧w'=w:=by
 subst hi hb
 exact specInverse_val a m w

theorem specOpenKey_val (p q g x:Int) (w:World):
 Calls Tryz.prog 29 #[pv p q g,.int .i64 x] w fun e w'=>e= .returned (.tuple #[.int .i64 (keyI p q g x),.bool (keyB p q g x)])∧Below w.heap.size w w':=by
 have L0:Below w.heap.size w (w.alloc (.cells #[.int .i64 p,.int .i64 q,.int .i64 g] 25)):=(Below.refl _ _).alloc (Nat.le_refl _) _
 cases h1:okP p q g
 ·have HV:Hid (keyB p q g x=false):=by show _=_;simp[keyB,h1]
  have H1:Hid (okP p q g=false):=h1
  clear h1
  go_enter Tryz.func29,Tryz.ntmps29
  go_wp2_with fail
  refine(specParamsOk_is p q g false H1.out _).mono ?_
  rintro e w1 ⟨rfl,L1⟩
  go_wp2
  go_ret2
  rw[keyI_no HV.out,HV.out]
  exact⟨rfl,L0.trans (L1.mono L0.size)⟩
 ·obtain⟨hp,hq,hq1,hq2,hd,hg1,hg2,hpow,hpr,-⟩:=okP_facts h1
  have hm1:=hp.1
  have hm2:=hp.2
  have hm3:=hq.2
  have H1:Hid (okP p q g=true):=h1
  clear h1 hd hpow hpr hp hq
  by_cases hx:1≤x∧x≤q-1
  ·have HV:Hid (keyB p q g x=true):=by show _=_;simp[keyB,H1.out,hx]
   go_enter Tryz.func29,Tryz.ntmps29
   go_wp2_with fail
   refine(specParamsOk_is p q g true H1.out _).mono ?_
   rintro e w1 ⟨rfl,L1⟩
   have c0:w1.cell? ⟨w.heap.size,0,none⟩=some (.int .i64 p):=by rw[L1.cell (by simp)];exact World.cell?_alloc_mark _ _ _ _ 0
   have c1:w1.cell? ⟨w.heap.size,1,none⟩=some (.int .i64 q):=by rw[L1.cell (by simp)];exact World.cell?_alloc_mark _ _ _ _ 1
   have c2:w1.cell? ⟨w.heap.size,2,none⟩=some (.int .i64 g):=by rw[L1.cell (by simp)];exact World.cell?_alloc_mark _ _ _ _ 2
   go_wp2_with fail
   refine(specIn_is x 1 (q-1) true (decide_eq_true hx) _).mono ?_
   rintro e w2 ⟨rfl,rfl⟩
   go_wp2_with fail
   refine(specPowMod_val g x p _).mono ?_
   rintro e w3 ⟨rfl,D⟩
   go_wp2
   go_ret2
   rw[keyI_yes HV.out,HV.out]
   exact⟨rfl,L0.trans ((L1.mono L0.size).trans (drawn_below _ D))⟩
  ·have HV:Hid (keyB p q g x=false):=by show _=_;rw[keyB,decide_eq_false hx,Bool.and_false]
   go_enter Tryz.func29,Tryz.ntmps29
   go_wp2_with fail
   refine(specParamsOk_is p q g true H1.out _).mono ?_
   rintro e w1 ⟨rfl,L1⟩
   have c1:w1.cell? ⟨w.heap.size,1,none⟩=some (.int .i64 q):=by rw[L1.cell (by simp)];exact World.cell?_alloc_mark _ _ _ _ 1
   go_wp2_with fail
   refine(specIn_is x 1 (q-1) false (decide_eq_false hx) _).mono ?_
   rintro e w2 ⟨rfl,rfl⟩
   go_wp2
   go_ret2
   rw[keyI_no HV.out,HV.out]
   exact⟨rfl,L0.trans (L1.mono L0.size)⟩

def onceR (p q g x h k:Int):Int:=if doV p q g x h k=true then rV p q g k else 0

def onceS (p q g x h k:Int):Int:=if doV p q g x h k=true then sV p q g x h k else 0

theorem once_yes {p q g x h k:Int} (hd:doV p q g x h k=true):onceR p q g x h k=rV p q g k∧onceS p q g x h k=sV p q g x h k:=⟨if_pos hd,if_pos hd⟩

theorem once_no {p q g x h k:Int} (hd:doV p q g x h k=false):onceR p q g x h k=0∧onceS p q g x h k=0:=⟨if_neg (by rw[hd];simp),if_neg (by rw[hd];simp)⟩

abbrev pb (p q g:Int):Obj:= .cells #[.int .i64 p,.int .i64 q,.int .i64 g] 25

abbrev mb (r s:Int):Obj:= .cells #[.int .i64 r,.int .i64 s] 42

theorem cell_at {w:World} {b:Nat} {cs:Array Value} {t:TypeId} {f:Nat×Nat} (h:w.heap[b]? =some (.cells cs t f)) (i:Nat):w.cell? ⟨b,i,none⟩=cs[i]? :=by
 unfold World.cell?
 rw[h]
 simp

theorem heap_new (w:World) (o:Obj):(w.alloc o).heap[w.heap.size]? =some o:=by
 show(w.heap.push o)[w.heap.size]? =some o
 simp

theorem heap_old {w:World} {b:Nat} {x:Obj} (h:w.heap[b]? =some x) (o:Obj):(w.alloc o).heap[b]? =some x:=by
 show(w.heap.push o)[b]? =some x
 have:=(Array.getElem?_eq_some_iff.1 h).1
 rw[Array.getElem?_push_lt this]
 exact Array.getElem?_eq_some_iff.1 h|>.2|>fun e=>by rw[e]

theorem frozen_at {w:World} {b:Nat} {cs:Array Value} {t:TypeId} (h:w.heap[b]? =some (.cells cs t (0,0))) (i:Nat):w.frozen? ⟨b,i,none⟩=false:=by
 unfold World.frozen?
 rw[h]
 simp

theorem kept_new {X w4:World} {n:Nat} {o:Obj} (L:Below X.heap.size X w4) (h:X.heap[n]? =some o):w4.heap[n]? =some o:=by rw[L.block n (Array.getElem?_eq_some_iff.1 h).1,h]

theorem kept_drawn {X w4:World} {n:Nat} {o:Obj} (D:Drawn X w4) (h:X.heap[n]? =some o):w4.heap[n]? =some o:=kept_new (drawn_below _ D) h

theorem specOnce_val (p q g x h k:Int) (w:World) (hok:okP p q g=true) (hh:0≤h∧h<q):
 Calls Tryz.prog 57 #[pv p q g,.int .i64 x,.int .i64 h,.int .i64 k] w fun e w'=>e= .returned (.tuple #[mv (onceR p q g x h k) (onceS p q g x h k),.bool (doV p q g x h k)])∧Below w.heap.size w w':=by
 obtain⟨hp,hq,hq1,hq2,hd,hg1,hg2,hpow,hpr,-⟩:=okP_facts hok
 have hm1:=hp.1
 have hm2:=hp.2
 have hm3:=hq.2
 by_cases hk:1≤k∧k≤q-1
 ·have HB:Hid (invB k q=true):=invB_prime q k hpr hk.1 hk.2
  have HPr:Hid (rV p q g k=modV (powV g k p) q):=rfl
  have HPs:Hid (sV p q g x h k=mulV (invI k q) (h+mulV x (rV p q g k) q) q):=rfl
  have HD:Hid (doV p q g x h k=(!(rV p q g k==0)&& !(sV p q g x h k==0))):=by show _=_;simp[doV,hk]
  obtain⟨mb1,mb2⟩:=mulV_bd x (rV p q g k) hq
  clear hd hpow hpr hp hq hok
  have HO:Hid (∀b,doV p q g x h k=b→onceR p q g x h k=(if b=true then rV p q g k else 0)∧onceS p q g x h k=(if b=true then sV p q g x h k else 0)):=by
   intro b hb
   subst hb
   exact⟨rfl,rfl⟩
  go_enter Tryz.func57,Tryz.ntmps57
  go_wp2_with fail
  refine(specInverse_is k q _ true rfl HB.out _).mono ?_
  rintro e w1 ⟨rfl,rfl⟩
  go_wp2_with fail
  refine(specIn_is k 1 (q-1) true (decide_eq_true hk) _).mono ?_
  rintro e w2 ⟨rfl,rfl⟩
  go_wp2
  go_quiet (first|(go_at_call 69;exact Calls.quiet_of (specPowMod_val _ _ _ _))|(go_at_call 76;exact Calls.quiet_of_same (specMod_val _ _ _)))
  rw[←HPr.out]
  have L1:Below w.heap.size w (((w.alloc (pb p q g)).alloc (mb 0 0)).drewN nq):=(((Below.refl _ _).alloc (Nat.le_refl _) _).alloc (by simp) _).trans (drawn_below _ ⟨nq,rfl⟩)
  have b1:(((w.alloc (pb p q g)).alloc (mb 0 0)).drewN nq).heap[w.heap.size]? =some (pb p q g):=heap_old (heap_new w (pb p q g)) (mb 0 0)
  have b2:(((w.alloc (pb p q g)).alloc (mb 0 0)).drewN nq).heap[w.heap.size+1]? =some (mb 0 0):=by have:=heap_new (w.alloc (pb p q g)) (mb 0 0);simpa using this
  generalize ((w.alloc (pb p q g)).alloc (mb 0 0)).drewN nq=w3 at*
  have c1:w3.cell? ⟨w.heap.size,1,none⟩=some (.int .i64 q):=cell_at b1 1
  have d0:w3.cell? ⟨w.heap.size+1,0,none⟩=some (.int .i64 0):=cell_at b2 0
  have d1:w3.cell? ⟨w.heap.size+1,1,none⟩=some (.int .i64 0):=cell_at b2 1
  have f0:w3.frozen? ⟨w.heap.size+1,0,none⟩=false:=frozen_at b2 0
  have f1:w3.frozen? ⟨w.heap.size+1,1,none⟩=false:=frozen_at b2 1
  clear b1 b2
  generalize rV p q g k=r at*
  go_wp2
  go_quiet ((go_at_call 75;exact Calls.quiet_of_same (specMulMod_val _ _ _ _)))
  rw[←HPs.out]
  generalize sV p q g x h k=s at*
  clear HPs HPr HB
  cases hr:r==0
  ·cases hs:s==0
   ·have he:=HD.out
    rw[hr,hs]at he
    have ho:=HO.out _ he
    have HE:Hid (_∧_∧_):=⟨he,ho.1,ho.2⟩
    clear he ho HO HD
    go_wp2
    refine bodyPost_ret (v:= .tuple #[mv r s,.bool true]) (by simp[results,Tryz.results57,go_sem,d0,d1]) rfl ?_
    rw[HE.out.1,HE.out.2.1,HE.out.2.2]
    exact⟨rfl,((L1.trans (drawn_below _ ⟨_,rfl⟩)).setCell (by simp) _).setCell (by simp) _⟩
   ·have he:=HD.out
    rw[hr,hs]at he
    have ho:=HO.out _ he
    have HE:Hid (_∧_∧_):=⟨he,ho.1,ho.2⟩
    clear he ho HO HD
    go_wp2
    refine bodyPost_ret (v:= .tuple #[mv 0 0,.bool false]) (by simp[results,Tryz.results57,go_sem,d0,d1]) rfl ?_
    rw[HE.out.1,HE.out.2.1,HE.out.2.2]
    exact⟨rfl,((L1.trans (drawn_below _ ⟨_,rfl⟩)).setCell (by simp) _).setCell (by simp) _⟩
  ·have he:=HD.out
   rw[hr,Bool.not_true,Bool.false_and]at he
   have ho:=HO.out _ he
   have HE:Hid (_∧_∧_):=⟨he,ho.1,ho.2⟩
   clear he ho HO HD
   go_wp2
   refine bodyPost_ret (v:= .tuple #[mv 0 0,.bool false]) (by simp[results,Tryz.results57,go_sem,d0,d1]) rfl ?_
   rw[HE.out.1,HE.out.2.1,HE.out.2.2]
   exact⟨rfl,((L1.trans (drawn_below _ ⟨_,rfl⟩)).setCell (by simp) _).setCell (by simp) _⟩
 ·have L0:Below w.heap.size w ((w.alloc (pb p q g)).alloc (mb 0 0)):=((Below.refl _ _).alloc (Nat.le_refl _) _).alloc (by simp) _
  have he:doV p q g x h k=false:=by unfold doV;rw[decide_eq_false hk];rfl
  have ho:=once_no he
  have HE:Hid (_∧_∧_):=⟨he,ho.1,ho.2⟩
  clear hd hpow hpr hp hq hok he ho
  go_enter Tryz.func57,Tryz.ntmps57
  go_wp2_with fail
  refine(specInverse_val k q _).mono ?_
  rintro e w1 ⟨rfl,rfl⟩
  go_wp2_with fail
  refine(specIn_is k 1 (q-1) false (decide_eq_false hk) _).mono ?_
  rintro e w2 ⟨rfl,rfl⟩
  go_wp2
  refine bodyPost_ret (v:= .tuple #[mv 0 0,.bool false]) (by simp[results,Tryz.results57,go_sem]) rfl ?_
  rw[HE.out.1,HE.out.2.1,HE.out.2.2]
  exact⟨rfl,L0⟩

def signB (p q g x:Int) (t:ByteArray):Bool:=keyB p q g x&&decide (t.size≤5000)

theorem signB_facts {p q g x:Int} {t:ByteArray} (h:signB p q g x t=true):okP p q g=true∧(1≤x∧x≤q-1)∧t.size≤5000:=by
 simp only[signB,Bool.and_eq_true,decide_eq_true_eq]at h
 exact⟨(keyB_facts h.1).1,(keyB_facts h.1).2,h.2⟩

def hV (t:ByteArray) (q:Int):Int:=(Math.foldAt t.data.toList:Int)%q

theorem hV_bd (t:ByteArray) {q:Int} (h:Meas q):0≤hV t q∧hV t q<q:=Math.emod_bd _ _ h.1

def soB (p q g x:Int) (t:ByteArray) (k:Int):Bool:=signB p q g x t&&doV p q g x (hV t q) k

theorem signB_cases (p q g x:Int) (t:ByteArray):(okP p q g=false∧signB p q g x t=false)∨(okP p q g=true∧¬(1≤x∧x≤q-1)∧signB p q g x t=false)∨(okP p q g=true∧(1≤x∧x≤q-1)∧5000<t.size∧signB p q g x t=false)∨(okP p q g=true∧(1≤x∧x≤q-1)∧t.size≤5000∧signB p q g x t=true):=by
 cases h1:okP p q g
 ·exact Or.inl ⟨rfl,by simp[signB,keyB,h1]⟩
 ·by_cases h2:1≤x∧x≤q-1
  ·by_cases h3:t.size≤5000
   ·exact Or.inr (Or.inr (Or.inr ⟨rfl,h2,h3,by simp[signB,keyB,h1,h2,h3]⟩))
   ·exact Or.inr (Or.inr (Or.inl ⟨rfl,h2,by omega,by simp[signB,h3]⟩))
  ·exact Or.inr (Or.inl ⟨rfl,h2,by rw[signB,keyB,decide_eq_false h2,Bool.and_false];rfl⟩)

end Num
end Go.Proofs.YtcjgkmhpeedhiaaGreatDoor

/- Contract of the model's Verify. -/
import Derived.Test.YtcjgkmhpeedhiaaGreatDoorSignSpec2
namespace Go.Proofs.YtcjgkmhpeedhiaaGreatDoor
namespace Num
open Go.ChangeShapes Go.WideShapes Go.ChangeAt Go.RowKit
set_option linter.unusedSimpArgs false
set_option linter.unusedVariables false

def verOk (p q g o r s:Int) (t:ByteArray):Bool:=okP p q g&&opOk p q o&&inQ q r&&inQ q s&&decide (t.size≤5000)

def verV (p q g o r s:Int) (t:ByteArray):Bool:=verOk p q g o r s t&&(eqV p q g o (hV t q) r s==r)

theorem two_new (w:World) (a b:Obj):Below w.heap.size w ((w.alloc a).alloc b)∧((w.alloc a).alloc b).heap[w.heap.size]? =some a∧((w.alloc a).alloc b).heap[w.heap.size+1]? =some b:=by
 refine⟨((Below.refl _ _).alloc (Nat.le_refl _) _).alloc (by simp) _,heap_old (heap_new w a) b,?_⟩
 have:=heap_new (w.alloc a) b
 simpa using this

theorem ver_cases (p q g o r s:Int) (t:ByteArray):(okP p q g=false∧verOk p q g o r s t=false)∨(okP p q g=true∧¬(2≤o∧o≤p-1)∧verOk p q g o r s t=false)∨(okP p q g=true∧(2≤o∧o≤p-1)∧powV o q p≠1∧verOk p q g o r s t=false)
 ∨(okP p q g=true∧(2≤o∧o≤p-1)∧powV o q p=1∧¬(1≤r∧r≤q-1)∧verOk p q g o r s t=false)∨(okP p q g=true∧(2≤o∧o≤p-1)∧powV o q p=1∧(1≤r∧r≤q-1)∧¬(1≤s∧s≤q-1)∧verOk p q g o r s t=false)
 ∨(okP p q g=true∧(2≤o∧o≤p-1)∧powV o q p=1∧(1≤r∧r≤q-1)∧(1≤s∧s≤q-1)∧5000<t.size∧verOk p q g o r s t=false)∨(okP p q g=true∧(2≤o∧o≤p-1)∧powV o q p=1∧(1≤r∧r≤q-1)∧(1≤s∧s≤q-1)∧t.size≤5000∧verOk p q g o r s t=true):=by
 cases h1:okP p q g
 ·exact Or.inl ⟨rfl,by simp[verOk,h1]⟩
 by_cases h2:2≤o∧o≤p-1
 ·by_cases h3:powV o q p=1
  ·by_cases h4:1≤r∧r≤q-1
   ·by_cases h5:1≤s∧s≤q-1
    ·by_cases h6:t.size≤5000
     ·exact Or.inr (Or.inr (Or.inr (Or.inr (Or.inr (Or.inr ⟨rfl,h2,h3,h4,h5,h6,by simp[verOk,opOk,inQ,h1,h2,h3,h4,h5,h6]⟩)))))
     ·exact Or.inr (Or.inr (Or.inr (Or.inr (Or.inr (Or.inl ⟨rfl,h2,h3,h4,h5,by omega,by simp[verOk,h6]⟩)))))
    ·exact Or.inr (Or.inr (Or.inr (Or.inr (Or.inl ⟨rfl,h2,h3,h4,h5,by rw[verOk,show inQ q s=false from decide_eq_false h5];simp⟩))))
   ·exact Or.inr (Or.inr (Or.inr (Or.inl ⟨rfl,h2,h3,h4,by rw[verOk,show inQ q r=false from decide_eq_false h4];simp⟩)))
  ·exact Or.inr (Or.inr (Or.inl ⟨rfl,h2,h3,by simp[verOk,opOk,h3]⟩))
 ·exact Or.inr (Or.inl ⟨rfl,h2,by rw[verOk,show opOk p q o=false from by rw[opOk,decide_eq_false h2];rfl];simp⟩)

theorem verV_no {p q g o r s:Int} {t:ByteArray} (h:verOk p q g o r s t=false):verV p q g o r s t=false:=by rw[verV,h];rfl

theorem specPowMod_is (a n m v:Int) (h:powV a n m=v) (w:World):
 Calls Tryz.prog 69 #[.int .i64 a,.int .i64 n,.int .i64 m] w fun e w'=>e= .returned (.int .i64 v)∧Drawn w w':=by
 subst h
 exact specPowMod_val a n m w

set_option maxHeartbeats 1000000 in
theorem specVerify_no (p q g o r s:Int) (t:ByteArray) (w:World) (ht:t.size≤maxLen) (hn:verOk p q g o r s t=false):
 Calls Tryz.prog 33 #[pv p q g,.int .i64 o,.string t,mv r s] w fun e w'=>e= .returned (.bool false)∧Below w.heap.size w w':=by
 unfold maxLen at ht
 obtain⟨L0,b1,b2⟩:=two_new w (pb p q g) (mb r s)
 rcases ver_cases p q g o r s t with⟨h1,hv⟩|⟨h1,h2,hv⟩|⟨h1,h2,h3,hv⟩|⟨h1,h2,h3,h4,hv⟩|⟨h1,h2,h3,h4,h5,hv⟩|⟨h1,h2,h3,h4,h5,h6,hv⟩|⟨h1,h2,h3,h4,h5,h6,hv⟩
 ·have HOK:Hid (okP p q g=false):=h1
  clear hv h1
  go_enter Tryz.func33,Tryz.ntmps33
  go_wp2_with fail
  refine(specParamsOk_is p q g false HOK.out _).mono ?_
  rintro e w3 ⟨rfl,L1⟩
  have L2:=L0.trans (L1.mono L0.size)
  go_wp2
  go_ret
  exact⟨rfl,L2⟩
 ·obtain⟨hp,hq,hq1,hq2,-⟩:=okP_facts h1
  have hm1:=hp.1
  have hm2:=hp.2
  have hm3:=hq.2
  have HOK:Hid (okP p q g=true):=h1
  clear hp hq hv h1
  go_enter Tryz.func33,Tryz.ntmps33
  go_wp2_with fail
  refine(specParamsOk_is p q g true HOK.out _).mono ?_
  rintro e w3 ⟨rfl,L1⟩
  have hA:=kept_new L1 b1
  have hB:=kept_new L1 b2
  have L2:=L0.trans (L1.mono L0.size)
  have c0:w3.cell? ⟨w.heap.size,0,none⟩=some (.int .i64 p):=cell_at hA 0
  have c1:w3.cell? ⟨w.heap.size,1,none⟩=some (.int .i64 q):=cell_at hA 1
  have c2:w3.cell? ⟨w.heap.size,2,none⟩=some (.int .i64 g):=cell_at hA 2
  have d0:w3.cell? ⟨w.heap.size+1,0,none⟩=some (.int .i64 r):=cell_at hB 0
  have d1:w3.cell? ⟨w.heap.size+1,1,none⟩=some (.int .i64 s):=cell_at hB 1
  clear L0 b1 b2 L1
  go_wp2_with fail
  refine(specIn_is o 2 (p-1) false (decide_eq_false h2) _).mono ?_
  rintro e wi ⟨rfl,rfl⟩
  go_wp2
  go_ret
  exact⟨rfl,L2⟩
 ·obtain⟨hp,hq,hq1,hq2,-⟩:=okP_facts h1
  have hm1:=hp.1
  have hm2:=hp.2
  have hm3:=hq.2
  have HOK:Hid (okP p q g=true):=h1
  clear hp hq hv h1
  have hpw:(powV o q p !=1)=true:=by simp[h3]
  clear h3
  go_enter Tryz.func33,Tryz.ntmps33
  go_wp2_with fail
  refine(specParamsOk_is p q g true HOK.out _).mono ?_
  rintro e w3 ⟨rfl,L1⟩
  have hA:=kept_new L1 b1
  have hB:=kept_new L1 b2
  have L2:=L0.trans (L1.mono L0.size)
  have c0:w3.cell? ⟨w.heap.size,0,none⟩=some (.int .i64 p):=cell_at hA 0
  have c1:w3.cell? ⟨w.heap.size,1,none⟩=some (.int .i64 q):=cell_at hA 1
  have c2:w3.cell? ⟨w.heap.size,2,none⟩=some (.int .i64 g):=cell_at hA 2
  have d0:w3.cell? ⟨w.heap.size+1,0,none⟩=some (.int .i64 r):=cell_at hB 0
  have d1:w3.cell? ⟨w.heap.size+1,1,none⟩=some (.int .i64 s):=cell_at hB 1
  clear L0 b1 b2 L1
  go_wp2_with fail
  refine(specIn_is o 2 (p-1) true (decide_eq_true h2) _).mono ?_
  rintro e wi ⟨rfl,rfl⟩
  go_wp2_with fail
  refine(specPowMod_val o q p _).mono ?_
  rintro e w4 ⟨rfl,D4⟩
  have hA4:=kept_drawn D4 hA
  have hB4:=kept_drawn D4 hB
  have L4:=L2.trans (drawn_below _ D4)
  clear c0 c1 c2 d0 d1 hA hB L2 D4
  have c0:w4.cell? ⟨w.heap.size,0,none⟩=some (.int .i64 p):=cell_at hA4 0
  have c1:w4.cell? ⟨w.heap.size,1,none⟩=some (.int .i64 q):=cell_at hA4 1
  have c2:w4.cell? ⟨w.heap.size,2,none⟩=some (.int .i64 g):=cell_at hA4 2
  have d0:w4.cell? ⟨w.heap.size+1,0,none⟩=some (.int .i64 r):=cell_at hB4 0
  have d1:w4.cell? ⟨w.heap.size+1,1,none⟩=some (.int .i64 s):=cell_at hB4 1
  clear hA4 hB4
  generalize powV o q p=u at*
  go_wp2
  go_ret
  exact⟨rfl,L4⟩
 ·obtain⟨hp,hq,hq1,hq2,-⟩:=okP_facts h1
  have hm1:=hp.1
  have hm2:=hp.2
  have hm3:=hq.2
  have HOK:Hid (okP p q g=true):=h1
  clear hp hq hv h1
  have HP:Hid (powV o q p=1):=h3
  clear h3
  go_enter Tryz.func33,Tryz.ntmps33
  go_wp2_with fail
  refine(specParamsOk_is p q g true HOK.out _).mono ?_
  rintro e w3 ⟨rfl,L1⟩
  have hA:=kept_new L1 b1
  have hB:=kept_new L1 b2
  have L2:=L0.trans (L1.mono L0.size)
  have c0:w3.cell? ⟨w.heap.size,0,none⟩=some (.int .i64 p):=cell_at hA 0
  have c1:w3.cell? ⟨w.heap.size,1,none⟩=some (.int .i64 q):=cell_at hA 1
  have c2:w3.cell? ⟨w.heap.size,2,none⟩=some (.int .i64 g):=cell_at hA 2
  have d0:w3.cell? ⟨w.heap.size+1,0,none⟩=some (.int .i64 r):=cell_at hB 0
  have d1:w3.cell? ⟨w.heap.size+1,1,none⟩=some (.int .i64 s):=cell_at hB 1
  clear L0 b1 b2 L1
  go_wp2_with fail
  refine(specIn_is o 2 (p-1) true (decide_eq_true h2) _).mono ?_
  rintro e wi ⟨rfl,rfl⟩
  go_wp2_with fail
  refine(specPowMod_is o q p 1 HP.out _).mono ?_
  rintro e w4 ⟨rfl,D4⟩
  have hA4:=kept_drawn D4 hA
  have hB4:=kept_drawn D4 hB
  have L4:=L2.trans (drawn_below _ D4)
  clear c0 c1 c2 d0 d1 hA hB L2 D4
  have c0:w4.cell? ⟨w.heap.size,0,none⟩=some (.int .i64 p):=cell_at hA4 0
  have c1:w4.cell? ⟨w.heap.size,1,none⟩=some (.int .i64 q):=cell_at hA4 1
  have c2:w4.cell? ⟨w.heap.size,2,none⟩=some (.int .i64 g):=cell_at hA4 2
  have d0:w4.cell? ⟨w.heap.size+1,0,none⟩=some (.int .i64 r):=cell_at hB4 0
  have d1:w4.cell? ⟨w.heap.size+1,1,none⟩=some (.int .i64 s):=cell_at hB4 1
  clear hA4 hB4
  go_wp2_with fail
  refine(specIn_is r 1 (q-1) false (decide_eq_false h4) _).mono ?_
  rintro e wi ⟨rfl,rfl⟩
  go_wp2
  go_ret
  exact⟨rfl,L4⟩
 ·obtain⟨hp,hq,hq1,hq2,-⟩:=okP_facts h1
  have hm1:=hp.1
  have hm2:=hp.2
  have hm3:=hq.2
  have HOK:Hid (okP p q g=true):=h1
  clear hp hq hv h1
  have HP:Hid (powV o q p=1):=h3
  clear h3
  go_enter Tryz.func33,Tryz.ntmps33
  go_wp2_with fail
  refine(specParamsOk_is p q g true HOK.out _).mono ?_
  rintro e w3 ⟨rfl,L1⟩
  have hA:=kept_new L1 b1
  have hB:=kept_new L1 b2
  have L2:=L0.trans (L1.mono L0.size)
  have c0:w3.cell? ⟨w.heap.size,0,none⟩=some (.int .i64 p):=cell_at hA 0
  have c1:w3.cell? ⟨w.heap.size,1,none⟩=some (.int .i64 q):=cell_at hA 1
  have c2:w3.cell? ⟨w.heap.size,2,none⟩=some (.int .i64 g):=cell_at hA 2
  have d0:w3.cell? ⟨w.heap.size+1,0,none⟩=some (.int .i64 r):=cell_at hB 0
  have d1:w3.cell? ⟨w.heap.size+1,1,none⟩=some (.int .i64 s):=cell_at hB 1
  clear L0 b1 b2 L1
  go_wp2_with fail
  refine(specIn_is o 2 (p-1) true (decide_eq_true h2) _).mono ?_
  rintro e wi ⟨rfl,rfl⟩
  go_wp2_with fail
  refine(specPowMod_is o q p 1 HP.out _).mono ?_
  rintro e w4 ⟨rfl,D4⟩
  have hA4:=kept_drawn D4 hA
  have hB4:=kept_drawn D4 hB
  have L4:=L2.trans (drawn_below _ D4)
  clear c0 c1 c2 d0 d1 hA hB L2 D4
  have c0:w4.cell? ⟨w.heap.size,0,none⟩=some (.int .i64 p):=cell_at hA4 0
  have c1:w4.cell? ⟨w.heap.size,1,none⟩=some (.int .i64 q):=cell_at hA4 1
  have c2:w4.cell? ⟨w.heap.size,2,none⟩=some (.int .i64 g):=cell_at hA4 2
  have d0:w4.cell? ⟨w.heap.size+1,0,none⟩=some (.int .i64 r):=cell_at hB4 0
  have d1:w4.cell? ⟨w.heap.size+1,1,none⟩=some (.int .i64 s):=cell_at hB4 1
  clear hA4 hB4
  go_wp2_with fail
  refine(specIn_is r 1 (q-1) true (decide_eq_true h4) _).mono ?_
  rintro e wi ⟨rfl,rfl⟩
  go_wp2_with fail
  refine(specIn_is s 1 (q-1) false (decide_eq_false h5) _).mono ?_
  rintro e wi ⟨rfl,rfl⟩
  go_wp2
  go_ret
  exact⟨rfl,L4⟩
 ·obtain⟨hp,hq,hq1,hq2,-⟩:=okP_facts h1
  have hm1:=hp.1
  have hm2:=hp.2
  have hm3:=hq.2
  have HOK:Hid (okP p q g=true):=h1
  clear hp hq hv h1
  have HP:Hid (powV o q p=1):=h3
  clear h3
  have hd:decide ((5000:Int)<t.size)=true:=by simp;omega
  go_enter Tryz.func33,Tryz.ntmps33
  go_wp2_with fail
  refine(specParamsOk_is p q g true HOK.out _).mono ?_
  rintro e w3 ⟨rfl,L1⟩
  have hA:=kept_new L1 b1
  have hB:=kept_new L1 b2
  have L2:=L0.trans (L1.mono L0.size)
  have c0:w3.cell? ⟨w.heap.size,0,none⟩=some (.int .i64 p):=cell_at hA 0
  have c1:w3.cell? ⟨w.heap.size,1,none⟩=some (.int .i64 q):=cell_at hA 1
  have c2:w3.cell? ⟨w.heap.size,2,none⟩=some (.int .i64 g):=cell_at hA 2
  have d0:w3.cell? ⟨w.heap.size+1,0,none⟩=some (.int .i64 r):=cell_at hB 0
  have d1:w3.cell? ⟨w.heap.size+1,1,none⟩=some (.int .i64 s):=cell_at hB 1
  clear L0 b1 b2 L1
  go_wp2_with fail
  refine(specIn_is o 2 (p-1) true (decide_eq_true h2) _).mono ?_
  rintro e wi ⟨rfl,rfl⟩
  go_wp2_with fail
  refine(specPowMod_is o q p 1 HP.out _).mono ?_
  rintro e w4 ⟨rfl,D4⟩
  have hA4:=kept_drawn D4 hA
  have hB4:=kept_drawn D4 hB
  have L4:=L2.trans (drawn_below _ D4)
  clear c0 c1 c2 d0 d1 hA hB L2 D4
  have c0:w4.cell? ⟨w.heap.size,0,none⟩=some (.int .i64 p):=cell_at hA4 0
  have c1:w4.cell? ⟨w.heap.size,1,none⟩=some (.int .i64 q):=cell_at hA4 1
  have c2:w4.cell? ⟨w.heap.size,2,none⟩=some (.int .i64 g):=cell_at hA4 2
  have d0:w4.cell? ⟨w.heap.size+1,0,none⟩=some (.int .i64 r):=cell_at hB4 0
  have d1:w4.cell? ⟨w.heap.size+1,1,none⟩=some (.int .i64 s):=cell_at hB4 1
  clear hA4 hB4
  go_wp2_with fail
  refine(specIn_is r 1 (q-1) true (decide_eq_true h4) _).mono ?_
  rintro e wi ⟨rfl,rfl⟩
  go_wp2_with fail
  refine(specIn_is s 1 (q-1) true (decide_eq_true h5) _).mono ?_
  rintro e wi ⟨rfl,rfl⟩
  go_wp2
  go_ret
  exact⟨rfl,L4⟩
 ·rw[hv]at hn
  cases hn

set_option maxHeartbeats 1000000 in
theorem specVerify_yes (p q g o r s:Int) (t:ByteArray) (w:World) (hn:verOk p q g o r s t=true):
 Calls Tryz.prog 33 #[pv p q g,.int .i64 o,.string t,mv r s] w fun e w'=>e= .returned (.bool (eqV p q g o (hV t q) r s==r))∧Below w.heap.size w w':=by
 obtain⟨L0,b1,b2⟩:=two_new w (pb p q g) (mb r s)
 obtain⟨h1,h2,h3,h4,h5,h6⟩:okP p q g=true∧(2≤o∧o≤p-1)∧powV o q p=1∧(1≤r∧r≤q-1)∧(1≤s∧s≤q-1)∧t.size≤5000:=by
  simp only[verOk,opOk,inQ,Bool.and_eq_true,decide_eq_true_eq]at hn
  exact⟨hn.1.1.1.1,hn.1.1.1.2.1,hn.1.1.1.2.2,hn.1.1.2,hn.1.2,hn.2⟩
 obtain⟨hp,hq,hq1,hq2,-,-,-,-,hpr,-⟩:=okP_facts h1
 have hm1:=hp.1
 have hm2:=hp.2
 have hm3:=hq.2
 have HOK:Hid (okP p q g=true):=h1
 have HP:Hid (powV o q p=1):=h3
 have HB:Hid (invB s q=true):=invB_prime q s hpr h5.1 h5.2
 have HF:Hid (∀w,Calls Tryz.prog 56 #[.string t,.int .i64 q] w fun e w'=>e= .returned (.int .i64 (hV t q))∧w'=w):=fun w=>specFold_yes t q w hq.1 hq.2 h6
 have HE:Hid (eqV p q g o (hV t q) r s=modV (mulV (powV g (mulV (hV t q) (invI s q) q) p) (powV o (mulV r (invI s q) q) p) p) q):=rfl
 have hd:decide ((5000:Int)<t.size)=false:=by simp;omega
 clear hp hq hpr h1 h3 hn
 generalize hV t q=h at*
 go_enter Tryz.func33,Tryz.ntmps33
 go_wp2_with fail
 refine(specParamsOk_is p q g true HOK.out _).mono ?_
 rintro e w3 ⟨rfl,L1⟩
 have hA:=kept_new L1 b1
 have hB:=kept_new L1 b2
 have L2:=L0.trans (L1.mono L0.size)
 have c0:w3.cell? ⟨w.heap.size,0,none⟩=some (.int .i64 p):=cell_at hA 0
 have c1:w3.cell? ⟨w.heap.size,1,none⟩=some (.int .i64 q):=cell_at hA 1
 have c2:w3.cell? ⟨w.heap.size,2,none⟩=some (.int .i64 g):=cell_at hA 2
 have d0:w3.cell? ⟨w.heap.size+1,0,none⟩=some (.int .i64 r):=cell_at hB 0
 have d1:w3.cell? ⟨w.heap.size+1,1,none⟩=some (.int .i64 s):=cell_at hB 1
 clear L0 b1 b2 L1
 go_wp2_with fail
 refine(specIn_is o 2 (p-1) true (decide_eq_true h2) _).mono ?_
 rintro e wi ⟨rfl,rfl⟩
 go_wp2_with fail
 refine(specPowMod_is o q p 1 HP.out _).mono ?_
 rintro e w4 ⟨rfl,D4⟩
 have hA4:=kept_drawn D4 hA
 have hB4:=kept_drawn D4 hB
 have L4:=L2.trans (drawn_below _ D4)
 clear c0 c1 c2 d0 d1 hA hB L2 D4
 have c0:w4.cell? ⟨w.heap.size,0,none⟩=some (.int .i64 p):=cell_at hA4 0
 have c1:w4.cell? ⟨w.heap.size,1,none⟩=some (.int .i64 q):=cell_at hA4 1
 have c2:w4.cell? ⟨w.heap.size,2,none⟩=some (.int .i64 g):=cell_at hA4 2
 have d0:w4.cell? ⟨w.heap.size+1,0,none⟩=some (.int .i64 r):=cell_at hB4 0
 have d1:w4.cell? ⟨w.heap.size+1,1,none⟩=some (.int .i64 s):=cell_at hB4 1
 clear hA4 hB4
 go_wp2_with fail
 refine(specIn_is r 1 (q-1) true (decide_eq_true h4) _).mono ?_
 rintro e wi ⟨rfl,rfl⟩
 go_wp2_with fail
 refine(specIn_is s 1 (q-1) true (decide_eq_true h5) _).mono ?_
 rintro e wi ⟨rfl,rfl⟩
 go_wp2_with fail
 refine(specInverse_is s q _ true rfl HB.out _).mono ?_
 rintro e wi ⟨rfl,rfl⟩
 generalize invI s q=i at*
 go_wp2
 go_quiet (first|(go_at_call 56;exact Calls.quiet_of_same (HF.out _))|(go_at_call 75;exact Calls.quiet_of_same (specMulMod_val _ _ _ _)))
 have D5:Drawn wi (wi.drewN nq):=⟨nq,rfl⟩
 have e0:(wi.drewN nq).cell? ⟨w.heap.size,0,none⟩=some (.int .i64 p):=c0
 have e1:(wi.drewN nq).cell? ⟨w.heap.size,1,none⟩=some (.int .i64 q):=c1
 have e2:(wi.drewN nq).cell? ⟨w.heap.size,2,none⟩=some (.int .i64 g):=c2
 have e3:(wi.drewN nq).cell? ⟨w.heap.size+1,0,none⟩=some (.int .i64 r):=d0
 clear c0 c1 c2 d0 d1
 generalize wi.drewN nq=w5 at*
 generalize mulV h i q=u at*
 generalize mulV r i q=v at*
 go_wp2
 go_quiet (first|(go_at_call 69;exact Calls.quiet_of (specPowMod_val _ _ _ _))|(go_at_call 75;exact Calls.quiet_of_same (specMulMod_val _ _ _ _))|(go_at_call 76;exact Calls.quiet_of_same (specMod_val _ _ _)))
 rw[←HE.out]
 go_wp2
 go_ret
 exact⟨rfl,L4.trans ((drawn_below _ D5).trans (drawn_below _ ⟨_,rfl⟩))⟩

theorem specVerify_val (p q g o r s:Int) (t:ByteArray) (w:World) (ht:t.size≤maxLen):
 Calls Tryz.prog 33 #[pv p q g,.int .i64 o,.string t,mv r s] w fun e w'=>e= .returned (.bool (verV p q g o r s t))∧Below w.heap.size w w':=by
 cases h:verOk p q g o r s t
 ·rw[verV_no h];exact specVerify_no p q g o r s t w ht h
 ·rw[verV,h,Bool.true_and];exact specVerify_yes p q g o r s t w h

end Num
end Go.Proofs.YtcjgkmhpeedhiaaGreatDoor

/- Contracts of the program's functions of chapter 2: the equation of a mark, in its bounds. -/
import Derived.Test.YtdcpjicgehdmfaaGreatDoorSignEq
namespace Go.Proofs.YtdcpjicgehdmfaaGreatDoor
namespace Num
open Go.ChangeShapes Go.WideShapes Go.ChangeAt Go.RowKit
set_option linter.unusedSimpArgs false
set_option linter.unusedVariables false

set_option maxHeartbeats 2000000 in
theorem equationOf_yes (p q g o r s:Int) (t:ByteArray) (w:World) (hn:verOk p q g o r s t=true):
 Calls Tryz.prog 141 #[pv p q g,.int .i64 o,.string t,mv r s] w fun e w'=>e= .returned (.tuple #[ev p q g o (hV t q) r s,.nilIface])∧Below w.heap.size w w':=by
 obtain⟨L0,b1,b2,b3⟩:=three w (pb p q g) (mb r s) (eb 0 0 0 0 0 0 0)
 obtain⟨h1,h2,h3,h4,h5,h6⟩:okP p q g=true∧(2≤o∧o≤p-1)∧powV o q p=1∧(1≤r∧r≤q-1)∧(1≤s∧s≤q-1)∧t.size≤5000:=by
  simp only[verOk,opOk,inQ,Bool.and_eq_true,decide_eq_true_eq]at hn
  exact⟨hn.1.1.1.1,hn.1.1.1.2.1,hn.1.1.1.2.2,hn.1.1.2,hn.1.2,hn.2⟩
 obtain⟨hp,hq,hq1,hq2,-⟩:=okP_facts h1
 have HOK:Hid (okP p q g=true):=h1
 have hlo:decide (o<2)=false:=decide_eq_false (by omega)
 have HL:Hid (liesV p q o=true):=lies_op h2 true (by rw[beq_iff_eq];exact h3)
 have hbr:decide (1≤r∧r<q)=true:=decide_eq_true (by omega)
 have hbs:decide (1≤s∧s<q)=true:=decide_eq_true (by omega)
 have hd:decide ((5000:Int)<t.size)=false:=by simp;omega
 have HF:Hid (∀w,Calls Tryz.prog 163 #[.string t,.int .i64 q] w fun e w'=>e= .returned (.int .i64 (hV t q))∧Drawn w w'):=fun w=>implFold_yes t q w hq.1 hq.2 h6
 clear hp hq h1 h3 hn
 generalize hV t q=h at*
 go_enter Tryz.func141,Tryz.ntmps141
 go_wp2_with fail
 refine(implParamsOk_is p q g true HOK.out _).mono ?_
 rintro e w3 ⟨rfl,L1⟩
 have hA:=kept_new L1 b1
 have hB:=kept_new L1 b2
 have hC:=kept_new L1 b3
 have L2:=join_below L0 L1
 clear L0 b1 b2 b3 L1
 have c0:w3.cell? ⟨w.heap.size,0,none⟩=some (.int .i64 p):=cell_at hA 0
 have c1:w3.cell? ⟨w.heap.size,1,none⟩=some (.int .i64 q):=cell_at hA 1
 have c2:w3.cell? ⟨w.heap.size,2,none⟩=some (.int .i64 g):=cell_at hA 2
 have m0:w3.cell? ⟨w.heap.size+1,0,none⟩=some (.int .i64 r):=cell_at hB 0
 have m1:w3.cell? ⟨w.heap.size+1,1,none⟩=some (.int .i64 s):=cell_at hB 1
 go_wp2_with fail
 refine(lies_is p q g o true HL.out _).mono ?_
 rintro e w4 ⟨rfl,K⟩
 have hA:=kept_new K hA
 have hB:=kept_new K hB
 have hC:=kept_new K hC
 have L2:=join_below L2 K
 clear K c0 c1 c2 m0 m1
 have c0:w4.cell? ⟨w.heap.size,0,none⟩=some (.int .i64 p):=cell_at hA 0
 have c1:w4.cell? ⟨w.heap.size,1,none⟩=some (.int .i64 q):=cell_at hA 1
 have c2:w4.cell? ⟨w.heap.size,2,none⟩=some (.int .i64 g):=cell_at hA 2
 have m0:w4.cell? ⟨w.heap.size+1,0,none⟩=some (.int .i64 r):=cell_at hB 0
 have m1:w4.cell? ⟨w.heap.size+1,1,none⟩=some (.int .i64 s):=cell_at hB 1
 go_wp2_with fail
 refine(belowQ_val p q g r _ true hbr).mono ?_
 rintro e w5 ⟨rfl,K⟩
 have hA:=kept_new K hA
 have hB:=kept_new K hB
 have hC:=kept_new K hC
 have L2:=join_below L2 K
 clear K c0 c1 c2 m0 m1
 have c0:w5.cell? ⟨w.heap.size,0,none⟩=some (.int .i64 p):=cell_at hA 0
 have c1:w5.cell? ⟨w.heap.size,1,none⟩=some (.int .i64 q):=cell_at hA 1
 have c2:w5.cell? ⟨w.heap.size,2,none⟩=some (.int .i64 g):=cell_at hA 2
 have m0:w5.cell? ⟨w.heap.size+1,0,none⟩=some (.int .i64 r):=cell_at hB 0
 have m1:w5.cell? ⟨w.heap.size+1,1,none⟩=some (.int .i64 s):=cell_at hB 1
 go_wp2_with fail
 refine(belowQ_val p q g s _ true hbs).mono ?_
 rintro e w6 ⟨rfl,K⟩
 have hA:=kept_new K hA
 have hB:=kept_new K hB
 have hC:=kept_new K hC
 have L2:=join_below L2 K
 clear K c0 c1 c2 m0 m1
 have c0:w6.cell? ⟨w.heap.size,0,none⟩=some (.int .i64 p):=cell_at hA 0
 have c1:w6.cell? ⟨w.heap.size,1,none⟩=some (.int .i64 q):=cell_at hA 1
 have c2:w6.cell? ⟨w.heap.size,2,none⟩=some (.int .i64 g):=cell_at hA 2
 have m0:w6.cell? ⟨w.heap.size+1,0,none⟩=some (.int .i64 r):=cell_at hB 0
 have m1:w6.cell? ⟨w.heap.size+1,1,none⟩=some (.int .i64 s):=cell_at hB 1
 go_wp2
 go_region_with ((go_at_call 163;refine(HF.out _).mono ?_;rintro e w7 ⟨rfl,D4⟩;have L4:=L2.drew.trans (drawn_below _ D4);have hA4:=kept_drawn D4 hA;have hB4:=kept_drawn D4 hB;have hC4:=kept_drawn D4 hC;have c0:w7.cell? ⟨w.heap.size,0,none⟩=some (.int .i64 p):=cell_at hA4 0;have c1:w7.cell? ⟨w.heap.size,1,none⟩=some (.int .i64 q):=cell_at hA4 1;have c2:w7.cell? ⟨w.heap.size,2,none⟩=some (.int .i64 g):=cell_at hA4 2;have m0:w7.cell? ⟨w.heap.size+1,0,none⟩=some (.int .i64 r):=cell_at hB4 0;have m1:w7.cell? ⟨w.heap.size+1,1,none⟩=some (.int .i64 s):=cell_at hB4 1;have d0:w7.cell? ⟨w.heap.size+2,0,none⟩=some (.int .i64 0):=cell_at hC4 0;have d1:w7.cell? ⟨w.heap.size+2,1,none⟩=some (.int .i64 0):=cell_at hC4 1;have d2:w7.cell? ⟨w.heap.size+2,2,none⟩=some (.int .i64 0):=cell_at hC4 2;have d3:w7.cell? ⟨w.heap.size+2,3,none⟩=some (.int .i64 0):=cell_at hC4 3;have d4:w7.cell? ⟨w.heap.size+2,4,none⟩=some (.int .i64 0):=cell_at hC4 4;have d5:w7.cell? ⟨w.heap.size+2,5,none⟩=some (.int .i64 0):=cell_at hC4 5;have d6:w7.cell? ⟨w.heap.size+2,6,none⟩=some (.int .i64 0):=cell_at hC4 6;have f0:w7.frozen? ⟨w.heap.size+2,0,none⟩=false:=frozen_at hC4 0;have f1:w7.frozen? ⟨w.heap.size+2,1,none⟩=false:=frozen_at hC4 1;have f2:w7.frozen? ⟨w.heap.size+2,2,none⟩=false:=frozen_at hC4 2;have f3:w7.frozen? ⟨w.heap.size+2,3,none⟩=false:=frozen_at hC4 3;have f4:w7.frozen? ⟨w.heap.size+2,4,none⟩=false:=frozen_at hC4 4;have f5:w7.frozen? ⟨w.heap.size+2,5,none⟩=false:=frozen_at hC4 5;have f6:w7.frozen? ⟨w.heap.size+2,6,none⟩=false:=frozen_at hC4 6;clear hA4 hB4 hC4))
 all_goals
  go_wp2
  refine bodyPost_ret (v:= .tuple #[ev p q g o h r s,.nilIface]) (by simp[results,Tryz.results141,go_sem,d0,d1,d2,d3,d4,d5,d6]) rfl ?_
  exact⟨rfl,((((((L4.setCell (by simp;try omega) _).setCell (by simp;try omega) _).setCell (by simp;try omega) _).setCell (by simp;try omega) _).setCell (by simp;try omega) _).setCell (by simp;try omega) _).setCell (by simp;try omega) _⟩

end Num
end Go.Proofs.YtdcpjicgehdmfaaGreatDoor

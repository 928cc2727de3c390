/- Contracts of the program's functions of chapter 2: the equation of a mark. -/
import Derived.Test.YtdcpjicgehdmfaaGreatDoorSignOnce3
import Derived.Test.YtdcpjicgehdmfaaGreatDoorSignVer
namespace Go.Proofs.YtdcpjicgehdmfaaGreatDoor
namespace Num
open Go.ChangeShapes Go.WideShapes Go.ChangeAt Go.RowKit
set_option linter.unusedSimpArgs false
set_option linter.unusedVariables false

abbrev ev (p q g o h r s:Int):Value:= .agg #[.int .i64 p,.int .i64 q,.int .i64 g,.int .i64 o,.int .i64 h,.int .i64 r,.int .i64 s]

abbrev eb (p q g o h r s:Int):Obj:= .cells #[.int .i64 p,.int .i64 q,.int .i64 g,.int .i64 o,.int .i64 h,.int .i64 r,.int .i64 s] 164

theorem lies_op {p q o:Int} (h2:2≤o∧o≤p-1) (b:Bool) (h:(powV o q p==1)=b):liesV p q o=b:=by
 rw[liesV,h,decide_eq_true (show 1≤o by omega),decide_eq_true (show o<p by omega)]
 rfl

set_option maxHeartbeats 2000000 in
theorem equationOf_no (p q g o r s:Int) (t:ByteArray) (w:World) (ht:t.size≤maxLen) (hn:verOk p q g o r s t=false) (E1:Errs.ErrAt 1 w) (E2:Errs.ErrAt 2 w) (E3:Errs.ErrAt 3 w) (E4:Errs.ErrAt 4 w):
 Calls Tryz.prog 141 #[pv p q g,.int .i64 o,.string t,mv r s] w fun e w'=>(∃a,e= .returned (.tuple #[ev 0 0 0 0 0 0 0,.iface 233 (.pointer (some a))]))∧Below w.heap.size w w':=by
 unfold maxLen at ht
 obtain⟨L0,b1,b2,b3⟩:=three w (pb p q g) (mb r s) (eb 0 0 0 0 0 0 0)
 rcases ver_cases p q g o r s t with⟨h1,hv⟩|⟨h1,h2,hv⟩|⟨h1,h2,h3,hv⟩|⟨h1,h2,h3,h4,hv⟩|⟨h1,h2,h3,h4,h5,hv⟩|⟨h1,h2,h3,h4,h5,h6,hv⟩|⟨h1,h2,h3,h4,h5,h6,hv⟩
 ·have HOK:Hid (okP p q g=false):=h1
  clear hv h1
  go_enter Tryz.func141,Tryz.ntmps141
  go_wp2_with fail
  refine(implParamsOk_is p q g false HOK.out _).mono ?_
  rintro e w3 ⟨rfl,L1⟩
  have hA:=kept_new L1 b1
  have hB:=kept_new L1 b2
  have hC:=kept_new L1 b3
  have L2:=join_below L0 L1
  clear L0 b1 b2 b3 L1
  obtain⟨a,ha⟩:=err_cell (E1.on L2)
  have hgl:=err_lt (err_cell E1).choose_spec
  have hn1:1≠w.heap.size+2:=by omega
  have hn2:w.heap.size+2≠1:=by omega
  have d0:w3.cell? ⟨w.heap.size+2,0,none⟩=some (.int .i64 0):=cell_at hC 0
  have d1:w3.cell? ⟨w.heap.size+2,1,none⟩=some (.int .i64 0):=cell_at hC 1
  have d2:w3.cell? ⟨w.heap.size+2,2,none⟩=some (.int .i64 0):=cell_at hC 2
  have d3:w3.cell? ⟨w.heap.size+2,3,none⟩=some (.int .i64 0):=cell_at hC 3
  have d4:w3.cell? ⟨w.heap.size+2,4,none⟩=some (.int .i64 0):=cell_at hC 4
  have d5:w3.cell? ⟨w.heap.size+2,5,none⟩=some (.int .i64 0):=cell_at hC 5
  have d6:w3.cell? ⟨w.heap.size+2,6,none⟩=some (.int .i64 0):=cell_at hC 6
  have f0:w3.frozen? ⟨w.heap.size+2,0,none⟩=false:=frozen_at hC 0
  have f1:w3.frozen? ⟨w.heap.size+2,1,none⟩=false:=frozen_at hC 1
  have f2:w3.frozen? ⟨w.heap.size+2,2,none⟩=false:=frozen_at hC 2
  have f3:w3.frozen? ⟨w.heap.size+2,3,none⟩=false:=frozen_at hC 3
  have f4:w3.frozen? ⟨w.heap.size+2,4,none⟩=false:=frozen_at hC 4
  have f5:w3.frozen? ⟨w.heap.size+2,5,none⟩=false:=frozen_at hC 5
  have f6:w3.frozen? ⟨w.heap.size+2,6,none⟩=false:=frozen_at hC 6
  clear hA hB hC
  go_wp2
  go_region
  all_goals
   go_wp2
   refine bodyPost_ret (v:= .tuple #[ev 0 0 0 0 0 0 0,.iface 233 (.pointer (some a))]) (by simp[results,Tryz.results141,go_sem,d0,d1,d2,d3,d4,d5,d6]) rfl ?_
   exact⟨⟨a,rfl⟩,(((((((L2.setCell (by simp;try omega) _).setCell (by simp;try omega) _).setCell (by simp;try omega) _).setCell (by simp;try omega) _).setCell (by simp;try omega) _).setCell (by simp;try omega) _).setCell (by simp;try omega) _).drew⟩
 ·by_cases ho:o<2
  ·obtain⟨hp,hq,hq1,hq2,-⟩:=okP_facts h1
   have hm1:=hp.1
   have hm2:=hp.2
   have hm3:=hq.2
   have HOK:Hid (okP p q g=true):=h1
   clear hp hq hv h1
   have hlo:decide (o<2)=true:=decide_eq_true ho
   go_enter Tryz.func141,Tryz.ntmps141
   go_wp2_with fail
   refine(implParamsOk_is p q g true HOK.out _).mono ?_
   rintro e w3 ⟨rfl,L1⟩
   have hA:=kept_new L1 b1
   have hB:=kept_new L1 b2
   have hC:=kept_new L1 b3
   have L2:=join_below L0 L1
   clear L0 b1 b2 b3 L1
   obtain⟨a,ha⟩:=err_cell (E2.on L2)
   have hgl:=err_lt (err_cell E2).choose_spec
   have hn1:2≠w.heap.size+2:=by omega
   have hn2:w.heap.size+2≠2:=by omega
   have d0:w3.cell? ⟨w.heap.size+2,0,none⟩=some (.int .i64 0):=cell_at hC 0
   have d1:w3.cell? ⟨w.heap.size+2,1,none⟩=some (.int .i64 0):=cell_at hC 1
   have d2:w3.cell? ⟨w.heap.size+2,2,none⟩=some (.int .i64 0):=cell_at hC 2
   have d3:w3.cell? ⟨w.heap.size+2,3,none⟩=some (.int .i64 0):=cell_at hC 3
   have d4:w3.cell? ⟨w.heap.size+2,4,none⟩=some (.int .i64 0):=cell_at hC 4
   have d5:w3.cell? ⟨w.heap.size+2,5,none⟩=some (.int .i64 0):=cell_at hC 5
   have d6:w3.cell? ⟨w.heap.size+2,6,none⟩=some (.int .i64 0):=cell_at hC 6
   have f0:w3.frozen? ⟨w.heap.size+2,0,none⟩=false:=frozen_at hC 0
   have f1:w3.frozen? ⟨w.heap.size+2,1,none⟩=false:=frozen_at hC 1
   have f2:w3.frozen? ⟨w.heap.size+2,2,none⟩=false:=frozen_at hC 2
   have f3:w3.frozen? ⟨w.heap.size+2,3,none⟩=false:=frozen_at hC 3
   have f4:w3.frozen? ⟨w.heap.size+2,4,none⟩=false:=frozen_at hC 4
   have f5:w3.frozen? ⟨w.heap.size+2,5,none⟩=false:=frozen_at hC 5
   have f6:w3.frozen? ⟨w.heap.size+2,6,none⟩=false:=frozen_at hC 6
   clear hA hB hC
   go_wp2
   go_region
   all_goals
    go_wp2
    refine bodyPost_ret (v:= .tuple #[ev 0 0 0 0 0 0 0,.iface 233 (.pointer (some a))]) (by simp[results,Tryz.results141,go_sem,d0,d1,d2,d3,d4,d5,d6]) rfl ?_
    exact⟨⟨a,rfl⟩,(((((((L2.setCell (by simp;try omega) _).setCell (by simp;try omega) _).setCell (by simp;try omega) _).setCell (by simp;try omega) _).setCell (by simp;try omega) _).setCell (by simp;try omega) _).setCell (by simp;try omega) _).drew⟩
  ·obtain⟨hp,hq,hq1,hq2,-⟩:=okP_facts h1
   have hm1:=hp.1
   have hm2:=hp.2
   have hm3:=hq.2
   have HOK:Hid (okP p q g=true):=h1
   clear hp hq hv h1
   have hlo:decide (o<2)=false:=decide_eq_false ho
   have HL:Hid (liesV p q o=false):=by show _=_;rw[liesV,decide_eq_false (show ¬o<p by omega)];simp
   go_enter Tryz.func141,Tryz.ntmps141
   go_wp2_with fail
   refine(implParamsOk_is p q g true HOK.out _).mono ?_
   rintro e w3 ⟨rfl,L1⟩
   have hA:=kept_new L1 b1
   have hB:=kept_new L1 b2
   have hC:=kept_new L1 b3
   have L2:=join_below L0 L1
   clear L0 b1 b2 b3 L1
   have c0:w3.cell? ⟨w.heap.size,0,none⟩=some (.int .i64 p):=cell_at hA 0
   have c1:w3.cell? ⟨w.heap.size,1,none⟩=some (.int .i64 q):=cell_at hA 1
   have c2:w3.cell? ⟨w.heap.size,2,none⟩=some (.int .i64 g):=cell_at hA 2
   have m0:w3.cell? ⟨w.heap.size+1,0,none⟩=some (.int .i64 r):=cell_at hB 0
   have m1:w3.cell? ⟨w.heap.size+1,1,none⟩=some (.int .i64 s):=cell_at hB 1
   go_wp2_with fail
   refine(lies_is p q g o false HL.out _).mono ?_
   rintro e w4 ⟨rfl,K⟩
   have hA:=kept_new K hA
   have hB:=kept_new K hB
   have hC:=kept_new K hC
   have L2:=join_below L2 K
   clear K c0 c1 c2 m0 m1
   have c0:w4.cell? ⟨w.heap.size,0,none⟩=some (.int .i64 p):=cell_at hA 0
   have c1:w4.cell? ⟨w.heap.size,1,none⟩=some (.int .i64 q):=cell_at hA 1
   have c2:w4.cell? ⟨w.heap.size,2,none⟩=some (.int .i64 g):=cell_at hA 2
   have m0:w4.cell? ⟨w.heap.size+1,0,none⟩=some (.int .i64 r):=cell_at hB 0
   have m1:w4.cell? ⟨w.heap.size+1,1,none⟩=some (.int .i64 s):=cell_at hB 1
   obtain⟨a,ha⟩:=err_cell (E2.on L2)
   have hgl:=err_lt (err_cell E2).choose_spec
   have hn1:2≠w.heap.size+2:=by omega
   have hn2:w.heap.size+2≠2:=by omega
   have d0:w4.cell? ⟨w.heap.size+2,0,none⟩=some (.int .i64 0):=cell_at hC 0
   have d1:w4.cell? ⟨w.heap.size+2,1,none⟩=some (.int .i64 0):=cell_at hC 1
   have d2:w4.cell? ⟨w.heap.size+2,2,none⟩=some (.int .i64 0):=cell_at hC 2
   have d3:w4.cell? ⟨w.heap.size+2,3,none⟩=some (.int .i64 0):=cell_at hC 3
   have d4:w4.cell? ⟨w.heap.size+2,4,none⟩=some (.int .i64 0):=cell_at hC 4
   have d5:w4.cell? ⟨w.heap.size+2,5,none⟩=some (.int .i64 0):=cell_at hC 5
   have d6:w4.cell? ⟨w.heap.size+2,6,none⟩=some (.int .i64 0):=cell_at hC 6
   have f0:w4.frozen? ⟨w.heap.size+2,0,none⟩=false:=frozen_at hC 0
   have f1:w4.frozen? ⟨w.heap.size+2,1,none⟩=false:=frozen_at hC 1
   have f2:w4.frozen? ⟨w.heap.size+2,2,none⟩=false:=frozen_at hC 2
   have f3:w4.frozen? ⟨w.heap.size+2,3,none⟩=false:=frozen_at hC 3
   have f4:w4.frozen? ⟨w.heap.size+2,4,none⟩=false:=frozen_at hC 4
   have f5:w4.frozen? ⟨w.heap.size+2,5,none⟩=false:=frozen_at hC 5
   have f6:w4.frozen? ⟨w.heap.size+2,6,none⟩=false:=frozen_at hC 6
   clear hA hB hC
   go_wp2
   go_region
   all_goals
    go_wp2
    refine bodyPost_ret (v:= .tuple #[ev 0 0 0 0 0 0 0,.iface 233 (.pointer (some a))]) (by simp[results,Tryz.results141,go_sem,d0,d1,d2,d3,d4,d5,d6]) rfl ?_
    exact⟨⟨a,rfl⟩,(((((((L2.setCell (by simp;try omega) _).setCell (by simp;try omega) _).setCell (by simp;try omega) _).setCell (by simp;try omega) _).setCell (by simp;try omega) _).setCell (by simp;try omega) _).setCell (by simp;try omega) _).drew⟩
 ·obtain⟨hp,hq,hq1,hq2,-⟩:=okP_facts h1
  have hm1:=hp.1
  have hm2:=hp.2
  have hm3:=hq.2
  have HOK:Hid (okP p q g=true):=h1
  clear hp hq hv h1
  have hlo:decide (o<2)=false:=decide_eq_false (by omega)
  have HL:Hid (liesV p q o=false):=lies_op h2 false (by rw[beq_eq_false_iff_ne];exact h3)
  go_enter Tryz.func141,Tryz.ntmps141
  go_wp2_with fail
  refine(implParamsOk_is p q g true HOK.out _).mono ?_
  rintro e w3 ⟨rfl,L1⟩
  have hA:=kept_new L1 b1
  have hB:=kept_new L1 b2
  have hC:=kept_new L1 b3
  have L2:=join_below L0 L1
  clear L0 b1 b2 b3 L1
  have c0:w3.cell? ⟨w.heap.size,0,none⟩=some (.int .i64 p):=cell_at hA 0
  have c1:w3.cell? ⟨w.heap.size,1,none⟩=some (.int .i64 q):=cell_at hA 1
  have c2:w3.cell? ⟨w.heap.size,2,none⟩=some (.int .i64 g):=cell_at hA 2
  have m0:w3.cell? ⟨w.heap.size+1,0,none⟩=some (.int .i64 r):=cell_at hB 0
  have m1:w3.cell? ⟨w.heap.size+1,1,none⟩=some (.int .i64 s):=cell_at hB 1
  go_wp2_with fail
  refine(lies_is p q g o false HL.out _).mono ?_
  rintro e w4 ⟨rfl,K⟩
  have hA:=kept_new K hA
  have hB:=kept_new K hB
  have hC:=kept_new K hC
  have L2:=join_below L2 K
  clear K c0 c1 c2 m0 m1
  have c0:w4.cell? ⟨w.heap.size,0,none⟩=some (.int .i64 p):=cell_at hA 0
  have c1:w4.cell? ⟨w.heap.size,1,none⟩=some (.int .i64 q):=cell_at hA 1
  have c2:w4.cell? ⟨w.heap.size,2,none⟩=some (.int .i64 g):=cell_at hA 2
  have m0:w4.cell? ⟨w.heap.size+1,0,none⟩=some (.int .i64 r):=cell_at hB 0
  have m1:w4.cell? ⟨w.heap.size+1,1,none⟩=some (.int .i64 s):=cell_at hB 1
  obtain⟨a,ha⟩:=err_cell (E2.on L2)
  have hgl:=err_lt (err_cell E2).choose_spec
  have hn1:2≠w.heap.size+2:=by omega
  have hn2:w.heap.size+2≠2:=by omega
  have d0:w4.cell? ⟨w.heap.size+2,0,none⟩=some (.int .i64 0):=cell_at hC 0
  have d1:w4.cell? ⟨w.heap.size+2,1,none⟩=some (.int .i64 0):=cell_at hC 1
  have d2:w4.cell? ⟨w.heap.size+2,2,none⟩=some (.int .i64 0):=cell_at hC 2
  have d3:w4.cell? ⟨w.heap.size+2,3,none⟩=some (.int .i64 0):=cell_at hC 3
  have d4:w4.cell? ⟨w.heap.size+2,4,none⟩=some (.int .i64 0):=cell_at hC 4
  have d5:w4.cell? ⟨w.heap.size+2,5,none⟩=some (.int .i64 0):=cell_at hC 5
  have d6:w4.cell? ⟨w.heap.size+2,6,none⟩=some (.int .i64 0):=cell_at hC 6
  have f0:w4.frozen? ⟨w.heap.size+2,0,none⟩=false:=frozen_at hC 0
  have f1:w4.frozen? ⟨w.heap.size+2,1,none⟩=false:=frozen_at hC 1
  have f2:w4.frozen? ⟨w.heap.size+2,2,none⟩=false:=frozen_at hC 2
  have f3:w4.frozen? ⟨w.heap.size+2,3,none⟩=false:=frozen_at hC 3
  have f4:w4.frozen? ⟨w.heap.size+2,4,none⟩=false:=frozen_at hC 4
  have f5:w4.frozen? ⟨w.heap.size+2,5,none⟩=false:=frozen_at hC 5
  have f6:w4.frozen? ⟨w.heap.size+2,6,none⟩=false:=frozen_at hC 6
  clear hA hB hC
  go_wp2
  go_region
  all_goals
   go_wp2
   refine bodyPost_ret (v:= .tuple #[ev 0 0 0 0 0 0 0,.iface 233 (.pointer (some a))]) (by simp[results,Tryz.results141,go_sem,d0,d1,d2,d3,d4,d5,d6]) rfl ?_
   exact⟨⟨a,rfl⟩,(((((((L2.setCell (by simp;try omega) _).setCell (by simp;try omega) _).setCell (by simp;try omega) _).setCell (by simp;try omega) _).setCell (by simp;try omega) _).setCell (by simp;try omega) _).setCell (by simp;try omega) _).drew⟩
 ·obtain⟨hp,hq,hq1,hq2,-⟩:=okP_facts h1
  have hm1:=hp.1
  have hm2:=hp.2
  have hm3:=hq.2
  have HOK:Hid (okP p q g=true):=h1
  clear hp hq hv h1
  have hlo:decide (o<2)=false:=decide_eq_false (by omega)
  have HL:Hid (liesV p q o=true):=lies_op h2 true (by rw[beq_iff_eq];exact h3)
  have hbr:decide (1≤r∧r<q)=false:=decide_eq_false (by omega)
  go_enter Tryz.func141,Tryz.ntmps141
  go_wp2_with fail
  refine(implParamsOk_is p q g true HOK.out _).mono ?_
  rintro e w3 ⟨rfl,L1⟩
  have hA:=kept_new L1 b1
  have hB:=kept_new L1 b2
  have hC:=kept_new L1 b3
  have L2:=join_below L0 L1
  clear L0 b1 b2 b3 L1
  have c0:w3.cell? ⟨w.heap.size,0,none⟩=some (.int .i64 p):=cell_at hA 0
  have c1:w3.cell? ⟨w.heap.size,1,none⟩=some (.int .i64 q):=cell_at hA 1
  have c2:w3.cell? ⟨w.heap.size,2,none⟩=some (.int .i64 g):=cell_at hA 2
  have m0:w3.cell? ⟨w.heap.size+1,0,none⟩=some (.int .i64 r):=cell_at hB 0
  have m1:w3.cell? ⟨w.heap.size+1,1,none⟩=some (.int .i64 s):=cell_at hB 1
  go_wp2_with fail
  refine(lies_is p q g o true HL.out _).mono ?_
  rintro e w4 ⟨rfl,K⟩
  have hA:=kept_new K hA
  have hB:=kept_new K hB
  have hC:=kept_new K hC
  have L2:=join_below L2 K
  clear K c0 c1 c2 m0 m1
  have c0:w4.cell? ⟨w.heap.size,0,none⟩=some (.int .i64 p):=cell_at hA 0
  have c1:w4.cell? ⟨w.heap.size,1,none⟩=some (.int .i64 q):=cell_at hA 1
  have c2:w4.cell? ⟨w.heap.size,2,none⟩=some (.int .i64 g):=cell_at hA 2
  have m0:w4.cell? ⟨w.heap.size+1,0,none⟩=some (.int .i64 r):=cell_at hB 0
  have m1:w4.cell? ⟨w.heap.size+1,1,none⟩=some (.int .i64 s):=cell_at hB 1
  go_wp2_with fail
  refine(belowQ_val p q g r _ false hbr).mono ?_
  rintro e w5 ⟨rfl,K⟩
  have hA:=kept_new K hA
  have hB:=kept_new K hB
  have hC:=kept_new K hC
  have L2:=join_below L2 K
  clear K c0 c1 c2 m0 m1
  have c0:w5.cell? ⟨w.heap.size,0,none⟩=some (.int .i64 p):=cell_at hA 0
  have c1:w5.cell? ⟨w.heap.size,1,none⟩=some (.int .i64 q):=cell_at hA 1
  have c2:w5.cell? ⟨w.heap.size,2,none⟩=some (.int .i64 g):=cell_at hA 2
  have m0:w5.cell? ⟨w.heap.size+1,0,none⟩=some (.int .i64 r):=cell_at hB 0
  have m1:w5.cell? ⟨w.heap.size+1,1,none⟩=some (.int .i64 s):=cell_at hB 1
  obtain⟨a,ha⟩:=err_cell (E3.on L2)
  have hgl:=err_lt (err_cell E3).choose_spec
  have hn1:3≠w.heap.size+2:=by omega
  have hn2:w.heap.size+2≠3:=by omega
  have d0:w5.cell? ⟨w.heap.size+2,0,none⟩=some (.int .i64 0):=cell_at hC 0
  have d1:w5.cell? ⟨w.heap.size+2,1,none⟩=some (.int .i64 0):=cell_at hC 1
  have d2:w5.cell? ⟨w.heap.size+2,2,none⟩=some (.int .i64 0):=cell_at hC 2
  have d3:w5.cell? ⟨w.heap.size+2,3,none⟩=some (.int .i64 0):=cell_at hC 3
  have d4:w5.cell? ⟨w.heap.size+2,4,none⟩=some (.int .i64 0):=cell_at hC 4
  have d5:w5.cell? ⟨w.heap.size+2,5,none⟩=some (.int .i64 0):=cell_at hC 5
  have d6:w5.cell? ⟨w.heap.size+2,6,none⟩=some (.int .i64 0):=cell_at hC 6
  have f0:w5.frozen? ⟨w.heap.size+2,0,none⟩=false:=frozen_at hC 0
  have f1:w5.frozen? ⟨w.heap.size+2,1,none⟩=false:=frozen_at hC 1
  have f2:w5.frozen? ⟨w.heap.size+2,2,none⟩=false:=frozen_at hC 2
  have f3:w5.frozen? ⟨w.heap.size+2,3,none⟩=false:=frozen_at hC 3
  have f4:w5.frozen? ⟨w.heap.size+2,4,none⟩=false:=frozen_at hC 4
  have f5:w5.frozen? ⟨w.heap.size+2,5,none⟩=false:=frozen_at hC 5
  have f6:w5.frozen? ⟨w.heap.size+2,6,none⟩=false:=frozen_at hC 6
  clear hA hB hC
  go_wp2
  go_region
  all_goals
   go_wp2
   refine bodyPost_ret (v:= .tuple #[ev 0 0 0 0 0 0 0,.iface 233 (.pointer (some a))]) (by simp[results,Tryz.results141,go_sem,d0,d1,d2,d3,d4,d5,d6]) rfl ?_
   exact⟨⟨a,rfl⟩,(((((((L2.setCell (by simp;try omega) _).setCell (by simp;try omega) _).setCell (by simp;try omega) _).setCell (by simp;try omega) _).setCell (by simp;try omega) _).setCell (by simp;try omega) _).setCell (by simp;try omega) _).drew⟩
 ·obtain⟨hp,hq,hq1,hq2,-⟩:=okP_facts h1
  have hm1:=hp.1
  have hm2:=hp.2
  have hm3:=hq.2
  have HOK:Hid (okP p q g=true):=h1
  clear hp hq hv h1
  have hlo:decide (o<2)=false:=decide_eq_false (by omega)
  have HL:Hid (liesV p q o=true):=lies_op h2 true (by rw[beq_iff_eq];exact h3)
  have hbr:decide (1≤r∧r<q)=true:=decide_eq_true (by omega)
  have hbs:decide (1≤s∧s<q)=false:=decide_eq_false (by omega)
  go_enter Tryz.func141,Tryz.ntmps141
  go_wp2_with fail
  refine(implParamsOk_is p q g true HOK.out _).mono ?_
  rintro e w3 ⟨rfl,L1⟩
  have hA:=kept_new L1 b1
  have hB:=kept_new L1 b2
  have hC:=kept_new L1 b3
  have L2:=join_below L0 L1
  clear L0 b1 b2 b3 L1
  have c0:w3.cell? ⟨w.heap.size,0,none⟩=some (.int .i64 p):=cell_at hA 0
  have c1:w3.cell? ⟨w.heap.size,1,none⟩=some (.int .i64 q):=cell_at hA 1
  have c2:w3.cell? ⟨w.heap.size,2,none⟩=some (.int .i64 g):=cell_at hA 2
  have m0:w3.cell? ⟨w.heap.size+1,0,none⟩=some (.int .i64 r):=cell_at hB 0
  have m1:w3.cell? ⟨w.heap.size+1,1,none⟩=some (.int .i64 s):=cell_at hB 1
  go_wp2_with fail
  refine(lies_is p q g o true HL.out _).mono ?_
  rintro e w4 ⟨rfl,K⟩
  have hA:=kept_new K hA
  have hB:=kept_new K hB
  have hC:=kept_new K hC
  have L2:=join_below L2 K
  clear K c0 c1 c2 m0 m1
  have c0:w4.cell? ⟨w.heap.size,0,none⟩=some (.int .i64 p):=cell_at hA 0
  have c1:w4.cell? ⟨w.heap.size,1,none⟩=some (.int .i64 q):=cell_at hA 1
  have c2:w4.cell? ⟨w.heap.size,2,none⟩=some (.int .i64 g):=cell_at hA 2
  have m0:w4.cell? ⟨w.heap.size+1,0,none⟩=some (.int .i64 r):=cell_at hB 0
  have m1:w4.cell? ⟨w.heap.size+1,1,none⟩=some (.int .i64 s):=cell_at hB 1
  go_wp2_with fail
  refine(belowQ_val p q g r _ true hbr).mono ?_
  rintro e w5 ⟨rfl,K⟩
  have hA:=kept_new K hA
  have hB:=kept_new K hB
  have hC:=kept_new K hC
  have L2:=join_below L2 K
  clear K c0 c1 c2 m0 m1
  have c0:w5.cell? ⟨w.heap.size,0,none⟩=some (.int .i64 p):=cell_at hA 0
  have c1:w5.cell? ⟨w.heap.size,1,none⟩=some (.int .i64 q):=cell_at hA 1
  have c2:w5.cell? ⟨w.heap.size,2,none⟩=some (.int .i64 g):=cell_at hA 2
  have m0:w5.cell? ⟨w.heap.size+1,0,none⟩=some (.int .i64 r):=cell_at hB 0
  have m1:w5.cell? ⟨w.heap.size+1,1,none⟩=some (.int .i64 s):=cell_at hB 1
  go_wp2_with fail
  refine(belowQ_val p q g s _ false hbs).mono ?_
  rintro e w6 ⟨rfl,K⟩
  have hA:=kept_new K hA
  have hB:=kept_new K hB
  have hC:=kept_new K hC
  have L2:=join_below L2 K
  clear K c0 c1 c2 m0 m1
  have c0:w6.cell? ⟨w.heap.size,0,none⟩=some (.int .i64 p):=cell_at hA 0
  have c1:w6.cell? ⟨w.heap.size,1,none⟩=some (.int .i64 q):=cell_at hA 1
  have c2:w6.cell? ⟨w.heap.size,2,none⟩=some (.int .i64 g):=cell_at hA 2
  have m0:w6.cell? ⟨w.heap.size+1,0,none⟩=some (.int .i64 r):=cell_at hB 0
  have m1:w6.cell? ⟨w.heap.size+1,1,none⟩=some (.int .i64 s):=cell_at hB 1
  obtain⟨a,ha⟩:=err_cell (E3.on L2)
  have hgl:=err_lt (err_cell E3).choose_spec
  have hn1:3≠w.heap.size+2:=by omega
  have hn2:w.heap.size+2≠3:=by omega
  have d0:w6.cell? ⟨w.heap.size+2,0,none⟩=some (.int .i64 0):=cell_at hC 0
  have d1:w6.cell? ⟨w.heap.size+2,1,none⟩=some (.int .i64 0):=cell_at hC 1
  have d2:w6.cell? ⟨w.heap.size+2,2,none⟩=some (.int .i64 0):=cell_at hC 2
  have d3:w6.cell? ⟨w.heap.size+2,3,none⟩=some (.int .i64 0):=cell_at hC 3
  have d4:w6.cell? ⟨w.heap.size+2,4,none⟩=some (.int .i64 0):=cell_at hC 4
  have d5:w6.cell? ⟨w.heap.size+2,5,none⟩=some (.int .i64 0):=cell_at hC 5
  have d6:w6.cell? ⟨w.heap.size+2,6,none⟩=some (.int .i64 0):=cell_at hC 6
  have f0:w6.frozen? ⟨w.heap.size+2,0,none⟩=false:=frozen_at hC 0
  have f1:w6.frozen? ⟨w.heap.size+2,1,none⟩=false:=frozen_at hC 1
  have f2:w6.frozen? ⟨w.heap.size+2,2,none⟩=false:=frozen_at hC 2
  have f3:w6.frozen? ⟨w.heap.size+2,3,none⟩=false:=frozen_at hC 3
  have f4:w6.frozen? ⟨w.heap.size+2,4,none⟩=false:=frozen_at hC 4
  have f5:w6.frozen? ⟨w.heap.size+2,5,none⟩=false:=frozen_at hC 5
  have f6:w6.frozen? ⟨w.heap.size+2,6,none⟩=false:=frozen_at hC 6
  clear hA hB hC
  go_wp2
  go_region
  all_goals
   go_wp2
   refine bodyPost_ret (v:= .tuple #[ev 0 0 0 0 0 0 0,.iface 233 (.pointer (some a))]) (by simp[results,Tryz.results141,go_sem,d0,d1,d2,d3,d4,d5,d6]) rfl ?_
   exact⟨⟨a,rfl⟩,(((((((L2.setCell (by simp;try omega) _).setCell (by simp;try omega) _).setCell (by simp;try omega) _).setCell (by simp;try omega) _).setCell (by simp;try omega) _).setCell (by simp;try omega) _).setCell (by simp;try omega) _).drew⟩
 ·obtain⟨hp,hq,hq1,hq2,-⟩:=okP_facts h1
  have hm1:=hp.1
  have hm2:=hp.2
  have hm3:=hq.2
  have HOK:Hid (okP p q g=true):=h1
  clear hp hq hv h1
  have hlo:decide (o<2)=false:=decide_eq_false (by omega)
  have HL:Hid (liesV p q o=true):=lies_op h2 true (by rw[beq_iff_eq];exact h3)
  have hbr:decide (1≤r∧r<q)=true:=decide_eq_true (by omega)
  have hbs:decide (1≤s∧s<q)=true:=decide_eq_true (by omega)
  have hd:decide ((5000:Int)<t.size)=true:=by simp;omega
  go_enter Tryz.func141,Tryz.ntmps141
  go_wp2_with fail
  refine(implParamsOk_is p q g true HOK.out _).mono ?_
  rintro e w3 ⟨rfl,L1⟩
  have hA:=kept_new L1 b1
  have hB:=kept_new L1 b2
  have hC:=kept_new L1 b3
  have L2:=join_below L0 L1
  clear L0 b1 b2 b3 L1
  have c0:w3.cell? ⟨w.heap.size,0,none⟩=some (.int .i64 p):=cell_at hA 0
  have c1:w3.cell? ⟨w.heap.size,1,none⟩=some (.int .i64 q):=cell_at hA 1
  have c2:w3.cell? ⟨w.heap.size,2,none⟩=some (.int .i64 g):=cell_at hA 2
  have m0:w3.cell? ⟨w.heap.size+1,0,none⟩=some (.int .i64 r):=cell_at hB 0
  have m1:w3.cell? ⟨w.heap.size+1,1,none⟩=some (.int .i64 s):=cell_at hB 1
  go_wp2_with fail
  refine(lies_is p q g o true HL.out _).mono ?_
  rintro e w4 ⟨rfl,K⟩
  have hA:=kept_new K hA
  have hB:=kept_new K hB
  have hC:=kept_new K hC
  have L2:=join_below L2 K
  clear K c0 c1 c2 m0 m1
  have c0:w4.cell? ⟨w.heap.size,0,none⟩=some (.int .i64 p):=cell_at hA 0
  have c1:w4.cell? ⟨w.heap.size,1,none⟩=some (.int .i64 q):=cell_at hA 1
  have c2:w4.cell? ⟨w.heap.size,2,none⟩=some (.int .i64 g):=cell_at hA 2
  have m0:w4.cell? ⟨w.heap.size+1,0,none⟩=some (.int .i64 r):=cell_at hB 0
  have m1:w4.cell? ⟨w.heap.size+1,1,none⟩=some (.int .i64 s):=cell_at hB 1
  go_wp2_with fail
  refine(belowQ_val p q g r _ true hbr).mono ?_
  rintro e w5 ⟨rfl,K⟩
  have hA:=kept_new K hA
  have hB:=kept_new K hB
  have hC:=kept_new K hC
  have L2:=join_below L2 K
  clear K c0 c1 c2 m0 m1
  have c0:w5.cell? ⟨w.heap.size,0,none⟩=some (.int .i64 p):=cell_at hA 0
  have c1:w5.cell? ⟨w.heap.size,1,none⟩=some (.int .i64 q):=cell_at hA 1
  have c2:w5.cell? ⟨w.heap.size,2,none⟩=some (.int .i64 g):=cell_at hA 2
  have m0:w5.cell? ⟨w.heap.size+1,0,none⟩=some (.int .i64 r):=cell_at hB 0
  have m1:w5.cell? ⟨w.heap.size+1,1,none⟩=some (.int .i64 s):=cell_at hB 1
  go_wp2_with fail
  refine(belowQ_val p q g s _ true hbs).mono ?_
  rintro e w6 ⟨rfl,K⟩
  have hA:=kept_new K hA
  have hB:=kept_new K hB
  have hC:=kept_new K hC
  have L2:=join_below L2 K
  clear K c0 c1 c2 m0 m1
  have c0:w6.cell? ⟨w.heap.size,0,none⟩=some (.int .i64 p):=cell_at hA 0
  have c1:w6.cell? ⟨w.heap.size,1,none⟩=some (.int .i64 q):=cell_at hA 1
  have c2:w6.cell? ⟨w.heap.size,2,none⟩=some (.int .i64 g):=cell_at hA 2
  have m0:w6.cell? ⟨w.heap.size+1,0,none⟩=some (.int .i64 r):=cell_at hB 0
  have m1:w6.cell? ⟨w.heap.size+1,1,none⟩=some (.int .i64 s):=cell_at hB 1
  obtain⟨a,ha⟩:=err_cell (E4.on L2)
  have hgl:=err_lt (err_cell E4).choose_spec
  have hn1:4≠w.heap.size+2:=by omega
  have hn2:w.heap.size+2≠4:=by omega
  have d0:w6.cell? ⟨w.heap.size+2,0,none⟩=some (.int .i64 0):=cell_at hC 0
  have d1:w6.cell? ⟨w.heap.size+2,1,none⟩=some (.int .i64 0):=cell_at hC 1
  have d2:w6.cell? ⟨w.heap.size+2,2,none⟩=some (.int .i64 0):=cell_at hC 2
  have d3:w6.cell? ⟨w.heap.size+2,3,none⟩=some (.int .i64 0):=cell_at hC 3
  have d4:w6.cell? ⟨w.heap.size+2,4,none⟩=some (.int .i64 0):=cell_at hC 4
  have d5:w6.cell? ⟨w.heap.size+2,5,none⟩=some (.int .i64 0):=cell_at hC 5
  have d6:w6.cell? ⟨w.heap.size+2,6,none⟩=some (.int .i64 0):=cell_at hC 6
  have f0:w6.frozen? ⟨w.heap.size+2,0,none⟩=false:=frozen_at hC 0
  have f1:w6.frozen? ⟨w.heap.size+2,1,none⟩=false:=frozen_at hC 1
  have f2:w6.frozen? ⟨w.heap.size+2,2,none⟩=false:=frozen_at hC 2
  have f3:w6.frozen? ⟨w.heap.size+2,3,none⟩=false:=frozen_at hC 3
  have f4:w6.frozen? ⟨w.heap.size+2,4,none⟩=false:=frozen_at hC 4
  have f5:w6.frozen? ⟨w.heap.size+2,5,none⟩=false:=frozen_at hC 5
  have f6:w6.frozen? ⟨w.heap.size+2,6,none⟩=false:=frozen_at hC 6
  clear hA hB hC
  go_wp2
  go_region
  all_goals
   go_wp2
   refine bodyPost_ret (v:= .tuple #[ev 0 0 0 0 0 0 0,.iface 233 (.pointer (some a))]) (by simp[results,Tryz.results141,go_sem,d0,d1,d2,d3,d4,d5,d6]) rfl ?_
   exact⟨⟨a,rfl⟩,(((((((L2.setCell (by simp;try omega) _).setCell (by simp;try omega) _).setCell (by simp;try omega) _).setCell (by simp;try omega) _).setCell (by simp;try omega) _).setCell (by simp;try omega) _).setCell (by simp;try omega) _).drew⟩
 ·rw[hv]at hn
  cases hn

end Num
end Go.Proofs.YtdcpjicgehdmfaaGreatDoor

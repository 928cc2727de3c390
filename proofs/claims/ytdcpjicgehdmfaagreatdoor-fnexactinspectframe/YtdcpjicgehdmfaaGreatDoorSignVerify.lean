/- Contract of the program's Verify: the two sides of the equation, held against each other. -/
import Derived.Test.YtdcpjicgehdmfaaGreatDoorSignEq2
namespace Go.Proofs.YtdcpjicgehdmfaaGreatDoor
namespace Num
open Go.ChangeShapes Go.WideShapes Go.ChangeAt Go.RowKit
set_option linter.unusedSimpArgs false
set_option linter.unusedVariables false

theorem told_val (p q g o h r s:Int) (w:World):
 Calls Tryz.prog 144 #[ev p q g o h r s] w fun e w'=>e= .returned (.int .i64 r)∧Below w.heap.size w w':=by
 go_enter Tryz.func144,Tryz.ntmps144
 go_wp2
 go_ret
 exact⟨rfl,new_below _ _⟩

set_option maxHeartbeats 1000000 in
theorem powers_val (p q g o h r s:Int) (w:World):
 Calls Tryz.prog 143 #[ev p q g o h r s] w fun e w'=>e= .returned (.int .i64 (eqV p q g o h r s))∧Below w.heap.size w w':=by
 obtain⟨L0,b1,b2⟩:=two w (eb p q g o h r s) (pb p q g)
 have HE:Hid (eqV p q g o h r s=modV (mulV (powV g (mulV h (invI s q) q) p) (powV o (mulV r (invI s q) q) p) p) q):=rfl
 go_enter Tryz.func143,Tryz.ntmps143
 go_wp2_with fail
 refine(implInverse_is s q _).mono ?_
 rintro e w3 ⟨rfl,D1⟩
 have hA:=kept_drawn D1 b1
 have hB:=kept_drawn D1 b2
 have L2:=L0.trans (drawn_below _ D1)
 have x1:w3.cell? ⟨w.heap.size,3,none⟩=some (.int .i64 o):=cell_at hA 3
 have x2:w3.cell? ⟨w.heap.size,4,none⟩=some (.int .i64 h):=cell_at hA 4
 have x3:w3.cell? ⟨w.heap.size,5,none⟩=some (.int .i64 r):=cell_at hA 5
 have x4:w3.cell? ⟨w.heap.size,6,none⟩=some (.int .i64 s):=cell_at hA 6
 have c0:w3.cell? ⟨w.heap.size+1,0,none⟩=some (.int .i64 p):=cell_at hB 0
 have c1:w3.cell? ⟨w.heap.size+1,1,none⟩=some (.int .i64 q):=cell_at hB 1
 have c2:w3.cell? ⟨w.heap.size+1,2,none⟩=some (.int .i64 g):=cell_at hB 2
 clear L0 b1 b2 D1 hA hB
 generalize invI s q=i at*
 generalize invB s q=bi at*
 go_wp2_with fail
 refine(implMulMod_val h i q _).mono ?_
 rintro e w4 ⟨rfl,rfl⟩
 generalize mulV h i q=u at*
 go_wp2_with fail
 refine(implMulMod_val r i q _).mono ?_
 rintro e w5 ⟨rfl,rfl⟩
 generalize mulV r i q=v at*
 go_wp2
 go_quiet (first|(go_at_call 166;exact Calls.quiet_of_same (implPowMod_val _ _ _ _))|(go_at_call 165;exact Calls.quiet_of_same (implMulMod_val _ _ _ _))|(go_at_call 67;exact Calls.quiet_of_same (implMod_val _ _ _)))
 rw[←HE.out]
 go_wp2
 go_ret
 exact⟨rfl,L2.trans (drawn_below _ ⟨_,rfl⟩)⟩

theorem answerAlike_val (p q g o h r s:Int) (w:World):
 Calls Tryz.prog 142 #[.func (.func 143) #[ev p q g o h r s] #[],.func (.func 144) #[ev p q g o h r s] #[]] w fun e w'=>e= .returned (.bool (eqV p q g o h r s==r))∧Below w.heap.size w w':=by
 go_enter Tryz.func142,Tryz.ntmps142
 go_wp2_with fail
 refine(powers_val p q g o h r s _).mono ?_
 rintro e w1 ⟨rfl,L1⟩
 go_wp2_with fail
 refine(told_val p q g o h r s _).mono ?_
 rintro e w2 ⟨rfl,L2⟩
 go_wp2
 go_ret
 exact⟨rfl,join_below L1 L2⟩

set_option maxHeartbeats 1000000 in
theorem implVerify_val (p q g o r s:Int) (t:ByteArray) (w:World) (ht:t.size≤maxLen) (E1:Errs.ErrAt 1 w) (E2:Errs.ErrAt 2 w) (E3:Errs.ErrAt 3 w) (E4:Errs.ErrAt 4 w):
 Calls Tryz.prog 117 #[pv p q g,.int .i64 o,.string t,mv r s] w fun e w'=>e= .returned (.bool (verV p q g o r s t))∧Below w.heap.size w w':=by
 have hmf:∀(fn:Fn) (first cap:Array Value) (w:World),(Instr.makeFunc fn first cap).run Tryz.prog w= .ok (.func fn first cap) w:=fun _ _ _ _=>rfl
 obtain⟨L0,b1,b2⟩:=two w (pb p q g) (mb r s)
 cases hv:verOk p q g o r s t
 ·have HV:Hid (verV p q g o r s t=false):=verV_no hv
  have HN:Hid (verOk p q g o r s t=false):=hv
  clear hv
  go_enter Tryz.func117,Tryz.ntmps117
  go_wp2_with fail
  refine(equationOf_no p q g o r s t _ ht HN.out (E1.on L0) (E2.on L0) (E3.on L0) (E4.on L0)).mono ?_
  rintro e w3 ⟨⟨a,rfl⟩,L1⟩
  have L2:=join_below L0 L1
  go_wp2
  go_ret
  rw[HV.out]
  exact⟨rfl,L2.alloc L2.size _⟩
 ·have HV:Hid (verV p q g o r s t=(eqV p q g o (hV t q) r s==r)):=by show _=_;rw[verV,hv,Bool.true_and]
  have HN:Hid (verOk p q g o r s t=true):=hv
  clear hv
  go_enter Tryz.func117,Tryz.ntmps117
  go_wp2_with fail
  refine(equationOf_yes p q g o r s t _ HN.out).mono ?_
  rintro e w3 ⟨rfl,L1⟩
  generalize hV t q=h at*
  have L2:=join_below L0 L1
  go_wp2_with fail
  refine(answerAlike_val p q g o h r s _).mono ?_
  rintro e w4 ⟨rfl,L3⟩
  go_wp2
  go_ret
  rw[HV.out]
  exact⟨rfl,join_below (L2.alloc L2.size _) L3⟩

end Num
end Go.Proofs.YtdcpjicgehdmfaaGreatDoor

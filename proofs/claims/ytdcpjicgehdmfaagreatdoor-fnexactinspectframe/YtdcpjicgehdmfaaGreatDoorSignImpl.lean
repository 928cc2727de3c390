/- Contracts of the program's functions of chapter 2: parameters; below the heap's old size nothing has turned. -/
import Derived.Test.YtdcpjicgehdmfaaGreatDoorNumSignVal
import Derived.Below
namespace Go.Proofs.YtdcpjicgehdmfaaGreatDoor
namespace Num
open Go.ChangeShapes Go.WideShapes Go.ChangeAt Go.RowKit
set_option linter.unusedSimpArgs false
set_option linter.unusedVariables false

def liesV (p q x:Int):Bool:=decide (1≤x)&&decide (x<p)&&(powV x q p==1)

theorem new_below (w:World) (o:Obj):Below w.heap.size w (w.alloc o):=(Below.refl _ _).alloc (Nat.le_refl _) _

theorem join_below {w w1 w2:World} (h:Below w.heap.size w w1) (k:Below w1.heap.size w1 w2):Below w.heap.size w w2:=h.trans (k.mono h.size)

theorem lies_val (p q g x:Int) (w:World):
 Calls Tryz.prog 161 #[.agg #[.int .i64 p,.int .i64 q,.int .i64 g],.int .i64 x] w fun e w'=>e= .returned (.bool (liesV p q x))∧Below w.heap.size w w':=by
 by_cases h1:1≤x
 ·by_cases h2:x<p
  ·have HV:Hid (liesV p q x=(powV x q p==1)):=by show _=_;simp[liesV,h1,h2]
   go_enter Tryz.func161,Tryz.ntmps161
   go_wp2_with fail
   refine(implPowMod_val x q p _).mono ?_
   rintro e w1 ⟨rfl,rfl⟩
   go_wp2
   go_ret
   rw[HV.out]
   exact⟨rfl,new_below _ _⟩
  ·have HV:Hid (liesV p q x=false):=by show _=_;simp[liesV,h2]
   have hd:decide (x<p)=false:=decide_eq_false h2
   go_enter Tryz.func161,Tryz.ntmps161
   go_wp2
   go_ret
   rw[HV.out]
   exact⟨by simp,new_below _ _⟩
 ·have HV:Hid (liesV p q x=false):=by show _=_;simp[liesV,h1]
  have hd:decide (1≤x)=false:=decide_eq_false h1
  go_enter Tryz.func161,Tryz.ntmps161
  go_wp2
  go_ret
  rw[HV.out]
  exact⟨by simp,new_below _ _⟩

theorem belowQ_val (p q g x:Int) (w:World) (c:Bool) (hc:decide (1≤x∧x<q)=c):
 Calls Tryz.prog 162 #[.agg #[.int .i64 p,.int .i64 q,.int .i64 g],.int .i64 x] w fun e w'=>e= .returned (.bool c)∧Below w.heap.size w w':=by
 subst hc
 by_cases h1:1≤x
 ·go_enter Tryz.func162,Tryz.ntmps162
  go_wp2
  go_ret
  exact⟨by simp[h1],new_below _ _⟩
 ·have hd:decide (1≤x)=false:=decide_eq_false h1
  go_enter Tryz.func162,Tryz.ntmps162
  go_wp2
  go_ret
  exact⟨by simp[h1],new_below _ _⟩

theorem lies_is (p q g x:Int) (b:Bool) (h:liesV p q x=b) (w:World):
 Calls Tryz.prog 161 #[.agg #[.int .i64 p,.int .i64 q,.int .i64 g],.int .i64 x] w fun e w'=>e= .returned (.bool b)∧Below w.heap.size w w':=by
 subst h
 exact lies_val p q g x w

theorem implPrime_is (n:Int) (b:Bool) (h:primeV n=b) (w:World):
 Calls Tryz.prog 178 #[.int .i64 n] w fun e w'=>e= .returned (.bool b)∧w'=w:=by
 subst h
 exact implPrime_val n w

theorem cells3 {w w1:World} {p q g:Int} {t:TypeId} (L:Below (w.alloc (.cells #[.int .i64 p,.int .i64 q,.int .i64 g] t)).heap.size (w.alloc (.cells #[.int .i64 p,.int .i64 q,.int .i64 g] t)) w1):
 w1.cell? ⟨w.heap.size,0,none⟩=some (.int .i64 p)∧w1.cell? ⟨w.heap.size,1,none⟩=some (.int .i64 q)∧w1.cell? ⟨w.heap.size,2,none⟩=some (.int .i64 g):=by
 refine⟨?_,?_,?_⟩
 ·rw[L.cell (by simp)];exact World.cell?_alloc_mark _ _ _ _ 0
 ·rw[L.cell (by simp)];exact World.cell?_alloc_mark _ _ _ _ 1
 ·rw[L.cell (by simp)];exact World.cell?_alloc_mark _ _ _ _ 2

theorem implParamsOk_val (p q g:Int) (w:World):
 Calls Tryz.prog 160 #[.agg #[.int .i64 p,.int .i64 q,.int .i64 g]] w fun e w'=>e= .returned (.bool (okP p q g))∧Below w.heap.size w w':=by
 by_cases hm:Meas p
 ·obtain⟨hm1,hm2⟩:=hm
  by_cases h2:100≤q
  ·by_cases h3:(p-1)%q=0
   ·have h3':((p-1)%q !=0)=false:=by rw[bne_eq_false_iff_eq];exact h3
    by_cases h4:2≤g
    ·cases h5:liesV p q g
     ·have HV:Hid (okP p q g=false):=by
       show _=_
       by_cases hx:g≤p-1
       ·have e:powV g q p≠1:=by
         intro hh
         rw[liesV,hh]at h5
         simp at h5
         omega
        simp[okP,e]
       ·simp[okP,hx]
      have H5:Hid (liesV p q g=false):=h5
      clear h5 h3
      go_enter Tryz.func160,Tryz.ntmps160
      go_wp2_with (go_at_call 105;refine(isMeasure_yes _ _ hm1 hm2).mono ?_;rintro e w' ⟨rfl,rfl⟩)
      refine(lies_is p q g g false H5.out _).mono ?_
      rintro e w1 ⟨rfl,L1⟩
      go_wp2
      go_ret
      rw[HV.out]
      exact⟨rfl,(new_below w _).trans (L1.mono (new_below w _).size)⟩
     ·have hg:g≤p-1∧powV g q p=1:=by
       simp only[liesV,Bool.and_eq_true,decide_eq_true_eq,beq_iff_eq]at h5
       exact⟨by omega,h5.2⟩
      have H5:Hid (liesV p q g=true):=h5
      have HP:Hid (powV g q p=1):=hg.2
      have hg1:=hg.1
      clear h5 hg
      cases h6:primeV q
      ·have HV:Hid (okP p q g=false):=by show _=_;simp[okP,h6]
       have H6:Hid (primeV q=false):=h6
       clear h6 h3
       go_enter Tryz.func160,Tryz.ntmps160
       go_wp2_with (go_at_call 105;refine(isMeasure_yes _ _ hm1 hm2).mono ?_;rintro e w' ⟨rfl,rfl⟩)
       refine(lies_is p q g g true H5.out _).mono ?_
       rintro e w1 ⟨rfl,L1⟩
       obtain⟨c0,c1,c2⟩:=cells3 L1
       go_wp2_with fail
       refine(implPrime_is q false H6.out _).mono ?_
       rintro e w2 ⟨rfl,rfl⟩
       go_wp2
       go_ret
       rw[HV.out]
       exact⟨rfl,(new_below w _).trans (L1.mono (new_below w _).size)⟩
      ·have HV:Hid (okP p q g=primeV p):=by show _=_;rw[Bool.eq_iff_iff];simp[okP,h6,h2,h3,h4,hg1,HP.out]
       have H6:Hid (primeV q=true):=h6
       clear h6 h3
       go_enter Tryz.func160,Tryz.ntmps160
       go_wp2_with (go_at_call 105;refine(isMeasure_yes _ _ hm1 hm2).mono ?_;rintro e w' ⟨rfl,rfl⟩)
       refine(lies_is p q g g true H5.out _).mono ?_
       rintro e w1 ⟨rfl,L1⟩
       obtain⟨c0,c1,c2⟩:=cells3 L1
       go_wp2_with fail
       refine(implPrime_is q true H6.out _).mono ?_
       rintro e w2 ⟨rfl,rfl⟩
       go_wp2_with fail
       refine(implPrime_val p _).mono ?_
       rintro e w3 ⟨rfl,rfl⟩
       go_wp2
       go_ret
       rw[HV.out]
       exact⟨rfl,(new_below w _).trans (L1.mono (new_below w _).size)⟩
    ·have HV:Hid (okP p q g=false):=by show _=_;simp[okP,h4]
     have hd:decide (2≤g)=false:=decide_eq_false h4
     clear h3
     go_enter Tryz.func160,Tryz.ntmps160
     go_wp2_with (go_at_call 105;refine(isMeasure_yes _ _ hm1 hm2).mono ?_;rintro e w' ⟨rfl,rfl⟩)
     go_ret
     rw[HV.out]
     exact⟨by simp,new_below _ _⟩
   ·have HV:Hid (okP p q g=false):=by show _=_;simp[okP,h3]
    have h3':((p-1)%q !=0)=true:=by rw[bne_iff_ne];exact h3
    clear h3
    go_enter Tryz.func160,Tryz.ntmps160
    go_wp2_with (go_at_call 105;refine(isMeasure_yes _ _ hm1 hm2).mono ?_;rintro e w' ⟨rfl,rfl⟩)
    go_ret
    rw[HV.out]
    exact⟨rfl,new_below _ _⟩
  ·have HV:Hid (okP p q g=false):=by show _=_;simp[okP,h2]
   go_enter Tryz.func160,Tryz.ntmps160
   go_wp2_with (go_at_call 105;refine(isMeasure_yes _ _ hm1 hm2).mono ?_;rintro e w' ⟨rfl,rfl⟩)
   go_ret
   rw[HV.out]
   exact⟨rfl,new_below _ _⟩
 ·have HV:Hid (okP p q g=false):=by show _=_;simp[okP,primeV_no hm]
  have hm':=not_meas hm
  clear hm
  go_enter Tryz.func160,Tryz.ntmps160
  go_wp2_with (go_at_call 105;refine(isMeasure_no _ _ hm').mono ?_;rintro e w' ⟨rfl,rfl⟩)
  go_ret
  rw[HV.out]
  exact⟨rfl,new_below _ _⟩

theorem toParams_val (p q g:Int) (w:World):
 Calls Tryz.prog 17 #[.agg #[.int .i64 p,.int .i64 q,.int .i64 g]] w fun e w'=>e= .returned (.agg #[.int .i64 p,.int .i64 q,.int .i64 g])∧Below w.heap.size w w':=by
 go_enter Tryz.func17,Tryz.ntmps17
 go_wp2
 refine bodyPost_ret (v:= .agg #[.int .i64 p,.int .i64 q,.int .i64 g]) (by simp[results,Tryz.results17,go_sem]) rfl ?_
 refine⟨rfl,?_⟩
 first
  |exact(((new_below w _).alloc (by simp) _).alloc (by simp;omega) _)
  |(repeat' (first|apply Below.setCell|apply Below.alloc|exact Below.refl _ _))<;>simp

end Num
end Go.Proofs.YtdcpjicgehdmfaaGreatDoor

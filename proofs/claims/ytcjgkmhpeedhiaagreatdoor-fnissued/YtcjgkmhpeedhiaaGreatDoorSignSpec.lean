/- Contracts of the model's functions of chapter 2: what each returns; below the heap's old size nothing has turned. -/
import Derived.Test.YtcjgkmhpeedhiaaGreatDoorNumSignVal
import Derived.Test.YtcjgkmhpeedhiaaGreatDoorNumFold
import Derived.Below
import Derived.Deep.RegionWith
namespace Go.Proofs.YtcjgkmhpeedhiaaGreatDoor
namespace Num
open Go.ChangeShapes Go.WideShapes Go.ChangeAt Go.RowKit

abbrev pv (p q g:Int):Value:= .agg #[.int .i64 p,.int .i64 q,.int .i64 g]

abbrev mv (r s:Int):Value:= .agg #[.int .i64 r,.int .i64 s]

theorem drawn_below {w w1:World} (B:Nat) (h:Drawn w w1):Below B w w1:=by
 obtain⟨q,rfl⟩:=h
 exact⟨rfl,rfl,rfl,Nat.le_refl _,fun _ _=>rfl⟩

theorem specPrime_is (n:Int) (b:Bool) (h:primeV n=b) (w:World):
 Calls Tryz.prog 95 #[.int .i64 n] w fun e w'=>e= .returned (.bool b)∧w'=w:=by
 subst h
 exact specPrime_val n w

theorem specIn_is (x a b:Int) (c:Bool) (h:decide (a≤x∧x≤b)=c) (w:World):
 Calls Tryz.prog 55 #[.int .i64 x,.int .i64 a,.int .i64 b] w fun e w'=>e= .returned (.bool c)∧w'=w:=by
 subst h
 exact l01In_any x a b w

theorem specParamsOk_val (p q g:Int) (w:World):
 Calls Tryz.prog 54 #[pv p q g] w fun e w'=>e= .returned (.bool (okP p q g))∧Below w.heap.size w w':=by
 cases h1:primeV p
 ·have HV:Hid (okP p q g=false):=by show _=_;simp[okP,h1]
  have H1:Hid (primeV p=false):=h1
  clear h1
  go_enter Tryz.func54,Tryz.ntmps54
  go_wp2_with fail
  refine(specPrime_is p false H1.out _).mono ?_
  rintro e w1 ⟨rfl,rfl⟩
  go_wp2
  go_ret
  rw[HV.out]
  exact⟨rfl,(Below.refl _ _).alloc (Nat.le_refl _) _⟩
 obtain⟨hp1,hp2⟩:=primeV_meas p h1
 cases h2:primeV q
 ·have HV:Hid (okP p q g=false):=by show _=_;simp[okP,h2]
  have H1:Hid (primeV p=true):=h1
  have H2:Hid (primeV q=false):=h2
  clear h1 h2
  go_enter Tryz.func54,Tryz.ntmps54
  go_wp2_with fail
  refine(specPrime_is p true H1.out _).mono ?_
  rintro e w1 ⟨rfl,rfl⟩
  go_wp2_with fail
  refine(specPrime_is q false H2.out _).mono ?_
  rintro e w1 ⟨rfl,rfl⟩
  go_wp2
  go_ret
  rw[HV.out]
  exact⟨rfl,(Below.refl _ _).alloc (Nat.le_refl _) _⟩
 obtain⟨hq1,hq2⟩:=primeV_meas q h2
 have H1:Hid (primeV p=true):=h1
 have H2:Hid (primeV q=true):=h2
 clear h1 h2
 by_cases h3:100≤q
 ·by_cases h4:(p-1)%q=0
  ·by_cases h5:2≤g∧g≤p-1
   ·have HV:Hid (okP p q g=(powV g q p==1)):=by show _=_;rw[Bool.eq_iff_iff];simp[okP,H1.out,H2.out,h3,h4,h5]
    have h4':((p-1)%q==0)=true:=by rw[beq_iff_eq];exact h4
    clear h4
    go_enter Tryz.func54,Tryz.ntmps54
    go_wp2_with fail
    refine(specPrime_is p true H1.out _).mono ?_
    rintro e w1 ⟨rfl,rfl⟩
    go_wp2_with fail
    refine(specPrime_is q true H2.out _).mono ?_
    rintro e w1 ⟨rfl,rfl⟩
    go_wp2_with fail
    refine(specIn_is g 2 (p-1) true (decide_eq_true h5) _).mono ?_
    rintro e w1 ⟨rfl,rfl⟩
    go_wp2_with fail
    refine(specPowMod_val g q p _).mono ?_
    rintro e w1 ⟨rfl,D⟩
    go_wp2
    go_ret
    rw[HV.out]
    exact⟨rfl,((Below.refl _ _).alloc (Nat.le_refl _) _).trans (drawn_below _ D)⟩
   ·have HV:Hid (okP p q g=false):=by show _=_;simp[okP];omega
    have h4':((p-1)%q==0)=true:=by rw[beq_iff_eq];exact h4
    clear h4
    go_enter Tryz.func54,Tryz.ntmps54
    go_wp2_with fail
    refine(specPrime_is p true H1.out _).mono ?_
    rintro e w1 ⟨rfl,rfl⟩
    go_wp2_with fail
    refine(specPrime_is q true H2.out _).mono ?_
    rintro e w1 ⟨rfl,rfl⟩
    go_wp2_with fail
    refine(specIn_is g 2 (p-1) false (decide_eq_false h5) _).mono ?_
    rintro e w1 ⟨rfl,rfl⟩
    go_wp2
    go_ret
    rw[HV.out]
    exact⟨rfl,(Below.refl _ _).alloc (Nat.le_refl _) _⟩
  ·have HV:Hid (okP p q g=false):=by show _=_;simp[okP,h4]
   have h4':((p-1)%q==0)=false:=by rw[beq_eq_false_iff_ne];exact h4
   clear h4
   go_enter Tryz.func54,Tryz.ntmps54
   go_wp2_with fail
   refine(specPrime_is p true H1.out _).mono ?_
   rintro e w1 ⟨rfl,rfl⟩
   go_wp2_with fail
   refine(specPrime_is q true H2.out _).mono ?_
   rintro e w1 ⟨rfl,rfl⟩
   go_wp2
   go_ret
   rw[HV.out]
   exact⟨rfl,(Below.refl _ _).alloc (Nat.le_refl _) _⟩
 ·have HV:Hid (okP p q g=false):=by show _=_;simp[okP,h3]
  go_enter Tryz.func54,Tryz.ntmps54
  go_wp2_with fail
  refine(specPrime_is p true H1.out _).mono ?_
  rintro e w1 ⟨rfl,rfl⟩
  go_wp2_with fail
  refine(specPrime_is q true H2.out _).mono ?_
  rintro e w1 ⟨rfl,rfl⟩
  go_wp2
  go_ret
  rw[HV.out]
  exact⟨rfl,(Below.refl _ _).alloc (Nat.le_refl _) _⟩

end Num
end Go.Proofs.YtcjgkmhpeedhiaaGreatDoor

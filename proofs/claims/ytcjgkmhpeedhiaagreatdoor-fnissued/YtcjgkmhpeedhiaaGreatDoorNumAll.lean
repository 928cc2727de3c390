/- The contracts of chapter 1 once more, each as one function of all its arguments. -/
import Derived.Test.YtcjgkmhpeedhiaaGreatDoorNumPow
import Derived.Test.YtcjgkmhpeedhiaaGreatDoorNumGcd
import Derived.Test.YtcjgkmhpeedhiaaGreatDoorNumInv
import Derived.Test.YtcjgkmhpeedhiaaGreatDoorNumPrime
namespace Go.Proofs.YtcjgkmhpeedhiaaGreatDoor
namespace Num
open Go.ChangeShapes Go.WideShapes Go.ChangeAt Go.RowKit

def Meas (m:Int):Prop:=2≤m∧m≤2147483647

theorem not_meas {m:Int} (h:¬Meas m):m<2∨2147483647<m:=by
 unfold Meas at h
 omega

def modV (x m:Int):Int:=if 2≤m∧m≤2147483647 then x%m else-1

theorem modV_yes (x:Int) {m:Int} (h:Meas m):modV x m=x%m:=if_pos h

theorem modV_no (x:Int) {m:Int} (h:¬Meas m):modV x m= -1:=if_neg h

def mulV (x y m:Int):Int:=if 2≤m∧m≤2147483647 then x%m*(y%m)%m else-1

theorem mulV_yes (x y:Int) {m:Int} (h:Meas m):mulV x y m=x%m*(y%m)%m:=if_pos h

theorem mulV_no (x y:Int) {m:Int} (h:¬Meas m):mulV x y m= -1:=if_neg h

def PowOk (n m:Int):Prop:=2≤m∧m≤2147483647∧0≤n∧n≤2147483647

def powV (a n m:Int):Int:=if 2≤m∧m≤2147483647∧0≤n∧n≤2147483647 then Math.pw a n.toNat m else-1

theorem powV_yes (a:Int) {n m:Int} (h:PowOk n m):powV a n m=Math.pw a n.toNat m:=if_pos h

theorem powV_no (a:Int) {n m:Int} (h:¬PowOk n m):powV a n m= -1:=if_neg h

def invB (a m:Int):Bool:=decide (2≤m∧m≤2147483647∧Nat.gcd (a%m).toNat m.toNat=1)

def invI (a m:Int):Int:=if 2≤m∧m≤2147483647∧Nat.gcd (a%m).toNat m.toNat=1 then Math.inv (a%m) m else 0

theorem invB_ok (a m:Int) (h:invB a m=true):Meas m∧0≤invI a m∧invI a m<m∧mulV a (invI a m) m=1:=by
 unfold invB at h
 have h1:=of_decide_eq_true h
 have hm:Meas m:=⟨h1.1,h1.2.1⟩
 have e:invI a m=Math.inv (a%m) m:=if_pos h1
 have hb:=Math.inv_bd (a%m) m h1.1
 rw[e]
 refine⟨hm,hb.1,hb.2,?_⟩
 rw[mulV_yes _ _ hm,Int.emod_eq_of_lt hb.1 hb.2]
 obtain⟨ha0,ha1⟩:=Math.emod_bd a m h1.1
 exact Math.inv_ok (a%m) m h1.1 ha0 ha1 h1.2.2

theorem specMod_val (x m:Int) (w:World):
 Calls Tryz.prog 76 #[.int .i64 x,.int .i64 m] w fun e w'=>e= .returned (.int .i64 (modV x m))∧w'=w:=by
 by_cases h:Meas m
 ·rw[modV_yes x h];exact specMod_yes x m w h.1 h.2
 ·rw[modV_no x h];exact specMod_no x m w (not_meas h)

theorem implMod_val (x m:Int) (w:World):
 Calls Tryz.prog 87 #[.int .i64 x,.int .i64 m] w fun e w'=>e= .returned (.int .i64 (modV x m))∧w'=w:=by
 by_cases h:Meas m
 ·rw[modV_yes x h];exact implMod_yes x m w h.1 h.2
 ·rw[modV_no x h];exact implMod_no x m w (not_meas h)

theorem specMulMod_val (x y m:Int) (w:World):
 Calls Tryz.prog 75 #[.int .i64 x,.int .i64 y,.int .i64 m] w fun e w'=>e= .returned (.int .i64 (mulV x y m))∧w'=w:=by
 by_cases h:Meas m
 ·rw[mulV_yes x y h];exact specMulMod_yes x y m w h.1 h.2
 ·rw[mulV_no x y h];exact specMulMod_no x y m w (not_meas h)

theorem implMulMod_val (x y m:Int) (w:World):
 Calls Tryz.prog 86 #[.int .i64 x,.int .i64 y,.int .i64 m] w fun e w'=>e= .returned (.int .i64 (mulV x y m))∧w'=w:=by
 by_cases h:Meas m
 ·rw[mulV_yes x y h];exact implMulMod_yes x y m w h.1 h.2
 ·rw[mulV_no x y h];exact implMulMod_no x y m w (not_meas h)

theorem powNot {n m:Int} (h:¬PowOk n m):(m<2∨2147483647<m)∨(2≤m∧m≤2147483647∧(n<0∨2147483647<n)):=by
 unfold PowOk at h
 omega

theorem specPowMod_val (a n m:Int) (w:World):
 Calls Tryz.prog 69 #[.int .i64 a,.int .i64 n,.int .i64 m] w fun e w'=>e= .returned (.int .i64 (powV a n m))∧Drawn w w':=by
 by_cases h:PowOk n m
 ·rw[powV_yes a h];exact specPowMod_yes a n m w h.1 h.2.1 h.2.2.1 h.2.2.2
 ·rw[powV_no a h]
  refine(specPowMod_no a n m w (powNot h)).mono ?_
  rintro e w' ⟨rfl,rfl⟩
  exact⟨rfl,Drawn.refl _⟩

theorem implPowMod_val (a n m:Int) (w:World):
 Calls Tryz.prog 27 #[.int .i64 a,.int .i64 n,.int .i64 m] w fun e w'=>e= .returned (.int .i64 (powV a n m))∧w'=w:=by
 by_cases h:PowOk n m
 ·rw[powV_yes a h];exact implPowMod_yes a n m w h.1 h.2.1 h.2.2.1 h.2.2.2
 ·rw[powV_no a h];exact implPowMod_no a n m w (powNot h)

theorem inv_cases (a m:Int):(¬Meas m∧invI a m=0∧invB a m=false)∨(Meas m∧Nat.gcd (a%m).toNat m.toNat≠1∧invI a m=0∧invB a m=false)∨(Meas m∧Nat.gcd (a%m).toNat m.toNat=1∧invI a m=Math.inv (a%m) m∧invB a m=true):=by
 by_cases h:Meas m
 ·by_cases hg:Nat.gcd (a%m).toNat m.toNat=1
  ·exact Or.inr (Or.inr ⟨h,hg,if_pos ⟨h.1,h.2,hg⟩,decide_eq_true ⟨h.1,h.2,hg⟩⟩)
  ·exact Or.inr (Or.inl ⟨h,hg,if_neg fun k=>hg k.2.2,decide_eq_false fun k=>hg k.2.2⟩)
 ·exact Or.inl ⟨h,if_neg fun k=>h ⟨k.1,k.2.1⟩,decide_eq_false fun k=>h ⟨k.1,k.2.1⟩⟩

theorem specInverse_val (a m:Int) (w:World):
 Calls Tryz.prog 74 #[.int .i64 a,.int .i64 m] w fun e w'=>e= .returned (.tuple #[.int .i64 (invI a m),.bool (invB a m)])∧w'=w:=by
 rcases inv_cases a m with⟨h,e1,e2⟩|⟨h,hg,e1,e2⟩|⟨h,hg,e1,e2⟩<;>rw[e1,e2]
 ·exact specInverse_no a m w (not_meas h)
 ·exact specInverse_none a m w h.1 h.2 hg
 ·exact specInverse_yes a m w h.1 h.2 hg

theorem implInverse_val (a m:Int) (w:World):
 Calls Tryz.prog 85 #[.int .i64 a,.int .i64 m] w fun e w'=>e= .returned (.tuple #[.int .i64 (invI a m),.bool (invB a m)])∧Drawn w w':=by
 rcases inv_cases a m with⟨h,e1,e2⟩|⟨h,hg,e1,e2⟩|⟨h,hg,e1,e2⟩<;>rw[e1,e2]
 ·refine(implInverse_no a m w (not_meas h)).mono ?_
  rintro e w' ⟨rfl,rfl⟩
  exact⟨rfl,Drawn.refl _⟩
 ·exact implInverse_none a m w h.1 h.2 hg
 ·have hb:=Math.inv_bd (a%m) m h.1
  exact implInverse_yes a m w h.1 h.2 hg hb.1 hb.2

def primeV (n:Int):Bool:=if 2≤n∧n≤2147483647 then Math.primeB n else false

theorem primeV_yes {n:Int} (h:Meas n):primeV n=Math.primeB n:=if_pos h

theorem primeV_no {n:Int} (h:¬Meas n):primeV n=false:=if_neg h

theorem primeV_nat (n:Int) (h:Meas n):∃k:Nat,n=k∧2≤k∧k≤2147483647:=by
 unfold Meas at h
 exact⟨n.toNat,by omega,by omega,by omega⟩

theorem primeV_ok (n k:Int) (h:primeV n=true) (hk:2≤k) (hkn:k<n):n%k≠0:=by
 by_cases hm:Meas n
 ·rw[primeV_yes hm]at h
  obtain⟨x,rfl,h1,h2⟩:=primeV_nat n hm
  obtain⟨y,rfl⟩:=Int.eq_ofNat_of_zero_le (show 0≤k by omega)
  have h3:=of_decide_eq_true h y (by simp;omega) (by omega)
  intro h4
  apply h3
  simp only[Int.toNat_natCast]
  exact_mod_cast h4
 ·rw[primeV_no hm]at h
  exact absurd h (by simp)

theorem primeV_meas (n:Int) (h:primeV n=true):2≤n∧n≤2147483647:=by
 by_cases hm:Meas n
 ·exact hm
 ·rw[primeV_no hm]at h
  exact absurd h (by simp)

theorem specPrime_val (n:Int) (w:World):
 Calls Tryz.prog 95 #[.int .i64 n] w fun e w'=>e= .returned (.bool (primeV n))∧w'=w:=by
 by_cases h:Meas n
 ·rw[primeV_yes h]
  obtain⟨k,rfl,h1,h2⟩:=primeV_nat n h
  exact specPrime_yes k w h1 h2
 ·rw[primeV_no h];exact specPrime_no n w (not_meas h)

theorem implPrime_val (n:Int) (w:World):
 Calls Tryz.prog 106 #[.int .i64 n] w fun e w'=>e= .returned (.bool (primeV n))∧w'=w:=by
 by_cases h:Meas n
 ·rw[primeV_yes h]
  obtain⟨k,rfl,h1,h2⟩:=primeV_nat n h
  exact implPrime_yes k w h1 h2
 ·rw[primeV_no h];exact implPrime_no n w (not_meas h)

end Num
end Go.Proofs.YtcjgkmhpeedhiaaGreatDoor

/- Contracts of PowMod, of the program and of its model: what it returns is the power by the measure. -/
import Derived.Test.YtcjgkmhpeedhiaaGreatDoorNum
import Derived.Deep.QuietTactic
import Derived.BigQuiet
import Derived.WalkSmall
namespace Go.Proofs.YtcjgkmhpeedhiaaGreatDoor
namespace Num
open Go.ChangeShapes Go.WideShapes Go.ChangeAt Go.RowKit

theorem specPowMod_no (a n m:Int) (w:World) (h:(m<2∨2147483647<m)∨(2≤m∧m≤2147483647∧(n<0∨2147483647<n))):
 Calls Tryz.prog 69 #[.int .i64 a,.int .i64 n,.int .i64 m] w fun e w'=>e= .returned (.int .i64 (-1))∧w'=w:=by
 rcases h with h|⟨h1,h2,h3⟩
 ·go_enter Tryz.func69,Tryz.ntmps69
  go_wp2_with (go_at_call 96;refine(l01Measure_no _ _ h).mono ?_;rintro e w' ⟨rfl,rfl⟩)
  go_ret
  exact⟨rfl,rfl⟩
 ·have hf:decide (0≤n∧n≤2147483647)=false:=by simp;omega
  go_enter Tryz.func69,Tryz.ntmps69
  go_wp2_with (first|(go_at_call 96;refine(l01Measure_yes _ _ h1 h2).mono ?_;rintro e w' ⟨rfl,rfl⟩)|(go_at_call 55;refine(l01In_any _ _ _ _).mono ?_;rw[hf];rintro e w' ⟨rfl,rfl⟩))
  go_ret
  exact⟨rfl,rfl⟩

theorem specPowMod_yes (a n m:Int) (w:World) (h1:2≤m) (h2:m≤2147483647) (hn1:0≤n) (hn2:n≤2147483647):
 Calls Tryz.prog 69 #[.int .i64 a,.int .i64 n,.int .i64 m] w fun e w'=>e= .returned (.int .i64 (Math.pw a n.toNat m))∧∃q,w'=w.drewN q:=by
 have hf:decide (0≤n∧n≤2147483647)=true:=by simp;omega
 go_enter Tryz.func69,Tryz.ntmps69
 go_wp2_with (first|(go_at_call 96;refine(l01Measure_yes _ _ h1 h2).mono ?_;rintro e w' ⟨rfl,rfl⟩)|(go_at_call 55;refine(l01In_any _ _ _ _).mono ?_;rw[hf];rintro e w' ⟨rfl,rfl⟩))
 go_quiet ((go_at_call 76;exact Calls.quiet_of_same (specMod_yes _ _ _ h1 h2)))
 go_wp2
 go_loop [1,7,8] (fun t o b=>∃(k:Nat) (x y:Int),k≤2147483647∧0≤x∧x<m∧0≤y∧y<m∧t= .int .i64 k∧o= .int .i64 x∧b= .int .i64 y∧Hid (x*y^k%m=Math.pw a n.toNat m)) (fun t _ _=>(intOf t).toNat)
 case atStart=>
  obtain⟨hx1,hx2⟩:=Math.emod_bd 1 m h1
  obtain⟨hy1,hy2⟩:=Math.emod_bd a m h1
  refine⟨n.toNat,1%m,a%m,by omega,hx1,hx2,hy1,hy2,by rw[Int.toNat_of_nonneg hn1],rfl,rfl,?_⟩
  show _=_
  unfold Math.pw
  rw[Int.mul_emod,Math.pow_emod,Int.emod_emod_of_dvd _ (Int.dvd_refl m),←Int.mul_emod,Int.one_mul]
 case round=>
  obtain⟨k,x,y,hk,hx1,hx2,hy1,hy2,rfl,rfl,rfl,H⟩:=hrel
  obtain⟨hb1,hb2⟩:=Math.mul_bd x y m hx1 hy1 hx2 hy2 h2
  obtain⟨hc1,hc2⟩:=Math.mul_bd y y m hy1 hy1 hy2 hy2 h2
  by_cases hk0:0<k
  ·have hxx:=Math.emod_bd (x*y) m h1
   have hyy:=Math.emod_bd (y*y) m h1
   go_wp2
   ·go_round
    case rel=>exact⟨k/2,x*y%m,y*y%m,by omega,hxx.1,hxx.2,hyy.1,hyy.2,by go_num,rfl,rfl,(Math.pw_odd x y m k (by simp at*;omega)).trans H.out⟩
    case measure=>simp[intOf];omega
   ·go_round
    case rel=>exact⟨k/2,x,y*y%m,by omega,hx1,hx2,hyy.1,hyy.2,by go_num,rfl,rfl,(Math.pw_even x y m k (by simp at*;omega)).trans H.out⟩
    case measure=>simp[intOf];omega
  ·obtain rfl:k=0:=by omega
   have hfin:x=Math.pw a n.toNat m:=by
    have:=H.out
    rw[Int.pow_zero,Int.mul_one,Int.emod_eq_of_lt hx1 hx2]at this
    exact this
   have HF:Hid (x=Math.pw a n.toNat m):=hfin
   clear hfin
   go_wp2
   go_ret
   exact⟨ret_int HF.out,nq,rfl⟩

theorem power_any (a n m:Int) (w:World) (h1:2≤m) (h2:m≤2147483647) (hn1:0≤n) (hn2:n≤2147483647) (ha1:0≤a) (ha2:a<m):
 Calls Tryz.prog 66 #[.int .u64 a,.int .u64 n,.int .u64 m] w fun e w'=>e= .returned (.int .u64 (Math.pw a n.toNat m))∧w'=w:=by
 go_enter Tryz.func66,Tryz.ntmps66
 go_wp2
 go_loop [1,7,8] (fun t o b=>∃(k:Nat) (x y:Int),k≤2147483647∧0≤x∧x<m∧0≤y∧y<m∧t= .int .u64 k∧o= .int .u64 x∧b= .int .u64 y∧Hid (x*y^k%m=Math.pw a n.toNat m)) (fun t _ _=>(intOf t).toNat)
 case atStart=>
  refine⟨n.toNat,1,a,by omega,by omega,by omega,ha1,ha2,by rw[Int.toNat_of_nonneg hn1],rfl,rfl,?_⟩
  show _=_
  unfold Math.pw
  rw[Int.one_mul]
 case round=>
  obtain⟨k,x,y,hk,hx1,hx2,hy1,hy2,rfl,rfl,rfl,H⟩:=hrel
  by_cases hk0:0<k
  ·have hxx:=Math.emod_bd (x*y) m h1
   have hyy:=Math.emod_bd (y*y) m h1
   have hne:((k:Int) !=0)=true:=by rw[bne_iff_ne];omega
   go_wp2_with (go_at_call 107;refine(times_any _ _ _ _ h1 h2 (by assumption) (by omega) (by assumption) (by omega)).mono ?_;rintro e w' ⟨rfl,rfl⟩)
   ·have ho:(bits BinOp.and IntKind.u64 (↑k) 1==1)=true:=by assumption
    rw[and_one_u64 _ (by omega) (by omega)]at ho
    go_round
    case rel=>exact⟨k/2,x*y%m,y*y%m,by omega,hxx.1,hxx.2,hyy.1,hyy.2,by go_num,rfl,rfl,(Math.pw_odd x y m k (by simp at ho;omega)).trans H.out⟩
    case measure=>simp[intOf];omega
   ·have ho:(bits BinOp.and IntKind.u64 (↑k) 1==1)=false:=by assumption
    rw[and_one_u64 _ (by omega) (by omega)]at ho
    go_round
    case rel=>exact⟨k/2,x,y*y%m,by omega,hx1,hx2,hyy.1,hyy.2,by go_num,rfl,rfl,(Math.pw_even x y m k (by simp at ho;omega)).trans H.out⟩
    case measure=>simp[intOf];omega
  ·obtain rfl:k=0:=by omega
   have hfin:x=Math.pw a n.toNat m:=by
    have:=H.out
    rw[Int.pow_zero,Int.mul_one,Int.emod_eq_of_lt hx1 hx2]at this
    exact this
   have HF:Hid (x=Math.pw a n.toNat m):=hfin
   clear hfin
   go_wp2
   go_ret
   exact⟨ret_int HF.out,rfl⟩

theorem implPowMod_no (a n m:Int) (w:World) (h:(m<2∨2147483647<m)∨(2≤m∧m≤2147483647∧(n<0∨2147483647<n))):
 Calls Tryz.prog 27 #[.int .i64 a,.int .i64 n,.int .i64 m] w fun e w'=>e= .returned (.int .i64 (-1))∧w'=w:=by
 rcases h with h|⟨h1,h2,h3⟩
 ·go_enter Tryz.func27,Tryz.ntmps27
  go_wp2_with (go_at_call 63;refine(isMeasure_no _ _ h).mono ?_;rintro e w' ⟨rfl,rfl⟩)
  go_ret
  exact⟨rfl,rfl⟩
 ·go_enter Tryz.func27,Tryz.ntmps27
  go_wp2_with (first|(go_at_call 63;refine(isMeasure_yes _ _ h1 h2).mono ?_;rintro e w' ⟨rfl,rfl⟩)|(go_at_call 64;refine(upToMaxPrime_no _ _ h3).mono ?_;rintro e w' ⟨rfl,rfl⟩))
  go_ret
  exact⟨rfl,rfl⟩

theorem implPowMod_yes (a n m:Int) (w:World) (h1:2≤m) (h2:m≤2147483647) (hn1:0≤n) (hn2:n≤2147483647):
 Calls Tryz.prog 27 #[.int .i64 a,.int .i64 n,.int .i64 m] w fun e w'=>e= .returned (.int .i64 (Math.pw a n.toNat m))∧w'=w:=by
 obtain⟨hb1,hb2⟩:=Math.emod_bd a m h1
 have HE:Hid (Math.pw (a%m) n.toNat m=Math.pw a n.toNat m):=Math.pow_emod a m n.toNat
 obtain⟨hp1,hp2⟩:=Math.pw_bd (a%m) m n.toNat h1
 go_enter Tryz.func27,Tryz.ntmps27
 go_wp2_with (first|(go_at_call 63;refine(isMeasure_yes _ _ h1 h2).mono ?_;rintro e w' ⟨rfl,rfl⟩)|(go_at_call 64;refine(upToMaxPrime_yes _ _ hn1 hn2).mono ?_;rintro e w' ⟨rfl,rfl⟩)|(go_at_call 65;refine(residueOf_any _ _ _ h1 h2).mono ?_;rintro e w' ⟨rfl,rfl⟩)|(go_at_call 66;refine(power_any _ _ _ _ h1 h2 hn1 hn2 hb1 hb2).mono ?_;rintro e w' ⟨rfl,rfl⟩))
 go_ret
 exact⟨ret_int HE.out,rfl⟩

end Num
end Go.Proofs.YtcjgkmhpeedhiaaGreatDoor

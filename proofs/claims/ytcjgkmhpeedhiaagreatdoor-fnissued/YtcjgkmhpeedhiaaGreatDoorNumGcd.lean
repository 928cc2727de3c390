/- Contracts of Gcd, of the program and of its model: what it returns is the greatest common divisor. -/
import Derived.Test.YtcjgkmhpeedhiaaGreatDoorNum
import Derived.Deep.QuietTactic
import Derived.BigQuiet
namespace Go.Proofs.YtcjgkmhpeedhiaaGreatDoor
namespace Num
open Go.ChangeShapes Go.WideShapes Go.ChangeAt Go.RowKit

theorem specGcd_yes (a b:Int) (w:World) (ha1:0≤a) (ha2:a≤2147483647) (hb1:0≤b) (hb2:b≤2147483647):
 Calls Tryz.prog 117 #[.int .i64 a,.int .i64 b] w fun e w'=>e= .returned (.int .i64 (Nat.gcd a.toNat b.toNat))∧w'=w:=by
 have hf:decide (0≤a∧a≤2147483647)=true:=by simp;omega
 have hg:decide (0≤b∧b≤2147483647)=true:=by simp;omega
 go_enter Tryz.func117,Tryz.ntmps117
 go_wp2_with fail
 refine(l01In_any _ _ _ _).mono ?_
 rw[hf]
 rintro e w' ⟨rfl,rfl⟩
 go_wp2_with fail
 refine(l01In_any _ _ _ _).mono ?_
 rw[hg]
 rintro e w' ⟨rfl,rfl⟩
 go_wp2
 go_loop [0,1] (fun s t=>∃(x y:Nat),x≤2147483647∧y≤2147483647∧s= .int .i64 x∧t= .int .i64 y∧Hid (Nat.gcd x y=Nat.gcd a.toNat b.toNat)) (fun _ t=>(intOf t).toNat)
 case atStart=>
  exact⟨a.toNat,b.toNat,by omega,by omega,by rw[Int.toNat_of_nonneg ha1],by rw[Int.toNat_of_nonneg hb1],rfl⟩
 case round=>
  obtain⟨x,y,hx,hy,rfl,rfl,H⟩:=hrel
  by_cases hy0:0<y
  ·have hlt:=Nat.mod_lt x hy0
   go_wp2
   go_round
   case rel=>exact⟨y,x%y,by omega,by omega,rfl,by go_num,(Math.gcd_step x y).trans H.out⟩
   case measure=>simp[intOf];omega
  ·obtain rfl:y=0:=by omega
   have HF:Hid (x=Nat.gcd a.toNat b.toNat):=by have:=H.out;rw[Nat.gcd_zero_right]at this;exact this
   go_wp2
   go_ret
   exact⟨ret_int (by rw[←HF.out]),rfl⟩

end Num
end Go.Proofs.YtcjgkmhpeedhiaaGreatDoor

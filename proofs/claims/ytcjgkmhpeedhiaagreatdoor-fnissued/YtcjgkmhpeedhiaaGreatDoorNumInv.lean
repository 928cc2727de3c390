/- Contracts of Inverse, of the program and of its model: what it returns is the inverse by the measure, where there is one. -/
import Derived.Test.YtcjgkmhpeedhiaaGreatDoorNumGcd
namespace Go.Proofs.YtcjgkmhpeedhiaaGreatDoor
namespace Num
open Go.ChangeShapes Go.WideShapes Go.ChangeAt Go.RowKit

theorem ret_two {k:IntKind} {a b:Int} {x:Value} (h:a=b):Ending.returned (.tuple #[.int k a,x])= .returned (.tuple #[.int k b,x]):=by rw[h]

theorem specInverse_no (a m:Int) (w:World) (h:m<2∨2147483647<m):
 Calls Tryz.prog 74 #[.int .i64 a,.int .i64 m] w fun e w'=>e= .returned (.tuple #[.int .i64 0,.bool false])∧w'=w:=by
 go_enter Tryz.func74,Tryz.ntmps74
 go_wp2_with (go_at_call 96;refine(l01Measure_no _ _ h).mono ?_;rintro e w' ⟨rfl,rfl⟩)
 go_ret2
 exact⟨rfl,rfl⟩

theorem specInverse_none (a m:Int) (w:World) (h1:2≤m) (h2:m≤2147483647) (hg:Nat.gcd (a%m).toNat m.toNat≠1):
 Calls Tryz.prog 74 #[.int .i64 a,.int .i64 m] w fun e w'=>e= .returned (.tuple #[.int .i64 0,.bool false])∧w'=w:=by
 obtain⟨ha1,ha2⟩:=Math.emod_bd a m h1
 have hb:(((Nat.gcd (a%m).toNat m.toNat:Nat):Int) !=1)=true:=by rw[bne_iff_ne];omega
 clear hg
 generalize hG:Nat.gcd (a%m).toNat m.toNat=G at*
 have HG:=hG
 have HG:Hid (Nat.gcd (a%m).toNat m.toNat=G):=HG
 clear hG
 go_enter Tryz.func74,Tryz.ntmps74
 go_wp2_with (first|(go_at_call 96;refine(l01Measure_yes _ _ h1 h2).mono ?_;rintro e w' ⟨rfl,rfl⟩)|(go_at_call 76;refine(specMod_yes _ _ _ h1 h2).mono ?_;rintro e w' ⟨rfl,rfl⟩)|(go_at_call 117;refine(specGcd_yes _ _ _ ha1 (by omega) (by omega) h2).mono ?_;rw[HG.out];rintro e w' ⟨rfl,rfl⟩))
 go_ret2
 exact⟨rfl,rfl⟩

theorem specInverse_yes (a m:Int) (w:World) (h1:2≤m) (h2:m≤2147483647) (hg:Nat.gcd (a%m).toNat m.toNat=1):
 Calls Tryz.prog 74 #[.int .i64 a,.int .i64 m] w fun e w'=>e= .returned (.tuple #[.int .i64 (Math.inv (a%m) m),.bool true])∧w'=w:=by
 obtain⟨ha1,ha2⟩:=Math.emod_bd a m h1
 have HG:Hid (Nat.gcd (a%m).toNat m.toNat=1):=hg
 clear hg
 go_enter Tryz.func74,Tryz.ntmps74
 go_wp2_with (first|(go_at_call 96;refine(l01Measure_yes _ _ h1 h2).mono ?_;rintro e w' ⟨rfl,rfl⟩)|(go_at_call 76;refine(specMod_yes _ _ _ h1 h2).mono ?_;rintro e w' ⟨rfl,rfl⟩)|(go_at_call 117;refine(specGcd_yes _ _ _ ha1 (by omega) (by omega) h2).mono ?_;rw[HG.out];rintro e w' ⟨rfl,rfl⟩))
 go_loop [6,7,8,9] (fun s t u v=>∃(r0 r1 x0 x1:Int),s= .int .i64 r0∧t= .int .i64 r1∧u= .int .i64 x0∧v= .int .i64 x1∧Math.Eu (a%m) m r0 r1 x0 x1) (fun _ t _ _=>(intOf t).toNat)
 case atStart=>exact⟨m,a%m,0,1,rfl,rfl,rfl,rfl,Math.Eu.start (a%m) m h1 ha1 ha2⟩
 case round=>
  obtain⟨r0,r1,x0,x1,rfl,rfl,rfl,rfl,E⟩:=hrel
  have hr00:=E.a0
  have hr01:=E.a1
  have hr10:=E.b0
  have hr11:=E.b1
  by_cases hr:0<r1
  ·obtain⟨e1,e2,e3,e4,e5,e6,e7,e8⟩:=E.bd hr
   obtain⟨k1,k2,k3,k4,k5,k6⟩:=Math.div_bd r0 r1 (by omega) hr
   have hne:(r1 !=0)=true:=by rw[bne_iff_ne];omega
   go_wp2
   go_round
   case rel=>exact⟨_,_,_,_,rfl,rfl,rfl,rfl,E.step hr⟩
   case measure=>simp[intOf];omega
  ·obtain rfl:r1=0:=by omega
   have HF:Hid (x0%m=Math.inv (a%m) m):=E.done h1 HG.out
   clear E
   go_wp2_with (go_at_call 76;refine(specMod_yes _ _ _ h1 h2).mono ?_;rintro e w' ⟨rfl,rfl⟩)
   go_ret2
   exact⟨ret_two HF.out,rfl⟩

theorem minus_any (r s m:Int) (w:World) (h1:2≤m) (h2:m≤2147483647) (hr:0≤r) (hr':r<m) (hs:0≤s) (hs':s<m):
 Calls Tryz.prog 147 #[.int .u64 r,.int .u64 s,.int .u64 m] w fun e w'=>e= .returned (.int .u64 ((r+m-s)%m))∧w'=w:=by
 go_enter Tryz.func147,Tryz.ntmps147
 go_wp2
 go_ret
 exact⟨rfl,rfl⟩

def invV (a m:Int):Value:=if Nat.gcd a.toNat m.toNat=1 then .tuple #[.int .u64 (Math.inv a m),.bool true]else .tuple #[.int .u64 0,.bool false]
theorem invV_yes (a m:Int) (h:Nat.gcd a.toNat m.toNat=1):invV a m= .tuple #[.int .u64 (Math.inv a m),.bool true]:=if_pos h
theorem invV_no (a m:Int) (h:Nat.gcd a.toNat m.toNat≠1):invV a m= .tuple #[.int .u64 0,.bool false]:=if_neg h

theorem inverse_any (a m:Int) (w:World) (h1:2≤m) (h2:m≤2147483647) (ha1:0≤a) (ha2:a<m):
 Calls Tryz.prog 124 #[.int .u64 a,.int .u64 m] w fun e w'=>
  e= .returned (invV a m)∧∃q,w'=w.drewN q:=by
 go_enter Tryz.func124,Tryz.ntmps124
 go_wp2
 go_loopw [6,7,8,9] (fun s t u v w1=>∃(r0 r1 x0 x1:Int) (q:Nat),s= .int .u64 r0∧t= .int .u64 r1∧u= .int .u64 x0∧v= .int .u64 x1∧Math.Er a m r0 r1 x0 x1∧w1=w.drewN q) (fun _ t _ _ _=>(intOf t).toNat)
 case atStart=>exact⟨m,a,0,1,0,rfl,rfl,rfl,rfl,Math.Er.start a m h1 ha1 ha2,rfl⟩
 case round=>
  obtain⟨r0,r1,x0,x1,q,rfl,rfl,rfl,rfl,E,rfl⟩:=hrel
  have hr00:=E.a0
  have hr01:=E.a1
  have hr10:=E.b0
  have hr11:=E.b1
  have hx00:=E.x00
  have hx01:=E.x01
  have hx10:=E.x10
  have hx11:=E.x11
  by_cases hr:0<r1
  ·obtain⟨e1,e2,e3,e4⟩:=E.bd h1 h2 hr
   have hne:(r1 !=0)=true:=by rw[bne_iff_ne];omega
   have hlt:=Int.emod_lt_of_pos r0 hr
   go_wp2
   go_quiet (fail)
   go_wp2_with (first|(go_at_call 107;refine(times_any _ _ _ _ h1 h2 (by omega) (by omega) (by omega) (by omega)).mono ?_;rintro e w' ⟨rfl,rfl⟩)|(go_at_call 147;refine(minus_any _ _ _ _ h1 h2 (by omega) (by omega) (by omega) (by omega)).mono ?_;rintro e w' ⟨rfl,rfl⟩))
   go_roundw
   case rel=>exact⟨_,_,_,_,q+nq,rfl,rfl,rfl,rfl,by have h:=E.step h1 hr;rw[Int.sub_emod,Int.emod_emod_of_dvd _ (Int.dvd_refl m),←Int.sub_emod]at h;exact h,rfl⟩
   case measure=>simp[intOf];omega
  ·obtain rfl:r1=0:=by omega
   have HR:Hid (r0=Nat.gcd a.toNat m.toNat):=E.gcd
   by_cases hone:r0=1
   ·subst hone
    have HF:Hid (x0=Math.inv a m):=E.done h1 rfl
    clear E
    go_wp2
    go_ret2
    refine⟨?_,q,rfl⟩
    rw[invV_yes a m (by have:=HR.out;omega)]
    exact ret_two HF.out
   ·have hne:(r0 !=1)=true:=by rw[bne_iff_ne];omega
    clear E
    go_wp2
    go_ret2
    refine⟨?_,q,rfl⟩
    rw[invV_no a m (by have:=HR.out;omega)];rfl

theorem implInverse_no (a m:Int) (w:World) (h:m<2∨2147483647<m):
 Calls Tryz.prog 85 #[.int .i64 a,.int .i64 m] w fun e w'=>e= .returned (.tuple #[.int .i64 0,.bool false])∧w'=w:=by
 go_enter Tryz.func85,Tryz.ntmps85
 go_wp2_with (go_at_call 63;refine(isMeasure_no _ _ h).mono ?_;rintro e w' ⟨rfl,rfl⟩)
 go_ret2
 exact⟨rfl,rfl⟩

theorem implInverse_none (a m:Int) (w:World) (h1:2≤m) (h2:m≤2147483647) (hg:Nat.gcd (a%m).toNat m.toNat≠1):
 Calls Tryz.prog 85 #[.int .i64 a,.int .i64 m] w fun e w'=>e= .returned (.tuple #[.int .i64 0,.bool false])∧∃q,w'=w.drewN q:=by
 obtain⟨ha1,ha2⟩:=Math.emod_bd a m h1
 have HG:Hid (Nat.gcd (a%m).toNat m.toNat≠1):=hg
 clear hg
 go_enter Tryz.func85,Tryz.ntmps85
 go_wp2_with (first|(go_at_call 63;refine(isMeasure_yes _ _ h1 h2).mono ?_;rintro e w' ⟨rfl,rfl⟩)|(go_at_call 65;refine(residueOf_any _ _ _ h1 h2).mono ?_;rintro e w' ⟨rfl,rfl⟩)|(go_at_call 124;refine(inverse_any _ _ _ h1 h2 ha1 ha2).mono ?_;rw[invV_no _ _ HG.out];rintro e w' ⟨rfl,q,rfl⟩))
 go_ret2
 exact⟨rfl,_,rfl⟩

theorem implInverse_yes (a m:Int) (w:World) (h1:2≤m) (h2:m≤2147483647) (hg:Nat.gcd (a%m).toNat m.toNat=1) (hi0:0≤Math.inv (a%m) m) (hi1:Math.inv (a%m) m<m):
 Calls Tryz.prog 85 #[.int .i64 a,.int .i64 m] w fun e w'=>e= .returned (.tuple #[.int .i64 (Math.inv (a%m) m),.bool true])∧∃q,w'=w.drewN q:=by
 obtain⟨ha1,ha2⟩:=Math.emod_bd a m h1
 have HG:Hid (Nat.gcd (a%m).toNat m.toNat=1):=hg
 clear hg
 go_enter Tryz.func85,Tryz.ntmps85
 go_wp2_with (first|(go_at_call 63;refine(isMeasure_yes _ _ h1 h2).mono ?_;rintro e w' ⟨rfl,rfl⟩)|(go_at_call 65;refine(residueOf_any _ _ _ h1 h2).mono ?_;rintro e w' ⟨rfl,rfl⟩)|(go_at_call 124;refine(inverse_any _ _ _ h1 h2 ha1 ha2).mono ?_;rw[invV_yes _ _ HG.out];rintro e w' ⟨rfl,q,rfl⟩))
 go_ret2
 exact⟨rfl,_,rfl⟩

end Num
end Go.Proofs.YtcjgkmhpeedhiaaGreatDoor

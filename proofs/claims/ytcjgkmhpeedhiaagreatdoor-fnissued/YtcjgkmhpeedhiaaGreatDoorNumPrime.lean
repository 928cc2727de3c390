/- Contracts of Prime, of the program and of its model: whether no number below n, from 2 on, divides n. -/
import Derived.Test.YtcjgkmhpeedhiaaGreatDoorNum
namespace Go.Proofs.YtcjgkmhpeedhiaaGreatDoor
namespace Num
open Go.ChangeShapes Go.WideShapes Go.ChangeAt Go.RowKit

theorem ret_bool {a b:Bool} (h:a=b):Ending.returned (.bool a)= .returned (.bool b):=by rw[h]

theorem specPrime_no (n:Int) (w:World) (h:n<2∨2147483647<n):
 Calls Tryz.prog 95 #[.int .i64 n] w fun e w'=>e= .returned (.bool false)∧w'=w:=by
 go_enter Tryz.func95,Tryz.ntmps95
 go_wp2_with (go_at_call 96;refine(l01Measure_no _ _ h).mono ?_;rintro e w' ⟨rfl,rfl⟩)
 go_ret
 exact⟨rfl,rfl⟩

theorem specPrime_yes (n:Nat) (w:World) (h1:2≤n) (h2:n≤2147483647):
 Calls Tryz.prog 95 #[.int .i64 n] w fun e w'=>e= .returned (.bool (Math.primeB n))∧w'=w:=by
 go_enter Tryz.func95,Tryz.ntmps95
 go_wp2_with (go_at_call 96;refine(l01Measure_yes _ _ (by omega) (by omega)).mono ?_;rintro e w' ⟨rfl,rfl⟩)
 go_loop [3] (fun t=>∃k:Nat,2≤k∧(k-1)*(k-1)≤n∧t= .int .i64 k∧Hid (∀d:Nat,2≤d→d<k→n%d≠0)) (fun t=>(46341-intOf t).toNat)
 case atStart=>exact⟨2,by omega,by omega,rfl,fun d h1 h2=>by omega⟩
 case round=>
  obtain⟨k,hk2,hk,rfl,H⟩:=hrel
  have hb:=Math.root_bd n (k-1) hk h2
  have hm:=Math.mul_bd' k k (by omega) (by omega) (by omega) (by omega)
  obtain⟨hm1,hm2⟩:=hm
  clear hk
  by_cases hkk:k*k≤n
  ·have hkk':(k:Int)*(k:Int)≤n:=by exact_mod_cast hkk
   have hb2:=Math.root_bd n k hkk h2
   by_cases hz:n%k=0
   ·have hz':((n:Int)%(k:Int)==0)=true:=by rw[beq_iff_eq];exact_mod_cast hz
    have HF:Hid (Math.primeB n=false):=Math.primeB_no n k hk2 (by have:=Math.sq_lt n k hkk hk2;simpa using this) (by simpa using hz)
    clear hz
    go_wp2
    go_ret
    exact⟨ret_bool HF.out.symm,rfl⟩
   ·have hz':((n:Int)%(k:Int)==0)=false:=by rw[beq_eq_false_iff_ne];intro hc;exact hz (by exact_mod_cast hc)
    have HN:Hid (∀d:Nat,2≤d→d<k+1→n%d≠0):=Math.no_next n k H.out hz
    clear hz
    go_wp2
    go_round
    case rel=>exact⟨k+1,by omega,by simpa using hkk,by go_num,HN⟩
    case measure=>simp[intOf];omega
  ·have hkk':(n:Int)<(k:Int)*(k:Int):=by exact_mod_cast Nat.lt_of_not_le hkk
   have HF:Hid (Math.primeB n=true):=Math.primeB_yes n (by simpa using Math.prime_of n k (Nat.lt_of_not_le hkk) H.out)
   go_wp2
   go_ret
   exact⟨ret_bool HF.out.symm,rfl⟩

theorem implPrime_no (n:Int) (w:World) (h:n<2∨2147483647<n):
 Calls Tryz.prog 106 #[.int .i64 n] w fun e w'=>e= .returned (.bool false)∧w'=w:=by
 go_enter Tryz.func106,Tryz.ntmps106
 go_wp2_with (go_at_call 63;refine(isMeasure_no _ _ h).mono ?_;rintro e w' ⟨rfl,rfl⟩)
 go_ret
 exact⟨rfl,rfl⟩

theorem implPrime_yes (n:Nat) (w:World) (h1:2≤n) (h2:n≤2147483647):
 Calls Tryz.prog 106 #[.int .i64 n] w fun e w'=>e= .returned (.bool (Math.primeB n))∧w'=w:=by
 by_cases he:n%2=0
 ·have HF:Hid (Math.primeB n=decide (n=2)):=Math.primeB_even n h1 he
  have he':((n:Int)%2==0)=true:=by rw[beq_iff_eq];omega
  clear he
  go_enter Tryz.func106,Tryz.ntmps106
  go_wp2_with (go_at_call 63;refine(isMeasure_yes _ _ (by omega) (by omega)).mono ?_;rintro e w' ⟨rfl,rfl⟩)
  go_ret
  refine⟨ret_bool ?_,rfl⟩
  rw[HF.out,Bool.eq_iff_iff]
  simp
  omega
 ·have he':((n:Int)%2==0)=false:=by rw[beq_eq_false_iff_ne];omega
  have HO:Hid (n%2=1):=by have:n%2=1:=by omega
                          exact this
  clear he
  go_enter Tryz.func106,Tryz.ntmps106
  go_wp2_with (go_at_call 63;refine(isMeasure_yes _ _ (by omega) (by omega)).mono ?_;rintro e w' ⟨rfl,rfl⟩)
  go_loop [3] (fun t=>∃k:Nat,3≤k∧Hid (k%2=1)∧(k-2)*(k-2)≤n∧t= .int .i64 k∧Hid (∀d:Nat,2≤d→d<k→n%d≠0)) (fun t=>(46342-intOf t).toNat)
  case atStart=>
   have ho:=HO.out
   refine⟨3,by omega,rfl,by omega,rfl,?_⟩
   intro d hd1 hd2
   obtain rfl:d=2:=by omega
   omega
  case round=>
   obtain⟨k,hk2,HK,hk,rfl,H⟩:=hrel
   have hb:=Math.root_bd n (k-2) hk h2
   have hm:=Math.mul_bd' k k (by omega) (by omega) (by omega) (by omega)
   obtain⟨hm1,hm2⟩:=hm
   clear hk
   by_cases hkk:k*k≤n
   ·have hkk':(k:Int)*(k:Int)≤n:=by exact_mod_cast hkk
    have hb2:=Math.root_bd n k hkk h2
    by_cases hz:n%k=0
    ·have hz':((n:Int)%(k:Int)==0)=true:=by rw[beq_iff_eq];exact_mod_cast hz
     have HF:Hid (Math.primeB n=false):=Math.primeB_no n k (by omega) (by have:=Math.sq_lt n k hkk (by omega);simpa using this) (by simpa using hz)
     clear hz
     go_wp2
     go_ret
     exact⟨ret_bool HF.out.symm,rfl⟩
    ·have hz':((n:Int)%(k:Int)==0)=false:=by rw[beq_eq_false_iff_ne];intro hc;exact hz (by exact_mod_cast hc)
     have HN:Hid (∀d:Nat,2≤d→d<k+2→n%d≠0):=Math.no_next2 n k HO.out HK.out H.out hz
     clear hz
     go_wp2
     go_round
     case rel=>exact⟨k+2,by omega,by have:=HK.out;show _=_;omega,by simpa using hkk,by go_num,HN⟩
     case measure=>simp[intOf];omega
   ·have hkk':(n:Int)<(k:Int)*(k:Int):=by exact_mod_cast Nat.lt_of_not_le hkk
    have HF:Hid (Math.primeB n=true):=Math.primeB_yes n (by simpa using Math.prime_of n k (Nat.lt_of_not_le hkk) H.out)
    go_wp2
    go_ret
    exact⟨ret_bool HF.out.symm,rfl⟩

end Num
end Go.Proofs.YtcjgkmhpeedhiaaGreatDoor

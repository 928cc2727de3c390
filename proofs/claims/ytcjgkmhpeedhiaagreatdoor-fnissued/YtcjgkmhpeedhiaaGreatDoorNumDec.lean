/- Contracts of DecText of the model, and of ReadDec. -/
import Derived.Test.YtcjgkmhpeedhiaaGreatDoorNum
import Derived.Test.YtcjgkmhpeedhiaaGreatDoorMathSum
import Derived.Test.YtcjgkmhpeedhiaaGreatDoorMathDec
import Derived.WalkSpells
namespace Go.Proofs.YtcjgkmhpeedhiaaGreatDoor
namespace Num
open Go.ChangeShapes Go.WideShapes Go.ChangeAt Go.RowKit

def decS (n:Int):ByteArray:=⟨(Lib.itoa n).toArray⟩

theorem ret_string {a b:ByteArray} (h:a=b):Ending.returned (.string a)= .returned (.string b):=by rw[h]

theorem specDecText_zero (w:World):
 Calls Tryz.prog 94 #[.int .i64 0] w fun e w'=>e= .returned (.string (decS 0))∧w'=w:=by
 have HF:Hid (decS 0=⟨#[48]⟩):=by
  show _=_
  unfold decS Lib.itoa
  rw[if_neg (by omega)]
  show ByteArray.mk (Lib.decDigits 0).toArray=_
  rw[Math.dec_small 0 (by omega)]
  rfl
 go_enter Tryz.func94,Tryz.ntmps94
 go_wp2
 go_ret
 exact⟨ret_string HF.out.symm,rfl⟩

theorem specDecText_pos (n:Nat) (w:World) (h1:1≤n) (h2:n≤9223372036854775807):
 Calls Tryz.prog 94 #[.int .i64 n] w fun e w'=>e= .returned (.string (decS n))∧w'=w:=by
 have h0:((n:Int)==0)=false:=by rw[beq_eq_false_iff_ne];omega
 go_enter Tryz.func94,Tryz.ntmps94
 go_wp2
 go_loop [3,4] (fun t m=>∃(u:Nat) (l:List UInt8),u≤9223372036854775807∧l.length≤20∧m= .int .i64 u∧t= .string ⟨l.toArray⟩∧Math.Left n u l) (fun _ m=>(intOf m).toNat)
 case atStart=>exact⟨n,[],h2,by simp,rfl,rfl,Math.Left.start n h1⟩
 case round=>
  obtain⟨u,l,hu,hl,rfl,rfl,H⟩:=hrel
  by_cases hu0:0<u
  ·have hs:=H.step hu0
   have hsl:=hs.len (by omega)
   have HP:Hid (_):=Math.put_digit (u%10) (by omega) l
   have hne:((u:Int) !=0)=true:=by rw[bne_iff_ne];omega
   have hsz:(ByteArray.mk l.toArray).size≤20:=by simpa [ByteArray.size]using hl
   generalize ByteArray.mk l.toArray=O at*
   clear h0
   go_wp2
   go_round
   case rel=>exact⟨u/10,_,by omega,hsl,by go_num,by rw[HP.out],hs⟩
   case measure=>simp[intOf];omega
  ·obtain rfl:u=0:=by omega
   have HF:Hid (ByteArray.mk l.toArray=decS n):=by
    show _=_
    rw[H.done]
    unfold decS Lib.itoa
    rw[if_neg (by omega)]
    rfl
   generalize ByteArray.mk l.toArray=O at*
   go_wp2
   go_ret
   exact⟨ret_string HF.out,rfl⟩

theorem specDecText_neg (n:Nat) (w:World) (h1:1≤n) (h2:n≤9223372036854775808):
 Calls Tryz.prog 94 #[.int .i64 (-(n:Int))] w fun e w'=>e= .returned (.string (decS (-(n:Int))))∧w'=w:=by
 have h0:((-(n:Int))==0)=false:=by rw[beq_eq_false_iff_ne];omega
 go_enter Tryz.func94,Tryz.ntmps94
 go_wp2
 go_loop [3,4] (fun t m=>∃(u:Nat) (l:List UInt8),u≤9223372036854775808∧l.length≤20∧m= .int .i64 (-(u:Int))∧t= .string ⟨l.toArray⟩∧Math.Left n u l) (fun _ m=>(-(intOf m)).toNat)
 case atStart=>exact⟨n,[],h2,by simp,rfl,rfl,Math.Left.start n h1⟩
 case round=>
  obtain⟨u,l,hu,hl,rfl,rfl,H⟩:=hrel
  by_cases hu0:0<u
  ·have hs:=H.step hu0
   have hsl:=hs.len (by omega)
   have HP:Hid (_):=Math.put_digit (u%10) (by omega) l
   have hne:((-(u:Int)) !=0)=true:=by rw[bne_iff_ne];omega
   have hsz:(ByteArray.mk l.toArray).size≤20:=by simpa [ByteArray.size]using hl
   generalize ByteArray.mk l.toArray=O at*
   clear h0
   go_wp2
   all_goals
    go_round
    case rel=>exact⟨u/10,_,by omega,hsl,by go_num,by first|rw[HP.out]|(rw[show(-((u:Int)%10)).toNat=u%10 from by omega,show(-((u:Int)%10)+1).toNat=u%10+1 from by omega,HP.out]),hs⟩
    case measure=>simp[intOf];omega
  ·obtain rfl:u=0:=by omega
   have HF:Hid ((⟨#[45]⟩:ByteArray)++ByteArray.mk l.toArray=decS (-(n:Int))):=by
    show _=_
    rw[H.done]
    unfold decS Lib.itoa
    rw[if_pos (by omega)]
    apply ByteArray.ext
    simp
   have hsz:(ByteArray.mk l.toArray).size≤20:=by simpa [ByteArray.size]using hl
   generalize ByteArray.mk l.toArray=O at*
   go_wp2
   go_ret
   exact⟨ret_string HF.out,rfl⟩

theorem specDecText_nat (n:Nat) (w:World) (h2:n≤9223372036854775807):
 Calls Tryz.prog 94 #[.int .i64 n] w fun e w'=>e= .returned (.string (decS n))∧w'=w:=by
 by_cases h:n=0
 ·subst h
  exact specDecText_zero w
 ·exact specDecText_pos n w (by omega) h2

theorem specDecText_any (n:Int) (w:World) (h1: -9223372036854775808≤n) (h2:n≤9223372036854775807):
 Calls Tryz.prog 94 #[.int .i64 n] w fun e w'=>e= .returned (.string (decS n))∧w'=w:=by
 by_cases h:0≤n
 ·obtain⟨u,rfl⟩:=Int.eq_ofNat_of_zero_le h
  exact specDecText_nat u w (by omega)
 ·obtain⟨u,hu⟩:=Int.eq_ofNat_of_zero_le (show 0≤ -n by omega)
  obtain rfl:n= -(u:Int):=by omega
  exact specDecText_neg u w (by omega) (by omega)

end Num
end Go.Proofs.YtcjgkmhpeedhiaaGreatDoor

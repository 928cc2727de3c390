/- Contracts of CheckSum, of the program and of its model: what it returns is the sum of the bytes of the text. -/
import Derived.Test.YtdcpjicgehdmfaaGreatDoorRows
import Derived.Test.YtdcpjicgehdmfaaGreatDoorMathSum
import Derived.WalkKit
import Derived.ProofKit
import Derived.OpenShut
namespace Go.Proofs.YtdcpjicgehdmfaaGreatDoor
namespace Num
open Go.ChangeShapes Go.WideShapes Go.ChangeAt Go.RowKit

theorem ret_int' {k:IntKind} {a b:Int} (h:a=b):Ending.returned (.int k a)= .returned (.int k b):=by rw[h]

theorem sumOfByte_any (x:Nat) (w:World) (hx:x<4294967296):
 Calls Tryz.prog 70 #[.int .u32 x] w fun e w'=>e= .returned (.int .u32 (Math.bitN 8 x))∧w'=w:=by
 go_enter Tryz.func70,Tryz.ntmps70
 go_wp2
 go_loop [0,4] (fun t i=>∃k y:Nat,k≤8∧y<4294967296∧i= .int .i64 k∧t= .int .u32 y∧Hid (y=Math.bitN k x)) (fun _ i=>(8-intOf i).toNat)
 case atStart=>exact⟨0,x,by omega,hx,rfl,rfl,rfl⟩
 case round=>
  obtain⟨k,y,hk,hy,rfl,rfl,H⟩:=hrel
  by_cases hlt:k<8
  ·have ha:=Math.and_one_u32 y hy
   by_cases ho:y%2=1
   ·have ho':(bits .and .u32 (y:Int) 1==1)=true:=by rw[ha,beq_iff_eq];omega
    have HB:Hid (bits .xor .u32 ((y:Int)/2) 3988292384=((Math.bit1 y:Nat):Int)):=by rw[Math.bit1_odd y ho];exact Math.xor_half y hy
    clear ho ha
    go_wp2
    go_round
    case rel=>exact⟨k+1,Math.bit1 y,by omega,Math.bit1_lt y hy,by go_num,by rw[HB.out],by rw[H.out];rfl⟩
    case measure=>simp[intOf];omega
   ·have ho':(bits .and .u32 (y:Int) 1==1)=false:=by rw[ha,beq_eq_false_iff_ne];omega
    have HB:Hid (y/2=Math.bit1 y):=(Math.bit1_even y ho).symm
    clear ho ha
    go_wp2
    go_round
    case rel=>exact⟨k+1,y/2,by omega,by omega,by go_num,by go_num,by have h:=HB.out;rw[H.out]at h⊢;exact h⟩
    case measure=>simp[intOf];omega
  ·obtain rfl:k=8:=by omega
   go_wp2
   go_ret
   exact⟨ret_int' (by rw[H.out]),rfl⟩

theorem implCheckSum_any (s:ByteArray) (w:World) (hs:s.size≤maxLen):
 Calls Tryz.prog 47 #[.string s] w fun e w'=>e= .returned (.int .u32 (Math.crc s.data.toList))∧w'=w:=by
 unfold maxLen at hs
 go_enter Tryz.func47,Tryz.ntmps47
 go_wp2
 go_loop [3,7] (fun t i=>∃k y:Nat,k≤s.size∧y<4294967296∧i= .int .i64 k∧t= .int .u32 y∧Hid (y=Math.crcAt (s.data.toList.take k))) (fun _ i=>s.size-(intOf i).toNat)
 case atStart=>exact⟨0,4294967295,by omega,by omega,rfl,rfl,rfl⟩
 case round=>
  obtain⟨k,y,hk,hy,rfl,rfl,H⟩:=hrel
  by_cases hlt:k<s.size
  ·have HB:Hid (bits .xor .u32 (y:Int) ((s[k].toNat:Int)%4294967296)=((y^^^s[k].toNat:Nat):Int)):=Math.xor_byte' y s[k] hy
   have hlt2:=Math.xor_lt y s[k].toNat hy (Math.byte_lt _)
   have HN:Hid (Math.bitN 8 (y^^^s[k].toNat)=Math.crcAt (s.data.toList.take (k+1))):=by
    show _=_
    rw[Math.take_snoc s k hlt,Math.crcAt_snoc,←H.out];rfl
   have hlt3:=Math.bitN_lt 8 _ hlt2
   go_wp2_with (go_at_call 70;rw[HB.out];refine(sumOfByte_any _ _ hlt2).mono ?_;rintro e w' ⟨rfl,rfl⟩)
   go_round
   case rel=>exact⟨k+1,_,by omega,hlt3,by go_num,rfl,HN⟩
   case measure=>simp[intOf];omega
  ·obtain rfl:k=s.size:=by omega
   have HF:Hid (bits .xor .u32 (y:Int) 4294967295=((Math.crc s.data.toList:Nat):Int)):=by
    show _=_
    rw[Math.xor_all y hy,H.out,Math.take_all];rfl
   go_wp2
   go_ret
   exact⟨ret_int' HF.out,rfl⟩

theorem specCheckSum_any (s:ByteArray) (w:World) (hs:s.size≤maxLen):
 Calls Tryz.prog 34 #[.string s] w fun e w'=>e= .returned (.int .u32 (Math.crc s.data.toList))∧w'=w:=by
 unfold maxLen at hs
 go_enter Tryz.func34,Tryz.ntmps34
 go_wp2
 go_loop [3,4] (fun t i=>∃k y:Nat,k≤s.size∧y<4294967296∧i= .int .i64 k∧t= .int .u32 y∧Hid (y=Math.crcAt (s.data.toList.take k))) (fun _ i=>s.size-(intOf i).toNat)
 case atStart=>exact⟨0,4294967295,by omega,by omega,rfl,rfl,rfl⟩
 case round=>
  obtain⟨k,y,hk,hy,rfl,rfl,H⟩:=hrel
  by_cases hlt:k<s.size
  ·have HB:Hid (bits .xor .u32 (y:Int) ((s[k].toNat:Int)%4294967296)=((y^^^s[k].toNat:Nat):Int)):=Math.xor_byte' y s[k] hy
   have hlt2:=Math.xor_lt y s[k].toNat hy (Math.byte_lt _)
   have HN:Hid (Math.bitN 8 (y^^^s[k].toNat)=Math.crcAt (s.data.toList.take (k+1))):=by
    show _=_
    rw[Math.take_snoc s k hlt,Math.crcAt_snoc,←H.out];rfl
   have hlt3:=Math.bitN_lt 8 _ hlt2
   go_wp2
   go_loop [3,5] (fun t i=>∃j z:Nat,j≤8∧z<4294967296∧i= .int .i64 j∧t= .int .u32 z∧Hid (z=Math.bitN j (y^^^s[k].toNat))) (fun _ i=>(8-intOf i).toNat)
   case atStart=>exact⟨0,y^^^s[k].toNat,by omega,hlt2,rfl,by rw[HB.out],rfl⟩
   case round=>
    obtain⟨j,z,hj,hz,rfl,rfl,HZ⟩:=hrel
    by_cases hj8:j<8
    ·by_cases ho:z%2=1
     ·have ho':((z:Int)%2==1)=true:=by rw[beq_iff_eq];omega
      have HO:Hid (bits .xor .u32 ((z:Int)/2) 3988292384=((Math.bit1 z:Nat):Int)):=by rw[Math.bit1_odd z ho];exact Math.xor_half z hz
      clear ho
      go_wp2
      go_round
      case rel=>exact⟨j+1,Math.bit1 z,by omega,Math.bit1_lt z hz,by go_num,by rw[HO.out],by rw[HZ.out];rfl⟩
      case measure=>simp[intOf];omega
     ·have ho':((z:Int)%2==1)=false:=by rw[beq_eq_false_iff_ne];omega
      have HO:Hid (z/2=Math.bit1 z):=(Math.bit1_even z ho).symm
      clear ho
      go_wp2
      go_round
      case rel=>exact⟨j+1,z/2,by omega,by omega,by go_num,by go_num,by have h:=HO.out;rw[HZ.out]at h⊢;exact h⟩
      case measure=>simp[intOf];omega
    ·obtain rfl:j=8:=by omega
     have HE:Hid (z=Math.crcAt (s.data.toList.take (k+1))):=HZ.out.trans HN.out
     go_wp2
     go_round
     case rel=>exact⟨k+1,z,by omega,hz,by go_num,rfl,HE⟩
     case measure=>simp[intOf];omega
  ·obtain rfl:k=s.size:=by omega
   have HF:Hid (bits .xor .u32 (y:Int) 4294967295=((Math.crc s.data.toList:Nat):Int)):=by
    show _=_
    rw[Math.xor_all y hy,H.out,Math.take_all];rfl
   go_wp2
   go_ret
   exact⟨ret_int' HF.out,rfl⟩

end Num
end Go.Proofs.YtdcpjicgehdmfaaGreatDoor

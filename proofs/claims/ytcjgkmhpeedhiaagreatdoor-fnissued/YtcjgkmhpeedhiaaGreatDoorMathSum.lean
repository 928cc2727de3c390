/- Plain facts on the sum of a text (CRC-32), on its folding, and on lists of bytes. -/
import Derived.Handy
import Derived.Laws.Bits64
import Derived.Laws.BitsLemmas
namespace Go.Proofs.YtcjgkmhpeedhiaaGreatDoor
namespace Math

theorem bits_xor_u32 (a b:Nat) (ha:a<4294967296) (hb:b<4294967296):
 bits .xor .u32 (a:Int) (b:Int)=((a^^^b:Nat):Int):=by
 have hx:a^^^b<2^32:=Nat.xor_lt_two_pow (by omega) (by omega)
 have h1:(BitVec.ofInt 32 (a:Int)).toNat=a:=by
  rw[BitVec.ofInt_natCast,BitVec.toNat_ofNat];exact Nat.mod_eq_of_lt (by omega)
 have h2:(BitVec.ofInt 32 (b:Int)).toNat=b:=by
  rw[BitVec.ofInt_natCast,BitVec.toNat_ofNat];exact Nat.mod_eq_of_lt (by omega)
 show IntKind.u32.wrap ((BitVec.ofInt 32 (a:Int)^^^BitVec.ofInt 32 (b:Int)).toNat:Int)=_
 rw[BitVec.toNat_xor,h1,h2,IntKind.wrap_u32]
 omega

theorem xor_all (y:Nat) (hy:y<4294967296):bits .xor .u32 (y:Int) 4294967295=((y^^^4294967295:Nat):Int):=
 bits_xor_u32 y 4294967295 hy (by omega)

theorem take_snoc (s:ByteArray) (k:Nat) (h:k<s.size):s.data.toList.take (k+1)=s.data.toList.take k++ [s[k]]:=by
 rw[List.take_succ_eq_append_getElem (by simpa using h)];rfl

theorem take_all (s:ByteArray):s.data.toList.take s.size=s.data.toList:=List.take_of_length_le (Nat.le_refl _)

def foldStep (x:Nat) (b:UInt8):Nat:=(257*x+b.toNat+1)%2147483647

def foldAt (l:List UInt8):Nat:=l.foldl foldStep 1

theorem foldStep_lt (x:Nat) (b:UInt8):foldStep x b<2147483647:=Nat.mod_lt _ (by omega)

theorem foldAt_snoc (l:List UInt8) (b:UInt8):foldAt (l++ [b])=foldStep (foldAt l) b:=by
 unfold foldAt
 rw[List.foldl_append]
 rfl

theorem foldStep_int (x:Nat) (b:UInt8):((foldStep x b:Nat):Int)=(257*(x:Int)+(b.toNat:Int)+1)%2147483647:=by
 unfold foldStep
 omega

theorem foldStep_plus (x:Nat) (b:UInt8):((x:Int)*257%2147483647+((b.toNat:Int)+1))%2147483647=((foldStep x b:Nat):Int):=by
 unfold foldStep
 omega

theorem bits_xor_u8 (a:UInt8) (d:Nat) (hd:d≤255):bits .xor .u8 (a.toNat:Int) (d:Int)=((a^^^UInt8.ofNat d).toNat:Int):=by
 have ha:=a.toNat_lt
 have hx:a.toNat^^^d<2^8:=Nat.xor_lt_two_pow (by omega) (by omega)
 have h1:(BitVec.ofInt 8 (a.toNat:Int)).toNat=a.toNat:=by
  rw[BitVec.ofInt_natCast,BitVec.toNat_ofNat];exact Nat.mod_eq_of_lt (by omega)
 have h2:(BitVec.ofInt 8 (d:Int)).toNat=d:=by
  rw[BitVec.ofInt_natCast,BitVec.toNat_ofNat];exact Nat.mod_eq_of_lt (by omega)
 rw[UInt8.toNat_xor,UInt8.toNat_ofNat',Nat.mod_eq_of_lt (show d<2^8 by omega)]
 show IntKind.u8.wrap ((BitVec.ofInt 8 (a.toNat:Int)^^^BitVec.ofInt 8 (d:Int)).toNat:Int)=_
 rw[BitVec.toNat_xor,h1,h2,IntKind.wrap_u8]
 omega
end Math
end Go.Proofs.YtcjgkmhpeedhiaaGreatDoor

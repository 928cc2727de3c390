/- Contracts of WordText, of the program and of its model: the four bytes of the word, the highest first. -/
import Derived.Test.YtdcpjicgehdmfaaGreatDoorNum
import Derived.Test.YtdcpjicgehdmfaaGreatDoorMathSum
import Derived.Laws.IdiomStrings
import Derived.Below
namespace Go.Proofs.YtdcpjicgehdmfaaGreatDoor
namespace Num
open Go.ChangeShapes Go.WideShapes Go.ChangeAt Go.RowKit

def wordS (x:Nat):ByteArray:=⟨#[UInt8.ofNat (x/16777216),UInt8.ofNat (x/65536),UInt8.ofNat (x/256),UInt8.ofNat x]⟩

theorem wordS_size (x:Nat):(wordS x).size=4:=rfl

theorem byte_of (x:Nat) (a:Int) (h:a=((x%256:Nat):Int)):Value.int IntKind.u8 a= .int .u8 ((UInt8.ofNat x).toNat:Int):=by
 rw[h,UInt8.toNat_ofNat']

theorem conv4 (w:World) (x:Nat) (C:Array Value) (hC:C= #[.int .u8 ((UInt8.ofNat (x/16777216)).toNat:Int),.int .u8 ((UInt8.ofNat (x/65536)).toNat:Int),.int .u8 ((UInt8.ofNat (x/256)).toNat:Int),.int .u8 ((UInt8.ofNat x).toNat:Int)]):
 (convert 58 9 (.slice (some ⟨w.heap.size,0,none⟩) 4 4)).run Tryz.prog (w.alloc (.cells C 5))= .ok (.string (wordS x)) (w.alloc (.cells C 5)):=by
 subst hC
 refine run_convert_bytes_back (w.alloc (.cells _ 5)) 58 9 5 ⟨w.heap.size,0,none⟩ 4 [UInt8.ofNat (x/16777216),UInt8.ofNat (x/65536),UInt8.ofNat (x/256),UInt8.ofNat x] Tryz.underlying58 Tryz.underlying5 Tryz.underlying9 ?_
 intro j hj
 rw[show Addr.add ⟨w.heap.size,0,none⟩ j=⟨w.heap.size,j,none⟩from by simp[Addr.add];exact Eq.symm,World.cell?_alloc_mark]
 match j,hj with
 |0,_=>rfl
 |1,_=>rfl
 |2,_=>rfl
 |3,_=>rfl

theorem implWordText_any (x:Nat) (w:World) (hx:x<4294967296):
 Calls Tryz.prog 46 #[.int .u32 x] w fun e w'=>e= .returned (.string (wordS x))∧Grown w w'∧Below w.heap.size w w':=by
 have hk:=conv4 w x #[.int .u8 ((x:Int)/16777216),.int .u8 ((x:Int)/65536%256),.int .u8 ((x:Int)/256%256),.int .u8 ((x:Int)%256)]
  (by rw[byte_of (x/16777216) ((x:Int)/16777216) (by omega),byte_of (x/65536) ((x:Int)/65536%256) (by omega),byte_of (x/256) ((x:Int)/256%256) (by omega),byte_of x ((x:Int)%256) (by omega)])
 go_enter Tryz.func46,Tryz.ntmps46
 go_wp2
 go_ret
 exact⟨rfl,(Grown.refl _).alloc _ _,(Below.refl _ _).alloc (Nat.le_refl _) _⟩

theorem specWordText_any (x:Nat) (w:World) (hx:x<4294967296):
 Calls Tryz.prog 33 #[.int .u32 x] w fun e w'=>e= .returned (.string (wordS x))∧Grown w w'∧Below w.heap.size w w':=by
 have hk:=conv4 w x #[.int .u8 ((x:Int)/16777216),.int .u8 ((x:Int)/65536%256),.int .u8 ((x:Int)/256%256),.int .u8 ((x:Int)%256)]
  (by rw[byte_of (x/16777216) ((x:Int)/16777216) (by omega),byte_of (x/65536) ((x:Int)/65536%256) (by omega),byte_of (x/256) ((x:Int)/256%256) (by omega),byte_of x ((x:Int)%256) (by omega)])
 go_enter Tryz.func33,Tryz.ntmps33
 go_wp2
 go_ret
 exact⟨rfl,(Grown.refl _).alloc _ _,(Below.refl _ _).alloc (Nat.le_refl _) _⟩

end Num
end Go.Proofs.YtdcpjicgehdmfaaGreatDoor

/- Contracts of WordText, of the program and of its model: the four bytes of the word, the highest first. -/
import Derived.Test.YthdenegheninaaiDoorNum
import Derived.Test.YthdenegheninaaiDoorMathSum
import Derived.Laws.IdiomStrings
import Derived.Below
namespace Go.Proofs.YthdenegheninaaiDoor
namespace Num
open Go.ChangeShapes Go.WideShapes Go.ChangeAt Go.RowKit

/-- The four bytes of a word. -/
def wordS (x : Nat) : ByteArray := ⟨#[UInt8.ofNat (x / 16777216), UInt8.ofNat (x / 65536), UInt8.ofNat (x / 256), UInt8.ofNat x]⟩

theorem wordS_size (x : Nat) : (wordS x).size = 4 := rfl

theorem byte_of (x : Nat) (a : Int) (h : a = ((x % 256 : Nat) : Int)) : Value.int IntKind.u8 a = .int .u8 ((UInt8.ofNat x).toNat : Int) := by
  rw [h, UInt8.toNat_ofNat']

end Num
end Go.Proofs.YthdenegheninaaiDoor

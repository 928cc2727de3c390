/- Contracts of WordText, of the program and of its model: the four bytes of the word, the highest first. -/
import Derived.Test.YtdfejmaekdgcdasNum
import Derived.Test.YtdfejmaekdgcdasMathSum
import Derived.Laws.IdiomStrings
import Derived.Below
namespace Go.Proofs.Ytdfejmaekdgcdas
namespace Num
open Go.ChangeShapes Go.WideShapes Go.ChangeAt Go.RowKit

/-- The four bytes of a word. -/
def wordS (x : Nat) : ByteArray := ⟨#[UInt8.ofNat (x / 16777216), UInt8.ofNat (x / 65536), UInt8.ofNat (x / 256), UInt8.ofNat x]⟩

theorem wordS_size (x : Nat) : (wordS x).size = 4 := rfl

theorem byte_of (x : Nat) (a : Int) (h : a = ((x % 256 : Nat) : Int)) : Value.int IntKind.u8 a = .int .u8 ((UInt8.ofNat x).toNat : Int) := by
  rw [h, UInt8.toNat_ofNat']

/-- The cells of the four bytes. -/
theorem conv4 (w : World) (x : Nat) (C : Array Value) (hC : C = #[.int .u8 ((UInt8.ofNat (x / 16777216)).toNat : Int), .int .u8 ((UInt8.ofNat (x / 65536)).toNat : Int), .int .u8 ((UInt8.ofNat (x / 256)).toNat : Int), .int .u8 ((UInt8.ofNat x).toNat : Int)]) :
    (convert 25 9 (.slice (some ⟨w.heap.size, 0, none⟩) 4 4)).run Try.prog (w.alloc (.cells C 5)) = .ok (.string (wordS x)) (w.alloc (.cells C 5)) := by
  subst hC
  refine run_convert_bytes_back (w.alloc (.cells _ 5)) 25 9 5 ⟨w.heap.size, 0, none⟩ 4 [UInt8.ofNat (x / 16777216), UInt8.ofNat (x / 65536), UInt8.ofNat (x / 256), UInt8.ofNat x] Try.underlying25 Try.underlying5 Try.underlying9 ?_
  intro j hj
  rw [show Addr.add ⟨w.heap.size, 0, none⟩ j = ⟨w.heap.size, j, none⟩ from by simp [Addr.add]; exact Eq.symm, World.cell?_alloc_mark]
  match j, hj with
  | 0, _ => rfl
  | 1, _ => rfl
  | 2, _ => rfl
  | 3, _ => rfl

end Num
end Go.Proofs.Ytdfejmaekdgcdas

/- The contract of the model's reader of a fixed block. -/
import Derived.Test.YtcifgableeeooalDoorMathFix
import Derived.Test.YtcifgableeeooalDoorPkWhole
namespace Go.Proofs.YtcifgableeeooalDoor
namespace Math

/-- The least length of the code y. -/
def lenLeast (y : Nat) : Nat := if y = 285 then 258 else cleast 4 (y - 257) + 3

theorem lenTold_is (s : ByteArray) (a y : Nat) : lenTold s a y = lenLeast y + lowAt s a (lenBits y) := by
  unfold lenTold lenLeast lenBits
  split
  · rfl
  · rfl

end Math
namespace Pk
open Go.ChangeShapes Go.WideShapes Go.ChangeAt Go.RowKit
open Math (bitAt lowAt topAt symAt symLen fixFrom lenBits lenLeast backTold lenTold)
set_option linter.unusedSimpArgs false
set_option linter.unusedVariables false

theorem lenOf_any (y : Nat) (w : World) (h1 : 257 ≤ y) (h2 : y ≤ 285) :
    Calls Tryd.prog 24 #[.int .i64 y] w fun e w' => e = .returned (ii2 (lenLeast y : Nat) (lenBits y : Nat)) ∧ w' = w := by
  by_cases h : y = 285
  · subst h
    exact lenOf_last w
  · obtain ⟨k, rfl⟩ : ∃ k, y = k + 257 := ⟨y - 257, by omega⟩
    have h3 := lenOf_val k w (by omega)
    unfold lenLeast lenBits
    rw [if_neg h, if_neg h, show k + 257 - 257 = k by omega]
    exact h3

theorem len_bds (y : Nat) (h1 : 257 ≤ y) (h2 : y ≤ 285) : lenLeast y ≤ 258 ∧ lenBits y ≤ 5 := by
  unfold lenLeast lenBits
  split
  · omega
  · have := len_there (y - 257) (by omega)
    omega

end Pk
end Go.Proofs.YtcifgableeeooalDoor

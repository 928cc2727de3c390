/- Contracts of Inverse, of the program and of its model: what it returns is the inverse by the measure, where there is one. -/
import Derived.Test.YtlgolnddhfadeaaNumGcd
namespace Go.Proofs.Ytlgolnddhfadeaa
namespace Num
open Go.ChangeShapes Go.WideShapes Go.ChangeAt Go.RowKit

theorem ret_two {k : IntKind} {a b : Int} {x : Value} (h : a = b) : Ending.returned (.tuple #[.int k a, x]) = .returned (.tuple #[.int k b, x]) := by rw [h]

/-- What the method inverse answers. -/
def invV (a m : Int) : Value := if Nat.gcd a.toNat m.toNat = 1 then .tuple #[.int .u64 (Math.inv a m), .bool true] else .tuple #[.int .u64 0, .bool false]
theorem invV_yes (a m : Int) (h : Nat.gcd a.toNat m.toNat = 1) : invV a m = .tuple #[.int .u64 (Math.inv a m), .bool true] := if_pos h
theorem invV_no (a m : Int) (h : Nat.gcd a.toNat m.toNat ≠ 1) : invV a m = .tuple #[.int .u64 0, .bool false] := if_neg h

end Num
end Go.Proofs.Ytlgolnddhfadeaa

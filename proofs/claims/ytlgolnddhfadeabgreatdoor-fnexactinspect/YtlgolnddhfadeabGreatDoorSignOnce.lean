/- Contracts of the program's functions of chapter 2: a mark by one draw. -/
import Derived.Test.YtlgolnddhfadeabGreatDoorSignKey
namespace Go.Proofs.YtlgolnddhfadeabGreatDoor
namespace Num
open Go.ChangeShapes Go.WideShapes Go.ChangeAt Go.RowKit
set_option linter.unusedSimpArgs false
set_option linter.unusedVariables false

/-- A signer as a value. -/
abbrev gv (p q g x h : Int) : Value := .agg #[.int .i64 p, .int .i64 q, .int .i64 g, .int .i64 x, .int .i64 h]

/-- No error where the draw will do; else the error that variable holds. -/
def errV (a : Addr) : Bool → Value
  | true => .nilIface
  | false => .iface 234 (.pointer (some a))

theorem implInverse_is (a m : Int) (w : World) :
    Calls Tryz.prog 162 #[.int .i64 a, .int .i64 m] w fun e w' => e = .returned (.tuple #[.int .i64 (invI a m), .bool (invB a m)]) ∧ Drawn w w' := implInverse_val a m w

theorem three (w : World) (a b c : Obj) : Below w.heap.size w (((w.alloc a).alloc b).alloc c) ∧ (((w.alloc a).alloc b).alloc c).heap[w.heap.size]? = some a ∧ (((w.alloc a).alloc b).alloc c).heap[w.heap.size + 1]? = some b ∧ (((w.alloc a).alloc b).alloc c).heap[w.heap.size + 2]? = some c := by
  refine ⟨join_below (join_below (new_below _ _) (new_below _ _)) (new_below _ _), heap_old (heap_old (heap_new w a) b) c, ?_, ?_⟩
  · have := heap_old (heap_new (w.alloc a) b) c
    simpa using this
  · have := heap_new ((w.alloc a).alloc b) c
    simpa using this

end Num
end Go.Proofs.YtlgolnddhfadeabGreatDoor

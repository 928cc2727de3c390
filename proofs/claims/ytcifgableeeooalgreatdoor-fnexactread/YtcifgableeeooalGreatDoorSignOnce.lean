/- Contracts of the program's functions of chapter 2: a mark by one draw. -/
import Derived.Test.YtcifgableeeooalGreatDoorSignKey
namespace Go.Proofs.YtcifgableeeooalGreatDoor
namespace Num
open Go.ChangeShapes Go.WideShapes Go.ChangeAt Go.RowKit
set_option linter.unusedSimpArgs false
set_option linter.unusedVariables false

/-- A signer as a value. -/
abbrev gv (p q g x h : Int) : Value := .agg #[.int .i64 p, .int .i64 q, .int .i64 g, .int .i64 x, .int .i64 h]

/-- The block of a signer. -/
abbrev gb (p q g x h : Int) : Obj := .cells #[.int .i64 p, .int .i64 q, .int .i64 g, .int .i64 x, .int .i64 h] 77

/-- No error where the draw will do; else the error that variable holds. -/
def errV (a : Addr) : Bool → Value
  | true => .nilIface
  | false => .iface 216 (.pointer (some a))

theorem implInverse_is (a m : Int) (w : World) :
    Calls Tryz.prog 91 #[.int .i64 a, .int .i64 m] w fun e w' => e = .returned (.tuple #[.int .i64 (invI a m), .bool (invB a m)]) ∧ Drawn w w' := implInverse_val a m w

theorem three (w : World) (a b c : Obj) : Below w.heap.size w (((w.alloc a).alloc b).alloc c) ∧ (((w.alloc a).alloc b).alloc c).heap[w.heap.size]? = some a ∧ (((w.alloc a).alloc b).alloc c).heap[w.heap.size + 1]? = some b ∧ (((w.alloc a).alloc b).alloc c).heap[w.heap.size + 2]? = some c := by
  refine ⟨join_below (join_below (new_below _ _) (new_below _ _)) (new_below _ _), heap_old (heap_old (heap_new w a) b) c, ?_, ?_⟩
  · have := heap_old (heap_new (w.alloc a) b) c
    simpa using this
  · have := heap_new ((w.alloc a).alloc b) c
    simpa using this

theorem markBy_out (p q g x h k : Int) (w : World) (hk : ¬ (1 ≤ k ∧ k ≤ q - 1)) (a : Addr) (hE : w.cell? ⟨0, 0, none⟩ = some (.iface 216 (.pointer (some a)))) (hlt : 0 < w.heap.size) :
    Calls Tryz.prog 47 #[gv p q g x h, .int .i64 k] w fun e w' => e = .returned (.tuple #[mv 0 0, .iface 216 (.pointer (some a))]) ∧ Below w.heap.size w w' := by
  have hd : decide (1 ≤ k ∧ k < q) = false := decide_eq_false (by omega)
  obtain ⟨L0, b1, b2, b3⟩ := three w (gb p q g x h) (mb 0 0) (pb p q g)
  go_enter Tryz.func47, Tryz.ntmps47
  go_wp2_with fail
  refine (belowQ_val p q g k _ false hd).mono ?_
  rintro e w3 ⟨rfl, L1⟩
  have hB := kept_new L1 b2
  have L2 := join_below L0 L1
  have hE3 := (L2.cell (p := ⟨0, 0, none⟩) hlt).trans hE
  have d0 : w3.cell? ⟨w.heap.size + 1, 0, none⟩ = some (.int .i64 0) := cell_at hB 0
  have d1 : w3.cell? ⟨w.heap.size + 1, 1, none⟩ = some (.int .i64 0) := cell_at hB 1
  have f0 : w3.frozen? ⟨w.heap.size + 1, 0, none⟩ = false := frozen_at hB 0
  have f1 : w3.frozen? ⟨w.heap.size + 1, 1, none⟩ = false := frozen_at hB 1
  clear L0 b1 b2 b3 L1 hB
  have hn1 : 0 ≠ w.heap.size + 1 := by omega
  have hn2 : w.heap.size + 1 ≠ 0 := by omega
  go_wp2
  go_region
  all_goals
    go_wp2
    refine bodyPost_ret (v := .tuple #[mv 0 0, .iface 216 (.pointer (some a))]) (by simp [results, Tryz.results47, go_sem, d0, d1]) rfl ?_
    exact ⟨rfl, (L2.drew.setCell (by simp) _).setCell (by simp) _⟩

end Num
end Go.Proofs.YtcifgableeeooalGreatDoor

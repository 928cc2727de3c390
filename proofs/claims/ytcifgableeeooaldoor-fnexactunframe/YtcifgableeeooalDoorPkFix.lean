/- Contracts of FixedCode, of the program and of its model. -/
import Derived.Test.YtcifgableeeooalDoorPkRuns
import Derived.Test.YtcifgableeeooalDoorPkCode
import Derived.Test.YtcifgableeeooalDoorMathBit
namespace Go.Proofs.YtcifgableeeooalDoor
namespace Pk
open Go.ChangeShapes Go.WideShapes Go.ChangeAt Go.RowKit
open Math (highL highP)
set_option linter.unusedSimpArgs false
set_option linter.unusedVariables false

/-- What FixedCode answers. -/
def fixL (s : Int) : List Nat :=
  if 0 ≤ s ∧ s ≤ 143 then highL (48 + s).toNat 8
  else if 144 ≤ s ∧ s ≤ 255 then highL (400 + s - 144).toNat 9
  else if 256 ≤ s ∧ s ≤ 279 then highL (s - 256).toNat 7
  else if 280 ≤ s ∧ s ≤ 285 then highL (192 + s - 280).toNat 8
  else []

/-- One run's part. -/
def seg (a b n c : Int) (s : Int) : List Nat := if a ≤ s ∧ s ≤ b then highL (c + s - a).toNat n.toNat else []

/-- What the first k runs tell. -/
def fixAt (s : Int) : Nat → List Nat
  | 0 => []
  | k + 1 => fixAt s k ++ seg (runVals.getD (4 * k) 0) (runVals.getD (4 * k + 1) 0) (runVals.getD (4 * k + 2) 0) (runVals.getD (4 * k + 3) 0) s

theorem fixAt_all (s : Int) (h : s ≤ 285) : fixAt s 4 = fixL s := by
  have e : fixAt s 4 = seg 256 279 7 0 s ++ seg 0 143 8 48 s ++ seg 280 287 8 192 s ++ seg 144 255 9 400 s := by simp [fixAt, runVals]
  rw [e]
  unfold fixL
  by_cases h1 : 0 ≤ s ∧ s ≤ 143
  · rw [if_pos h1, seg, seg, seg, seg, if_neg (by omega), if_pos h1, if_neg (by omega), if_neg (by omega)]
    simp
  · rw [if_neg h1]
    by_cases h2 : 144 ≤ s ∧ s ≤ 255
    · rw [if_pos h2, seg, seg, seg, seg, if_neg (by omega), if_neg h1, if_neg (by omega), if_pos h2]
      simp
    · rw [if_neg h2]
      by_cases h3 : 256 ≤ s ∧ s ≤ 279
      · rw [if_pos h3, seg, seg, seg, seg, if_pos h3, if_neg h1, if_neg (by omega), if_neg h2]
        simp
      · rw [if_neg h3]
        by_cases h4 : 280 ≤ s ∧ s ≤ 285
        · rw [if_pos h4, seg, seg, seg, seg, if_neg h3, if_neg h1, if_pos (by omega), if_neg h2]
          simp
        · rw [if_neg h4, seg, seg, seg, seg, if_neg h3, if_neg h1, if_neg (by omega), if_neg h2]
          rfl

theorem seg_length (a b n c s : Int) (hn : n ≤ 9) : (seg a b n c s).length ≤ 9 := by
  unfold seg
  split
  · rw [Math.highL_length]; omega
  · simp

theorem own_new (w : World) (t : TypeId) : (w.alloc (.cells #[] t)).ownsRow w.heap.size t 1 (.slice (some ⟨w.heap.size, 0, none⟩) 0 0) 0 [] :=
  ⟨rfl, Or.inr ⟨w.heap.size, 0, #[], rfl, Nat.le_refl _, heap_new w _, by omega, by unfold maxLen; omega, rfl, rfl⟩⟩

theorem div_p2 (x i : Nat) : (x : Int) / (p2 i : Int) = ((x / 2 ^ i : Nat) : Int) := by
  unfold p2
  simp

theorem bit_shift' (n i : Nat) (hn : n < 4294967296) : bits BinOp.and IntKind.i64 ((n : Int) / 2 ^ i) 1 = ((n / 2 ^ i % 2 : Nat) : Int) := by
  have e : (n : Int) / 2 ^ i = ((n / 2 ^ i : Nat) : Int) := by simp
  rw [e]
  exact Math.and_one_i64 _ (Nat.lt_of_le_of_lt (Nat.div_le_self _ _) (by omega))

/-- The table as a value. -/
abbrev runsV : Value := .agg #[.int .i64 256, .int .i64 279, .int .i64 7, .int .i64 0, .int .i64 0, .int .i64 143, .int .i64 8, .int .i64 48, .int .i64 280, .int .i64 287, .int .i64 8, .int .i64 192, .int .i64 144, .int .i64 255, .int .i64 9, .int .i64 400]

theorem run_at0 (w : World) : (Instr.index 73 runsV (.int .i64 0)).run Tryd.prog w = .ok (.agg #[.int .i64 256, .int .i64 279, .int .i64 7, .int .i64 0]) w := by
  simp [Instr.index, run_underlying Tryd.underlying73, asIntOf, part, go_sem]

theorem run_at1 (w : World) : (Instr.index 73 runsV (.int .i64 1)).run Tryd.prog w = .ok (.agg #[.int .i64 0, .int .i64 143, .int .i64 8, .int .i64 48]) w := by
  simp [Instr.index, run_underlying Tryd.underlying73, asIntOf, part, go_sem]

theorem run_at2 (w : World) : (Instr.index 73 runsV (.int .i64 2)).run Tryd.prog w = .ok (.agg #[.int .i64 280, .int .i64 287, .int .i64 8, .int .i64 192]) w := by
  simp [Instr.index, run_underlying Tryd.underlying73, asIntOf, part, go_sem]

theorem run_at3 (w : World) : (Instr.index 73 runsV (.int .i64 3)).run Tryd.prog w = .ok (.agg #[.int .i64 144, .int .i64 255, .int .i64 9, .int .i64 400]) w := by
  simp [Instr.index, run_underlying Tryd.underlying73, asIntOf, part, go_sem]

end Pk
end Go.Proofs.YtcifgableeeooalDoor

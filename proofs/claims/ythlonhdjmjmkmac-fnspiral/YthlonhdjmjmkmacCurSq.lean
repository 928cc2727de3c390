/- Draws for the laws of squares: a number of the way; and what those laws ask of the way. -/
import Derived.Test.YthlonhdjmjmkmacCurNum
import Derived.Test.YthlonhdjmjmkmacSqWay
namespace Go.Proofs.Ythlonhdjmjmkmac
namespace Sq
set_option linter.unusedSimpArgs false
set_option linter.unusedVariables false
open Go.ChangeShapes Go.WideShapes Go.ChangeAt Go.RowKit
open Cur (Is Moved Bytes new_any once_any below_any pickInt_any rowOf_new)

theorem drawSpiral (W0 : World) (a : Option Addr) (n cap : Nat) (hn : n ≤ 1048576) (B : Bytes W0 a n) :
    Calls Try.prog 8 #[.slice a n cap] W0 fun e w' => (∃ x : Int, e = .returned (.int .i64 x) ∧ -1 ≤ x ∧ x ≤ 3721) ∧ Below W0.heap.size W0 w' := by
  go_enter Try.func8, Try.ntmps8
  go_wp2_with fail
  refine (new_any W0 a n cap hn B).mono ?_
  rintro e w1 ⟨rfl, C1⟩
  go_wp2_with fail
  refine (once_any C1 _).mono ?_
  rintro e w4 ⟨⟨t, rfl⟩, C4, M4⟩
  have hlt := C4.lt
  cases t
  · go_wp2_with fail
    refine (below_any C4 _).mono ?_
    rintro e w5 ⟨⟨y, rfl, hy0, hy1⟩, C5, M5⟩
    have hy2 := hy1 (by omega)
    clear hy1
    go_wp2
    go_ret
    exact ⟨⟨_, rfl, by omega, by omega⟩, C5.below⟩
  · go_wp2_with fail
    refine (pickInt_any (C4.alloc _) (fun x => -1 ≤ x ∧ x ≤ 3721) w4.heap.size 9 9 (by omega) (by omega) (by omega) (rowOf_new _ w4 [-1, 0, 1, 8, 9, 24, 25, 3720, 3721] _ (by intro z hz; simp at hz; omega))).mono ?_
    rintro e w6 ⟨⟨z, rfl, hz⟩, C6, M6⟩
    go_wp2
    go_ret
    exact ⟨⟨_, rfl, hz⟩, C6.below⟩

theorem way_in (k : Nat) : k < (2 * dist (wx k) (wy k) + 1) * (2 * dist (wx k) (wy k) + 1) ∧ (dist (wx k) (wy k) = 0 ∨ (2 * (dist (wx k) (wy k) - 1) + 1) * (2 * (dist (wx k) (wy k) - 1) + 1) ≤ k) := by
  have h := kOf_way k
  have h1 := kOf_lt (Nat.le_refl (dist (wx k) (wy k)))
  rw [h] at h1
  refine ⟨h1, ?_⟩
  by_cases h0 : dist (wx k) (wy k) = 0
  · exact .inl h0
  · refine .inr ?_
    unfold kOf at h
    rw [if_neg h0] at h
    rw [side, Nat.sub_add_cancel (by omega)]
    omega

/-- One field at a time. -/
theorem way_one (k : Nat) : ∃ a b : Int, wx (k + 1) - wx k = a ∧ wy (k + 1) - wy k = b ∧ 0 ≤ a * a ∧ a * a ≤ 1 ∧ 0 ≤ b * b ∧ b * b ≤ 1 ∧ a * a + b * b = 1 ∧ -1 ≤ a ∧ a ≤ 1 ∧ -1 ≤ b ∧ b ≤ 1 := by
  obtain ⟨e1, e2⟩ := way_step k
  have hd := dir_lt k
  refine ⟨sx (dir k), sy (dir k), by omega, by omega, ?_⟩
  obtain e | e | e | e : dir k = 0 ∨ dir k = 1 ∨ dir k = 2 ∨ dir k = 3 := by omega
  all_goals (rw [e]; decide)

/-- The greatest of a number and of those in the list, so far. -/
def mx (x y : Int) (k : Nat) : Int := if k = 0 then x else if k = 1 then max x (-x) else if k = 2 then max (max x (-x)) y else max (max (max x (-x)) y) (-y)

theorem mx_end (x y : Int) : mx x y 3 = (dist x y : Int) := by
  show max (max (max x (-x)) y) (-y) = (Nat.max x.natAbs y.natAbs : Int)
  show _ = ((max x.natAbs y.natAbs : Nat) : Int)
  omega

/-- The list's numbers. -/
def lv (x y : Int) (k : Nat) : Int := if k = 0 then -x else if k = 1 then y else -y

theorem mx_step (x y : Int) (k : Nat) (hk : k < 3) : mx x y (k + 1) = max (mx x y k) (lv x y k) := by
  obtain rfl | rfl | rfl : k = 0 ∨ k = 1 ∨ k = 2 := by omega
  all_goals rfl

theorem lv_bd {x y : Int} (h1 : -30 ≤ x) (h2 : x ≤ 30) (h3 : -30 ≤ y) (h4 : y ≤ 30) (k : Nat) : -30 ≤ lv x y k ∧ lv x y k ≤ 30 := by
  unfold lv
  by_cases e : k = 0
  · rw [if_pos e]; omega
  · rw [if_neg e]
    by_cases e : k = 1
    · rw [if_pos e]; omega
    · rw [if_neg e]; omega

theorem lv_cell {w : World} {x y : Int} {t : TypeId} (k : Nat) (hk : k < 3) : (w.alloc (.cells #[.int .i64 (-x), .int .i64 y, .int .i64 (-y)] t)).cell? ⟨w.heap.size, k, none⟩ = some (.int .i64 (lv x y k)) := by
  rw [Pk.cell_at (Pk.heap_new w _) k]
  obtain rfl | rfl | rfl : k = 0 ∨ k = 1 ∨ k = 2 := by omega
  all_goals rfl

theorem up_sq (D n : Nat) (h : n < (2 * D + 1) * (2 * D + 1)) (hD : D ≤ 30) : ∃ A : Int, (2 * (D : Int) + 1) * (2 * (D : Int) + 1) = A ∧ (n : Int) < A ∧ A ≤ 3721 := by
  refine ⟨(((2 * D + 1) * (2 * D + 1) : Nat) : Int), ?_, by omega, ?_⟩
  · rw [Int.natCast_mul]
    have : ((2 * D + 1 : Nat) : Int) = 2 * (D : Int) + 1 := by omega
    rw [this]
  · have : (2 * D + 1) * (2 * D + 1) ≤ 61 * 61 := Nat.mul_le_mul (by omega) (by omega)
    omega

theorem lo_sq (D n : Nat) (h0 : 0 < D) (hD : D ≤ 30) (h : (2 * (D - 1) + 1) * (2 * (D - 1) + 1) ≤ n) : ∃ C : Int, (2 * (D : Int) - 1) * (2 * (D : Int) - 1) = C ∧ 0 ≤ C ∧ C ≤ (n : Int) := by
  refine ⟨(((2 * (D - 1) + 1) * (2 * (D - 1) + 1) : Nat) : Int), ?_, by omega, by omega⟩
  rw [Int.natCast_mul]
  have : ((2 * (D - 1) + 1 : Nat) : Int) = 2 * (D : Int) - 1 := by omega
  rw [this]

end Sq
end Go.Proofs.Ythlonhdjmjmkmac

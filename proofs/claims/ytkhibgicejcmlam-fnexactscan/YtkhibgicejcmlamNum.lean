/- Contracts of the functions of chapter 1, of the program and of its model: what each call returns, the world as it was. -/
import Derived.Test.YtkhibgicejcmlamRows
import Derived.Test.YtkhibgicejcmlamMath
import Derived.WalkKit
import Derived.ProofKit
import Derived.OpenShut
import Derived.Deep.QuietTactic
import Derived.BigQuiet
namespace Go.Proofs.Ytkhibgicejcmlam
namespace Num
open Go.ChangeShapes Go.WideShapes Go.ChangeAt Go.RowKit

theorem ret_int {k : IntKind} {a b : Int} (h : a = b) : Ending.returned (.int k a) = .returned (.int k b) := by rw [h]

/-- The world behind some draws. -/
def Drawn (w w1 : World) : Prop := ∃ q, w1 = w.drewN q

theorem Drawn.refl (w : World) : Drawn w w := ⟨0, rfl⟩

theorem Drawn.more {w w1 : World} (h : Drawn w w1) (n : Nat) : Drawn w (w1.drewN n) := by
  obtain ⟨q, rfl⟩ := h
  exact ⟨q + n, by rw [World.drewN_drewN]⟩

theorem l01In_any (x a b : Int) (w : World) :
    Calls Try.prog 50 #[.int .i64 x, .int .i64 a, .int .i64 b] w fun e w' => e = .returned (.bool (decide (a ≤ x ∧ x ≤ b))) ∧ w' = w := by
  by_cases h1 : a ≤ x <;> by_cases h2 : x ≤ b
  all_goals
    go_enter Try.func50, Try.ntmps50
    go_wp2
    go_ret
    exact ⟨by simp [h1, h2], rfl⟩

theorem isMeasure_yes (m : Int) (w : World) (h1 : 2 ≤ m) (h2 : m ≤ 2147483647) :
    Calls Try.prog 62 #[.int .i64 m] w fun e w' => e = .returned (.bool true) ∧ w' = w := by
  go_enter Try.func62, Try.ntmps62
  go_wp2
  go_ret
  exact ⟨by simp, rfl⟩

theorem isMeasure_no (m : Int) (w : World) (h : m < 2 ∨ 2147483647 < m) :
    Calls Try.prog 62 #[.int .i64 m] w fun e w' => e = .returned (.bool false) ∧ w' = w := by
  rcases h with h | h
  · go_enter Try.func62, Try.ntmps62
    go_wp2
    go_ret
    exact ⟨by simp, rfl⟩
  · go_enter Try.func62, Try.ntmps62
    go_wp2
    go_ret
    exact ⟨by simp; try omega, rfl⟩

theorem residueOf_any (x m : Int) (w : World) (h1 : 2 ≤ m) (h2 : m ≤ 2147483647) :
    Calls Try.prog 63 #[.int .i64 x, .int .i64 m] w fun e w' => e = .returned (.int .u64 (x % m)) ∧ w' = w := by
  have hb1 := Int.tmod_lt_of_pos x (show 0 < m by omega)
  have hb2 := Int.lt_tmod_of_pos x (show 0 < m by omega)
  go_enter Try.func63, Try.ntmps63
  go_wp2
  all_goals go_ret
  · exact ⟨ret_int (Math.tmod_neg x m h1 ‹_›), rfl⟩
  · exact ⟨ret_int (Math.tmod_pos x m h1 ‹_›), rfl⟩

theorem implMod_no (x m : Int) (w : World) (h : m < 2 ∨ 2147483647 < m) :
    Calls Try.prog 34 #[.int .i64 x, .int .i64 m] w fun e w' => e = .returned (.int .i64 (-1)) ∧ w' = w := by
  go_enter Try.func34, Try.ntmps34
  go_wp2_with (go_at_call 62; refine (isMeasure_no _ _ h).mono ?_; rintro e w' ⟨rfl, rfl⟩)
  go_ret
  exact ⟨rfl, rfl⟩

theorem implMod_yes (x m : Int) (w : World) (h1 : 2 ≤ m) (h2 : m ≤ 2147483647) :
    Calls Try.prog 34 #[.int .i64 x, .int .i64 m] w fun e w' => e = .returned (.int .i64 (x % m)) ∧ w' = w := by
  obtain ⟨hb1, hb2⟩ := Math.emod_bd x m h1
  go_enter Try.func34, Try.ntmps34
  go_wp2_with (first | (go_at_call 62; refine (isMeasure_yes _ _ h1 h2).mono ?_; rintro e w' ⟨rfl, rfl⟩) | (go_at_call 63; refine (residueOf_any _ _ _ h1 h2).mono ?_; rintro e w' ⟨rfl, rfl⟩))
  go_ret
  exact ⟨rfl, rfl⟩

end Num
end Go.Proofs.Ytkhibgicejcmlam

/- Contracts of the functions of chapter 1, of the program and of its model: what each call returns, the world as it was. -/
import Derived.Test.YtaplbjoghkipdaaDoorRows
import Derived.Test.YtaplbjoghkipdaaDoorMath
import Derived.WalkKit
import Derived.ProofKit
import Derived.OpenShut
import Derived.Deep.QuietTactic
import Derived.BigQuiet
namespace Go.Proofs.YtaplbjoghkipdaaDoor
namespace Num
open Go.ChangeShapes Go.WideShapes Go.ChangeAt Go.RowKit

theorem ret_int {k : IntKind} {a b : Int} (h : a = b) : Ending.returned (.int k a) = .returned (.int k b) := by rw [h]

/-- The world behind some draws. -/
def Drawn (w w1 : World) : Prop := ∃ q, w1 = w.drewN q

theorem Drawn.refl (w : World) : Drawn w w := ⟨0, rfl⟩

theorem Drawn.more {w w1 : World} (h : Drawn w w1) (n : Nat) : Drawn w (w1.drewN n) := by
  obtain ⟨q, rfl⟩ := h
  exact ⟨q + n, by rw [World.drewN_drewN]⟩

theorem l01In_any (x a b : Int) (w : World) :
    Calls Tryd.prog 32 #[.int .i64 x, .int .i64 a, .int .i64 b] w fun e w' => e = .returned (.bool (decide (a ≤ x ∧ x ≤ b))) ∧ w' = w := by
  by_cases h1 : a ≤ x <;> by_cases h2 : x ≤ b
  all_goals
    go_enter Tryd.func32, Tryd.ntmps32
    go_wp2
    go_ret
    exact ⟨by simp [h1, h2], rfl⟩

end Num
end Go.Proofs.YtaplbjoghkipdaaDoor

/- Contracts of the functions of chapter 1, of the program and of its model: what each call returns, the world as it was. -/
import Derived.Test.YtbmcnkfhiiicjaaDoorRows
import Derived.Test.YtbmcnkfhiiicjaaDoorMath
import Derived.WalkKit
import Derived.ProofKit
import Derived.OpenShut
import Derived.Deep.QuietTactic
import Derived.BigQuiet
namespace Go.Proofs.YtbmcnkfhiiicjaaDoor
namespace Num
open Go.ChangeShapes Go.WideShapes Go.ChangeAt Go.RowKit

theorem ret_int {k : IntKind} {a b : Int} (h : a = b) : Ending.returned (.int k a) = .returned (.int k b) := by rw [h]

/-- The world behind some draws. -/
def Drawn (w w1 : World) : Prop := ∃ q, w1 = w.drewN q

theorem Drawn.refl (w : World) : Drawn w w := ⟨0, rfl⟩

theorem Drawn.more {w w1 : World} (h : Drawn w w1) (n : Nat) : Drawn w (w1.drewN n) := by
  obtain ⟨q, rfl⟩ := h
  exact ⟨q + n, by rw [World.drewN_drewN]⟩

end Num
end Go.Proofs.YtbmcnkfhiiicjaaDoor

/- The model's Release and Held. -/
import Derived.Test.YtikdganlpedbeapSeAdd
namespace Go.Proofs.Ytikdganlpedbeap
namespace Se
open Go.ChangeShapes Go.WideShapes Go.ChangeAt Go.RowKit
open Pk (new_below join_below cell_at heap_new frozen_at lt_of kept heap_old Drawn info_of own_form own_below Room)
set_option linter.unusedSimpArgs false
set_option linter.unusedVariables false

theorem nil_own (w : World) (t : TypeId) : (w.alloc (.cells #[] t)).ownsRow w.heap.size t 7 (.slice (some ⟨w.heap.size, 0, none⟩) 0 0) 0 [] :=
  ⟨rfl, Or.inr ⟨w.heap.size, 0, #[], rfl, Nat.le_refl _, heap_new _ _, by simp, by simp, by simp, by simp⟩⟩


end Se
end Go.Proofs.Ytikdganlpedbeap

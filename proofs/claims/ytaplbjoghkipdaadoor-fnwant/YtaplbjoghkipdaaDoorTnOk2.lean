/- Contracts of TrainOk, of the program and of its model. -/
import Derived.Test.YtaplbjoghkipdaaDoorTnOk
namespace Go.Proofs.YtaplbjoghkipdaaDoor
namespace Tn
open Go.ChangeShapes Go.WideShapes Go.ChangeAt Go.RowKit
open Pk (new_below join_below cell_at heap_new frozen_at lt_of kept heap_old)
set_option linter.unusedSimpArgs false
set_option linter.unusedVariables false

theorem stepB_at (l : List St) (k : Nat) (h : k < l.length) : stepB l k = (stB l[k] && decide (idx l l[k].st 0 = k) && gapB l k) := by
  unfold stepB
  rw [getD_at l k h]

theorem gapB_0 (l : List St) : gapB l 0 = true := rfl

theorem gapB_pos (l : List St) (k j : Nat) (h : k < l.length) (hj : k = j + 1) : gapB l k = decide ((l[j]'(by omega)).dp < l[k].ar) := by
  subst hj
  unfold gapB
  rw [getD_at l (j + 1) h, show j + 1 - 1 = j from rfl, getD_at l j (by omega), decide_eq_false (by omega), Bool.false_or]

end Tn
end Go.Proofs.YtaplbjoghkipdaaDoor

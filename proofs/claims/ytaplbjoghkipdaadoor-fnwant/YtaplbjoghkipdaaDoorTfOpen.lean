/- Edges that came in: how many there are, and what they hold. -/
import Derived.Test.YtaplbjoghkipdaaDoorTfEdges
import Derived.Deep.Slices
namespace Go.Proofs.YtaplbjoghkipdaaDoor
namespace Tf
open Go.ChangeShapes Go.WideShapes Go.ChangeAt Go.RowKit
set_option linter.unusedSimpArgs false
set_option linter.unusedVariables false

theorem add_plain (b o i : Nat) : Addr.add ⟨b, o, none⟩ i = ⟨b, o + i, none⟩ := by simp [Addr.add]

end Tf
end Go.Proofs.YtaplbjoghkipdaaDoor

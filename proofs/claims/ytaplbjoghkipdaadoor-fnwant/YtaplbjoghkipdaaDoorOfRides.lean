/- Rides that came in: how many there are, and what they hold. -/
import Derived.Test.YtaplbjoghkipdaaDoorTnRides
import Derived.Deep.Slices
namespace Go.Proofs.YtaplbjoghkipdaaDoor
namespace Rd
open Go.ChangeShapes Go.WideShapes Go.ChangeAt Go.RowKit
set_option linter.unusedSimpArgs false
set_option linter.unusedVariables false

theorem add_plain (b o i : Nat) : Addr.add ⟨b, o, none⟩ i = ⟨b, o + i, none⟩ := by simp [Addr.add]

end Rd
end Go.Proofs.YtaplbjoghkipdaaDoor

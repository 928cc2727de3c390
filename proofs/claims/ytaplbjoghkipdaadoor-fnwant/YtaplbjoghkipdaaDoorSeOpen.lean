/- Holds that came in: how many there are, and what they hold. -/
import Derived.Test.YtaplbjoghkipdaaDoorSeHolds
import Derived.Deep.Slices
namespace Go.Proofs.YtaplbjoghkipdaaDoor
namespace Se
open Go.ChangeShapes Go.WideShapes Go.ChangeAt Go.RowKit
set_option linter.unusedSimpArgs false
set_option linter.unusedVariables false

theorem add_plain (b o i : Nat) : Addr.add ⟨b, o, none⟩ i = ⟨b, o + i, none⟩ := by simp [Addr.add]

/-- Numbers that an int holds. -/
abbrev WfI (x : Int) : Prop := (Lit.int .i64 x).wf = true

/-- All numbers of a hold are such. -/
structure Wf (p : Hl) : Prop where
  tr : WfI p.tr
  dy : WfI p.dy
  co : WfI p.co
  se : WfI p.se
  ba : WfI p.ba
  be : WfI p.be
  od : WfI p.od

/-- All holds of a list are so. -/
def Wfs (ps : List Hl) : Prop := ∀ p ∈ ps, Wf p

end Se
end Go.Proofs.YtaplbjoghkipdaaDoor

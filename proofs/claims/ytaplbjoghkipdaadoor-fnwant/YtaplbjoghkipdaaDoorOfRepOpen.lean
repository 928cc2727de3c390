/- Replies that came in: how many there are, and what they hold. -/
import Derived.Test.YtaplbjoghkipdaaDoorOfReps
import Derived.Deep.Slices
namespace Go.Proofs.YtaplbjoghkipdaaDoor
namespace Rp
open Go.ChangeShapes Go.WideShapes Go.ChangeAt Go.RowKit
set_option linter.unusedSimpArgs false
set_option linter.unusedVariables false

theorem add_plain (b o i : Nat) : Addr.add ⟨b, o, none⟩ i = ⟨b, o + i, none⟩ := by simp [Addr.add]

/-- Numbers that an int holds. -/
abbrev WfI (x : Int) : Prop := (Lit.int .i64 x).wf = true

/-- All numbers of a reply are such. -/
structure Wf (p : Rr) : Prop where
  rq : WfI p.rq
  sa : WfI p.sa
  od : WfI p.od
  am : WfI p.am

/-- All replies of a list are so. -/
def Wfs (ps : List Rr) : Prop := ∀ p ∈ ps, Wf p

end Rp
end Go.Proofs.YtaplbjoghkipdaaDoor

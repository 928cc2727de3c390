/- Controls that came in: how many there are, and what they hold. -/
import Derived.Test.YtbmfhdlbbaabgaaHnCtl
import Derived.Deep.Slices
namespace Go.Proofs.Ytbmfhdlbbaabgaa
namespace Hn
open Go.ChangeShapes Go.WideShapes Go.ChangeAt Go.RowKit
set_option linter.unusedSimpArgs false
set_option linter.unusedVariables false

theorem add_plain (b o i : Nat) : Addr.add ⟨b, o, none⟩ i = ⟨b, o + i, none⟩ := by simp [Addr.add]

/-- Numbers that an int controls. -/
abbrev WfI (x : Int) : Prop := (Lit.int .i64 x).wf = true

/-- All numbers of a control are such. -/
structure Wf (p : Ct) : Prop where
  dv : WfI p.dv
  no : WfI p.no
  tk : WfI p.tk
  tr : WfI p.tr
  dy : WfI p.dy
  sa : WfI p.sa

/-- All controls of a list are so. -/
def Wfs (ps : List Ct) : Prop := ∀ p ∈ ps, Wf p

end Hn
end Go.Proofs.Ytbmfhdlbbaabgaa

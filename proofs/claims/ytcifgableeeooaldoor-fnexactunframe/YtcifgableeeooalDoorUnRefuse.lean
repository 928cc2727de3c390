/- The contracts of the program's refuseIf: it answers, or it panics with its fault. -/
import Derived.Test.YtcifgableeeooalDoorPkRow
namespace Go.Proofs.YtcifgableeeooalDoor
namespace Pk
open Go.ChangeShapes Go.WideShapes Go.ChangeAt Go.RowKit
set_option linter.unusedSimpArgs false
set_option linter.unusedVariables false

/-- The panic with the fault k. -/
abbrev fault (k : Int) : Ending := .panicked [{ v := .iface 58 (.int .i64 k), recovered := false }]

theorem refuse_no (k : Int) (w : World) :
    Calls Tryd.prog 34 #[.bool false, .int .i64 k] w fun e w' => e = .returned (.tuple #[]) ∧ w' = w := by
  go_enter Tryd.func34, Tryd.ntmps34
  go_wp2
  exact ⟨rfl, _, results_none rfl _ _ _, rfl, rfl⟩

theorem refuse_yes (k : Int) (w : World) :
    Calls Tryd.prog 34 #[.bool true, .int .i64 k] w fun e w' => e = fault k ∧ w' = w := by
  go_enter Tryd.func34, Tryd.ntmps34
  go_wp2
  exact ⟨rfl, rfl, rfl⟩

end Pk
end Go.Proofs.YtcifgableeeooalDoor

/- Contracts of the draws of chapter 1: each returns, with numbers of its range, and writes nothing that was there. -/
import Derived.Test.YtaplbjoghkipdaaDoorCur
namespace Go.Proofs.YtaplbjoghkipdaaDoor
namespace Cur
open Go.ChangeShapes Go.WideShapes Go.ChangeAt Go.RowKit

/-- A number of the kind int. -/
def I64 (x : Int) : Prop := -9223372036854775808 ≤ x ∧ x ≤ 9223372036854775807

theorem big_no (a : Option Addr) (n cap : Nat) (w : World) (h : n ≤ 1048576) :
    Calls Tryd.prog 4 #[.slice a n cap] w fun e w' => e = .returned (.bool false) ∧ w' = w := by
  have hd : decide ((1048576 : Int) < n) = false := by simp; omega
  go_enter Tryd.func4, Tryd.ntmps4
  go_wp2
  go_ret
  exact ⟨by simp, rfl⟩

theorem big_yes (a : Option Addr) (n cap : Nat) (w : World) (h : ¬ n ≤ 1048576) :
    Calls Tryd.prog 4 #[.slice a n cap] w fun e w' => e = .returned (.bool true) ∧ w' = w := by
  have hd : decide ((1048576 : Int) < n) = true := by simp; omega
  go_enter Tryd.func4, Tryd.ntmps4
  go_wp2
  go_ret
  exact ⟨by simp, rfl⟩

end Cur
end Go.Proofs.YtaplbjoghkipdaaDoor

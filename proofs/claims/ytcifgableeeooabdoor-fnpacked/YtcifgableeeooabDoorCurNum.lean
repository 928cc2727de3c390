/- Contracts of the draws of chapter 1: each returns, with numbers of its range, and writes nothing that was there. -/
import Derived.Test.YtcifgableeeooabDoorCur
namespace Go.Proofs.YtcifgableeeooabDoor
namespace Cur
open Go.ChangeShapes Go.WideShapes Go.ChangeAt Go.RowKit

/-- A number of the kind int. -/
def I64 (x : Int) : Prop := -9223372036854775808 ≤ x ∧ x ≤ 9223372036854775807

theorem big_no (a : Option Addr) (n cap : Nat) (w : World) (h : n ≤ 1048576) :
    Calls Tryd.prog 8 #[.slice a n cap] w fun e w' => e = .returned (.bool false) ∧ w' = w := by
  have hd : decide ((1048576 : Int) < n) = false := by simp; omega
  go_enter Tryd.func8, Tryd.ntmps8
  go_wp2
  go_ret
  exact ⟨by simp, rfl⟩

theorem big_yes (a : Option Addr) (n cap : Nat) (w : World) (h : ¬ n ≤ 1048576) :
    Calls Tryd.prog 8 #[.slice a n cap] w fun e w' => e = .returned (.bool true) ∧ w' = w := by
  have hd : decide ((1048576 : Int) < n) = true := by simp; omega
  go_enter Tryd.func8, Tryd.ntmps8
  go_wp2
  go_ret
  exact ⟨by simp, rfl⟩

theorem at_any (a : Option Addr) (n cap i : Nat) (w : World) (hn : n ≤ 1048576) (hi : i ≤ 1000) (B : Bytes w a n) :
    Calls Tryd.prog 21 #[.slice a n cap, .int .i64 i] w fun e w' => (∃ x : Int, e = .returned (.int .i64 x) ∧ 0 ≤ x ∧ x ≤ 255) ∧ w' = w := by
  by_cases h : i < n
  · obtain ⟨b, o, rfl, hb, hv⟩ : ∃ b o, a = some ⟨b, o, none⟩ ∧ b < w.heap.size ∧ ∀ i, i < n → ∃ v : Int, w.cell? ⟨b, o + i, none⟩ = some (.int .u8 v) ∧ 0 ≤ v ∧ v ≤ 255 := by
      rcases B with h | h
      · omega
      · exact h
    obtain ⟨v, hv0, hv1, hv2⟩ := hv i h
    clear hv B
    go_enter Tryd.func21, Tryd.ntmps21
    go_wp2
    go_ret
    exact ⟨⟨_, rfl, hv1, hv2⟩, rfl⟩
  · go_enter Tryd.func21, Tryd.ntmps21
    go_wp2
    go_ret
    exact ⟨⟨_, rfl, by omega, by omega⟩, rfl⟩

end Cur
end Go.Proofs.YtcifgableeeooabDoor

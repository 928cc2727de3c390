/- Contracts of the program's functions of chapter 2: secrets and open keys. -/
import Derived.Test.YtcifgableeeooalGreatDoorSignImpl
import Derived.Test.YtcifgableeeooalGreatDoorSignSpec2
import Derived.Test.YtcifgableeeooalGreatDoorErrs
namespace Go.Proofs.YtcifgableeeooalGreatDoor
namespace Num
open Go.ChangeShapes Go.WideShapes Go.ChangeAt Go.RowKit
set_option linter.unusedSimpArgs false
set_option linter.unusedVariables false

theorem implParamsOk_is (p q g : Int) (b : Bool) (h : okP p q g = b) (w : World) :
    Calls Tryz.prog 106 #[pv p q g] w fun e w' => e = .returned (.bool b) ∧ Below w.heap.size w w' := by
  subst h
  exact implParamsOk_val p q g w

theorem err_cell {g : Nat} {w : World} (E : Errs.ErrAt g w) : ∃ a : Addr, w.cell? ⟨g, 0, none⟩ = some (.iface 216 (.pointer (some a))) := E

theorem checkSecret_yes (p q g x : Int) (w : World) (hk : keyB p q g x = true) :
    Calls Tryz.prog 86 #[pv p q g, .int .i64 x] w fun e w' => e = .returned .nilIface ∧ Below w.heap.size w w' := by
  obtain ⟨h1, hx⟩ := keyB_facts hk
  have H1 : Hid (okP p q g = true) := h1
  have hd : decide (1 ≤ x ∧ x < q) = true := decide_eq_true (by omega)
  clear h1 hk
  go_enter Tryz.func86, Tryz.ntmps86
  go_wp2_with fail
  refine (implParamsOk_is p q g true H1.out _).mono ?_
  rintro e w1 ⟨rfl, L1⟩
  obtain ⟨c0, c1, c2⟩ := cells3 L1
  go_wp2_with fail
  refine (belowQ_val p q g x _ true hd).mono ?_
  rintro e w2 ⟨rfl, L2⟩
  go_wp2
  go_ret
  exact ⟨rfl, join_below (join_below (new_below w _) L1) L2⟩

theorem checkSecret_no (p q g x : Int) (w : World) (hk : keyB p q g x = false) (E1 : Errs.ErrAt 2 w) (E2 : Errs.ErrAt 5 w) :
    Calls Tryz.prog 86 #[pv p q g, .int .i64 x] w fun e w' => (∃ a, e = .returned (.iface 216 (.pointer (some a)))) ∧ Below w.heap.size w w' := by
  cases h1 : okP p q g
  · have H1 : Hid (okP p q g = false) := h1
    clear h1 hk
    go_enter Tryz.func86, Tryz.ntmps86
    go_wp2_with fail
    refine (implParamsOk_is p q g false H1.out _).mono ?_
    rintro e w1 ⟨rfl, L1⟩
    have L2 := join_below (new_below w _) L1
    obtain ⟨a, ha⟩ := err_cell (E1.on L2)
    go_wp2
    go_ret
    exact ⟨⟨a, rfl⟩, L2⟩
  · have hx : decide (1 ≤ x ∧ x < q) = false := by
      apply decide_eq_false
      intro hh
      rw [keyB, h1, decide_eq_true (show 1 ≤ x ∧ x ≤ q - 1 by omega)] at hk
      cases hk
    have H1 : Hid (okP p q g = true) := h1
    clear h1 hk
    go_enter Tryz.func86, Tryz.ntmps86
    go_wp2_with fail
    refine (implParamsOk_is p q g true H1.out _).mono ?_
    rintro e w1 ⟨rfl, L1⟩
    obtain ⟨c0, c1, c2⟩ := cells3 L1
    go_wp2_with fail
    refine (belowQ_val p q g x _ false hx).mono ?_
    rintro e w2 ⟨rfl, L2⟩
    have L3 := join_below (join_below (new_below w _) L1) L2
    obtain ⟨a, ha⟩ := err_cell (E2.on L3)
    go_wp2
    go_ret
    exact ⟨⟨a, rfl⟩, L3⟩

end Num
end Go.Proofs.YtcifgableeeooalGreatDoor

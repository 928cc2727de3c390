/- Contracts of the draws of chapter 3's numbers. -/
import Derived.Test.YtaocindfopipnabDoorCurNum
namespace Go.Proofs.YtaocindfopipnabDoor
namespace Cur
open Go.ChangeShapes Go.WideShapes Go.ChangeAt Go.RowKit

theorem drawLenCode (W0 : World) (a : Option Addr) (n cap : Nat) (hn : n ≤ 1048576) (B : Bytes W0 a n) :
    Calls Tryd.prog 21 #[.slice a n cap] W0 fun e w' => (∃ x : Int, e = .returned (.int .i64 x) ∧ 0 ≤ x ∧ x < 262) ∧ Below W0.heap.size W0 w' := by
  go_enter Tryd.func21, Tryd.ntmps21
  go_wp2_with fail
  refine (new_any W0 a n cap hn B).mono ?_
  rintro e w1 ⟨rfl, C1⟩
  go_wp2_with fail
  refine (below_any C1 _).mono ?_
  rintro e w2 ⟨⟨x, rfl, hx0, hx1⟩, C2, M2⟩
  have hx2 := hx1 (by omega)
  clear hx1
  go_wp2
  go_ret
  exact ⟨⟨x, rfl, hx0, by omega⟩, C2.below⟩

theorem drawFixedCode (W0 : World) (a : Option Addr) (n cap : Nat) (hn : n ≤ 1048576) (B : Bytes W0 a n) :
    Calls Tryd.prog 27 #[.slice a n cap] W0 fun e w' => (∃ x : Int, e = .returned (.int .i64 x)) ∧ Below W0.heap.size W0 w' := by
  go_enter Tryd.func27, Tryd.ntmps27
  go_wp2_with fail
  refine (new_any W0 a n cap hn B).mono ?_
  rintro e w1 ⟨rfl, C1⟩
  go_wp2_with fail
  refine (below_any C1 _).mono ?_
  rintro e w2 ⟨⟨x, rfl, hx0, hx1⟩, C2, M2⟩
  have hx2 := hx1 (by omega)
  clear hx1
  go_wp2
  go_ret
  exact ⟨⟨_, rfl⟩, C2.below⟩

theorem drawBackCode (W0 : World) (a : Option Addr) (n cap : Nat) (hn : n ≤ 1048576) (B : Bytes W0 a n) :
    Calls Tryd.prog 24 #[.slice a n cap] W0 fun e w' => (∃ x : Int, e = .returned (.int .i64 x)) ∧ Below W0.heap.size W0 w' := by
  go_enter Tryd.func24, Tryd.ntmps24
  go_wp2_with fail
  refine (new_any W0 a n cap hn B).mono ?_
  rintro e w1 ⟨rfl, C1⟩
  go_wp2_with fail
  refine (once_any C1 _).mono ?_
  rintro e w2 ⟨⟨o, rfl⟩, C2, M2⟩
  cases o
  · go_wp2_with fail
    refine (below_any C2 _).mono ?_
    rintro e w3 ⟨⟨x, rfl, hx0, hx1⟩, C3, M3⟩
    have hx2 := hx1 (by omega)
    clear hx1
    go_wp2
    go_ret
    exact ⟨⟨_, rfl⟩, C3.below⟩
  · have hlt := C2.lt
    have RW := rowOf_new (fun _ => True) w2 [0, 1, 4, 5, 32768, 32769, -1, 24577] 3 (fun _ _ => trivial)
    have C3 := C2.alloc (.cells (([0, 1, 4, 5, 32768, 32769, -1, 24577] : List Int).map (Value.int .i64)).toArray 3)
    go_wp2_with fail
    refine (pickInt_any C3 (fun _ => True) w2.heap.size 8 8 (by omega) (by omega) (by omega) RW).mono ?_
    rintro e w4 ⟨⟨x, rfl, -⟩, C4, -⟩
    go_wp2
    go_ret
    exact ⟨⟨_, rfl⟩, C4.below⟩

end Cur
end Go.Proofs.YtaocindfopipnabDoor

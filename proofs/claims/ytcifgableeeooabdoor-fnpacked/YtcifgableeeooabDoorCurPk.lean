/- The draws of texts to be packed and to be unpacked: some text. -/
import Derived.Test.YtcifgableeeooabDoorCurPlain
import Derived.Test.YtcifgableeeooabDoorCurKb
import Derived.Test.YtcifgableeeooabDoorPkPackS
import Derived.Test.YtcifgableeeooabDoorMathUnk
namespace Go.Proofs.YtcifgableeeooabDoor
namespace Cur
open Go.ChangeShapes Go.WideShapes Go.ChangeAt Go.RowKit
set_option linter.unusedSimpArgs false
set_option linter.unusedVariables false

theorem drawPack (W0 : World) (a : Option Addr) (n cap : Nat) (hn : n ≤ 1048576) (B : Bytes W0 a n) :
    Calls Tryd.prog 14 #[.slice a n cap] W0 fun e w' => (∃ s : ByteArray, e = .returned (.string s) ∧ s.size ≤ 3001) ∧ Below W0.heap.size W0 w' := by
  go_enter Tryd.func14, Tryd.ntmps14
  go_wp2_with fail
  refine (new_any W0 a n cap hn B).mono ?_
  rintro e w1 ⟨rfl, C1⟩
  go_wp2_with fail
  refine (size_any C1).mono ?_
  rintro e w2 ⟨⟨k, rfl, hk⟩, C2, -⟩
  go_wp2_with fail
  refine (plain_any C2 k (by omega)).mono ?_
  rintro e w3 ⟨⟨s, rfl, hs⟩, C3⟩
  have HS : Hid (s.size = k) := hs
  clear hs
  go_wp2
  go_ret
  exact ⟨⟨s, rfl, by rw [HS.out]; exact hk⟩, C3.below⟩

end Cur
end Go.Proofs.YtcifgableeeooabDoor

/- Draws for the laws of seats: a list of holds and an order. -/
import Derived.Test.YtikdganlpedbeadCurSe1
import Derived.Test.YtikdganlpedbeadCurSe2
namespace Go.Proofs.Ytikdganlpedbead
namespace Se
open Go.ChangeShapes Go.WideShapes Go.ChangeAt Go.RowKit
open Tn (Hd St trV trB Stops scells own_kb own_other)
open Pk (new_below join_below cell_at heap_new frozen_at lt_of kept heap_old info_of own_form own_below Room)
open Cur (Is Moved Bytes Kb new_any once_any below_any pickInt_any rowOf_new)
set_option linter.unusedSimpArgs false
set_option linter.unusedVariables false

set_option maxRecDepth 100000 in
set_option maxHeartbeats 2000000 in
theorem drawRelease (W0 : World) (a : Option Addr) (n cap : Nat) (hn : n ≤ 1048576) (B : Bytes W0 a n) :
    Calls Try.prog 58 #[.slice a n cap] W0 fun e w' => (∃ (l : List Hl) (g vc : Nat) (x : Int), e = .returned (.tuple #[.slice (some ⟨g, 0, none⟩) l.length vc, .int .i64 x]) ∧ Holds w' (some ⟨g, 0, none⟩) l ∧ Wfs l ∧ l.length ≤ 401) ∧ Below W0.heap.size W0 w' := by
  have HN := new_any W0 a n cap hn B
  go_enter Try.func58, Try.ntmps58
  go_wp2_with fail
  refine HN.mono ?_
  rintro e w1 ⟨rfl, C1⟩
  go_wp2_with fail
  refine (train8_any C1).mono ?_
  rintro e w2 ⟨⟨t, ls, ta, tc, rfl, hid, ⟨h1, h2, h3, h4⟩, O2, hl1, hl2⟩, C2, K2⟩
  go_wp2_with fail
  refine (holds8_any C2 t ta ls tc hid ⟨h1, h2⟩ ⟨h3, h4⟩ hl1 hl2).mono ?_
  rintro e w3 ⟨⟨l, g, vc, rfl, O3, hw, hl⟩, C3, K3⟩
  have hcw := C2.lt
  obtain ⟨aa, cc, hv, I3⟩ := own_holds O3
  simp only [Value.slice.injEq] at hv
  obtain ⟨rfl, -, rfl⟩ := hv
  have hb : W0.heap.size ≤ w2.heap.size := C2.below.size
  have hgc : (.slice (some ⟨g, 0, none⟩) l.length vc : Value).ownBlock ≠ some W0.heap.size := fun h => by have := (O3.lt _ h).1; omega
  clear C1 C2 K2 K3 O2
  go_wp2_with fail
  refine (below_any C3 6).mono ?_
  rintro e w4 ⟨⟨x, rfl, hx0, hx1⟩, C4, M4⟩
  have O4 := own_kb O3 (Kb.moved M4) hgc
  obtain ⟨aa, cc, hv, I4⟩ := own_holds O4
  simp only [Value.slice.injEq] at hv
  obtain ⟨rfl, -, rfl⟩ := hv
  clear O3 O4 I3 C3
  go_wp2
  refine bodyPost_ret (results_tmp2 rfl _ _ _) rfl ?_
  exact ⟨⟨l, g, vc, x, rfl, I4, hw, hl⟩, C4.below⟩

end Se
end Go.Proofs.Ytikdganlpedbead

/- Draws for the laws of seats: DrawFreeSeat. -/
import Derived.Test.YtiollklighmojadCurSe6
namespace Go.Proofs.Ytiollklighmojad
namespace Se
open Go.ChangeShapes Go.WideShapes Go.ChangeAt Go.RowKit
open Tn (Hd St trV trB Stops scells own_kb own_other)
open Pk (new_below join_below cell_at heap_new frozen_at lt_of kept heap_old info_of own_form own_below Room)
open Cur (Is Moved Bytes Kb new_any once_any below_any pickInt_any rowOf_new)
set_option linter.unusedSimpArgs false
set_option linter.unusedVariables false

set_option maxRecDepth 100000 in
set_option maxHeartbeats 2000000 in
theorem drawFreeSeat (W0 : World) (a : Option Addr) (n cap : Nat) (hn : n ≤ 1048576) (B : Bytes W0 a n) :
    Calls Try.prog 45 #[.slice a n cap] W0 fun e w' => (∃ (l : List Hl) (g vc : Nat) (t : Hd) (ls : List St) (ta : Option Addr) (tc : Nat) (day x y : Int), e = .returned (.tuple #[.slice (some ⟨g, 0, none⟩) l.length vc, trV t ta ls.length tc, .int .i64 day, .int .i64 x, .int .i64 y]) ∧ Holds w' (some ⟨g, 0, none⟩) l ∧ W7s l ∧ l.length ≤ 401 ∧ Stops w' ta ls ∧ ls.length ≤ 5) ∧ Below W0.heap.size W0 w' := by
  have N0 := new_below W0 (trB ⟨0, 0, 0, 0⟩ none 0 0 26)
  have m0 := heap_new W0 (trB ⟨0, 0, 0, 0⟩ none 0 0 26)
  have HN := new_any (W0.alloc (trB ⟨0, 0, 0, 0⟩ none 0 0 26)) a n cap hn (B.on N0)
  have hz0 : W0.heap.size < (W0.alloc (trB ⟨0, 0, 0, 0⟩ none 0 0 26)).heap.size := lt_of m0
  go_enter Try.func45, Try.ntmps45
  go_wp2_with fail
  refine HN.mono ?_
  generalize W0.alloc (trB ⟨0, 0, 0, 0⟩ none 0 0 26) = WA at *
  rintro e w1 ⟨rfl, C1⟩
  go_wp2_with fail
  refine (ask8_any C1).mono ?_
  rintro e w2 ⟨⟨l, g, vc, t, ls, ta, tc, day, x, y, rfl, H2, hw, hl, O2, hl2⟩, L2⟩
  have m2 := kept L2 (lt_of m0) m0
  have hz1 : W0.heap.size < w1.heap.size := by have := C1.lt; omega
  have hnO : (.slice ta ls.length tc : Value).ownBlock ≠ some W0.heap.size := fun h => by have := (O2.lt _ h).1; omega
  have hnH : (.slice (some ⟨g, 0, none⟩) l.length vc : Value).ownBlock ≠ some W0.heap.size := fun h => by have := (H2.lt _ h).1; omega
  have HH9 := put5_own (t := t) (ta := ta) (k := ls.length) (tc := tc) H2 hnH
  have HO9 := put5_own (t := t) (ta := ta) (k := ls.length) (tc := tc) O2 hnO
  have HB9 := put5_below (t := t) (ta := ta) (k := ls.length) (tc := tc) (join_below N0 L2) (Nat.le_refl _)
  obtain ⟨ag, cg, hvg, I9⟩ := own_holds HH9
  simp only [Value.slice.injEq] at hvg
  obtain ⟨rfl, -, rfl⟩ := hvg
  have HI9 : Hid (_) := I9
  have HJ9 : Hid (_) := Tn.stops_own HO9
  have z0 : w2.cell? ⟨W0.heap.size, 0, none⟩ = some (.int .i64 0) := cell_at m2 0
  have y0 : w2.frozen? ⟨W0.heap.size, 0, none⟩ = false := frozen_at m2 0
  have z1 : w2.cell? ⟨W0.heap.size, 1, none⟩ = some (.int .i64 0) := cell_at m2 1
  have y1 : w2.frozen? ⟨W0.heap.size, 1, none⟩ = false := frozen_at m2 1
  have z2 : w2.cell? ⟨W0.heap.size, 2, none⟩ = some (.int .i64 0) := cell_at m2 2
  have y2 : w2.frozen? ⟨W0.heap.size, 2, none⟩ = false := frozen_at m2 2
  have z3 : w2.cell? ⟨W0.heap.size, 3, none⟩ = some (.int .i64 0) := cell_at m2 3
  have y3 : w2.frozen? ⟨W0.heap.size, 3, none⟩ = false := frozen_at m2 3
  have z4 : w2.cell? ⟨W0.heap.size, 4, none⟩ = some (.slice none 0 0) := cell_at m2 4
  have y4 : w2.frozen? ⟨W0.heap.size, 4, none⟩ = false := frozen_at m2 4
  clear m2 m0 N0 HN L2 O2 H2 HH9 HO9 I9 hnO hnH hz1 C1 hz0
  go_wp2
  refine bodyPost_ret (v := .tuple #[.slice (some ⟨g, 0, none⟩) l.length vc, .agg #[.int .i64 t.id, .int .i64 t.dy, .int .i64 t.co, .int .i64 t.se, .slice ta ls.length tc], .int .i64 day, .int .i64 x, .int .i64 y]) (by simp [results, Try.results45, go_sem, z0, z1, z2, z3, z4]) rfl ?_
  exact ⟨⟨l, g, vc, t, ls, ta, tc, day, x, y, rfl, HI9.out, hw, hl, HJ9.out, hl2⟩, HB9⟩

end Se
end Go.Proofs.Ytiollklighmojad

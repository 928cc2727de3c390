/- The walks of the laws' own helpers over offices and platforms, over whatever their parts' contracts are. -/
import Derived.Test.YtehmlnojjfeheaaGreatPfMarkP
namespace Go.Proofs.YtehmlnojjfeheaaGreat
namespace Of
open Go.ChangeShapes Go.WideShapes Go.ChangeAt Go.RowKit Go.Joins
open Pk (new_below join_below cell_at heap_new frozen_at lt_of kept heap_old info_of Room)
open Tn (Band)
open Od (Oo)
set_option linter.unusedSimpArgs false
set_option linter.unusedVariables false

set_option maxRecDepth 100000 in
set_option maxHeartbeats 2000000 in
theorem markOffice_gen (x : Pl) (n0 n1 n2 n3 n4 : Nat) (td z0 : Int) (lo hi : Nat) (w : World) (hhi : hi ≤ w.heap.size) (P1 P2 P3 P4 P5 : Int → World → Prop)
    (h0 : ∀ W, Below w.heap.size w W → Calls Tryz.prog 32 #[.slice x.a0 n0 x.c0, .int .i64 z0] W fun e w' => ∃ z, e = .returned (.int .i64 z) ∧ Fb lo hi W w' ∧ P1 z w')
    (h1 : ∀ z W, P1 z W → Calls Tryz.prog 33 #[.slice x.a1 n1 x.c1, .int .i64 z] W fun e w' => ∃ z', e = .returned (.int .i64 z') ∧ Fb lo hi W w' ∧ P2 z' w')
    (h2 : ∀ z W, P2 z W → Calls Tryz.prog 34 #[.slice x.a2 n2 x.c2, .int .i64 z] W fun e w' => ∃ z', e = .returned (.int .i64 z') ∧ Fb lo hi W w' ∧ P3 z' w')
    (h3 : ∀ z W, P3 z W → Calls Tryz.prog 35 #[.slice x.a3 n3 x.c3, .int .i64 z] W fun e w' => ∃ z', e = .returned (.int .i64 z') ∧ Fb lo hi W w' ∧ P4 z' w')
    (h4 : ∀ z W, P4 z W → Calls Tryz.prog 36 #[.slice x.a4 n4 x.c4, .int .i64 z] W fun e w' => ∃ z', e = .returned (.int .i64 z') ∧ Fb lo hi W w' ∧ P5 z' w')
    : Calls Tryz.prog 10 #[.agg #[.slice x.a0 n0 x.c0, .slice x.a1 n1 x.c1, .slice x.a2 n2 x.c2, .slice x.a3 n3 x.c3, .slice x.a4 n4 x.c4, .int .i64 td], .int .i64 z0] w fun e w' => ∃ z, e = .returned (.int .i64 z) ∧ Fb lo hi w w' ∧ P5 z w' := by
  have N := new_below w (.cells #[.slice x.a0 n0 x.c0, .slice x.a1 n1 x.c1, .slice x.a2 n2 x.c2, .slice x.a3 n3 x.c3, .slice x.a4 n4 x.c4, .int .i64 td] 36)
  have m := heap_new w (.cells #[.slice x.a0 n0 x.c0, .slice x.a1 n1 x.c1, .slice x.a2 n2 x.c2, .slice x.a3 n3 x.c3, .slice x.a4 n4 x.c4, .int .i64 td] 36)
  have H0 : Hid (∀ W, Below w.heap.size w W → _) := h0
  have H1 : Hid (∀ z W, P1 z W → _) := h1
  have H2 : Hid (∀ z W, P2 z W → _) := h2
  have H3 : Hid (∀ z W, P3 z W → _) := h3
  have H4 : Hid (∀ z W, P4 z W → _) := h4
  clear h0 h1 h2 h3 h4
  go_enter Tryz.func10, Tryz.ntmps10
  go_wp2_with fail
  refine (H0.out _ N).mono ?_
  have F := Fb.of (lo := lo) (hi := hi) N
  clear N
  generalize w.alloc (.cells #[.slice x.a0 n0 x.c0, .slice x.a1 n1 x.c1, .slice x.a2 n2 x.c2, .slice x.a3 n3 x.c3, .slice x.a4 n4 x.c4, .int .i64 td] 36) = W0 at *
  rintro e w1 ⟨z', rfl, F1, q1⟩
  have m := F1.kept m (Or.inr hhi)
  have F := F.trans F1
  clear F1
  have k : w1.cell? ⟨w.heap.size, 1, none⟩ = some (.slice x.a1 n1 x.c1) := cell_at m 1
  go_wp2_with fail
  refine (H1.out _ _ q1).mono ?_
  clear k
  rintro e w2 ⟨z2, rfl, F2, q2⟩
  have m := F2.kept m (Or.inr hhi)
  have F := F.trans F2
  clear F2
  have k : w2.cell? ⟨w.heap.size, 2, none⟩ = some (.slice x.a2 n2 x.c2) := cell_at m 2
  go_wp2_with fail
  refine (H2.out _ _ q2).mono ?_
  clear k
  rintro e w3 ⟨z3, rfl, F3, q3⟩
  have m := F3.kept m (Or.inr hhi)
  have F := F.trans F3
  clear F3
  have k : w3.cell? ⟨w.heap.size, 3, none⟩ = some (.slice x.a3 n3 x.c3) := cell_at m 3
  go_wp2_with fail
  refine (H3.out _ _ q3).mono ?_
  clear k
  rintro e w4 ⟨z4, rfl, F4, q4⟩
  have m := F4.kept m (Or.inr hhi)
  have F := F.trans F4
  clear F4
  have k : w4.cell? ⟨w.heap.size, 4, none⟩ = some (.slice x.a4 n4 x.c4) := cell_at m 4
  go_wp2_with fail
  refine (H4.out _ _ q4).mono ?_
  clear k
  rintro e w5 ⟨z5, rfl, F5, q5⟩
  have m := F5.kept m (Or.inr hhi)
  have F := F.trans F5
  clear F5
  go_wp2
  go_ret
  exact ⟨_, rfl, F, q5⟩

set_option maxRecDepth 100000 in
set_option maxHeartbeats 2000000 in
theorem heldOffice_gen (x : Pl) (n0 n1 n2 n3 n4 : Nat) (td z0 z1 z2 z3 z4 z5 : Int) (w : World) (p1 : 0 ≤ z1) (p2 : 0 ≤ z2) (p3 : 0 ≤ z3) (p4 : 0 ≤ z4) (p5 : 0 ≤ z5)
    (h0 : ∀ W, Below w.heap.size w W → Calls Tryz.prog 66 #[.slice x.a0 n0 x.c0, .int .i64 z0] W fun e w' => e = .returned (.int .i64 z1) ∧ Below W.heap.size W w')
    (h1 : ∀ W, Below w.heap.size w W → Calls Tryz.prog 67 #[.slice x.a1 n1 x.c1, .int .i64 z1] W fun e w' => e = .returned (.int .i64 z2) ∧ Below W.heap.size W w')
    (h2 : ∀ W, Below w.heap.size w W → Calls Tryz.prog 68 #[.slice x.a2 n2 x.c2, .int .i64 z2] W fun e w' => e = .returned (.int .i64 z3) ∧ Below W.heap.size W w')
    (h3 : ∀ W, Below w.heap.size w W → Calls Tryz.prog 69 #[.slice x.a3 n3 x.c3, .int .i64 z3] W fun e w' => e = .returned (.int .i64 z4) ∧ Below W.heap.size W w')
    (h4 : ∀ W, Below w.heap.size w W → Calls Tryz.prog 70 #[.slice x.a4 n4 x.c4, .int .i64 z4] W fun e w' => e = .returned (.int .i64 z5) ∧ Below W.heap.size W w')
    : Calls Tryz.prog 37 #[.agg #[.slice x.a0 n0 x.c0, .slice x.a1 n1 x.c1, .slice x.a2 n2 x.c2, .slice x.a3 n3 x.c3, .slice x.a4 n4 x.c4, .int .i64 td], .int .i64 z0] w fun e w' => e = .returned (.int .i64 z5) ∧ Below w.heap.size w w' := by
  have N := new_below w (.cells #[.slice x.a0 n0 x.c0, .slice x.a1 n1 x.c1, .slice x.a2 n2 x.c2, .slice x.a3 n3 x.c3, .slice x.a4 n4 x.c4, .int .i64 td] 36)
  have m := heap_new w (.cells #[.slice x.a0 n0 x.c0, .slice x.a1 n1 x.c1, .slice x.a2 n2 x.c2, .slice x.a3 n3 x.c3, .slice x.a4 n4 x.c4, .int .i64 td] 36)
  have H0 : Hid (∀ W, Below w.heap.size w W → _) := h0
  have H1 : Hid (∀ W, Below w.heap.size w W → _) := h1
  have H2 : Hid (∀ W, Below w.heap.size w W → _) := h2
  have H3 : Hid (∀ W, Below w.heap.size w W → _) := h3
  have H4 : Hid (∀ W, Below w.heap.size w W → _) := h4
  have d1 : decide (z1 < 0) = false := decide_eq_false (by omega)
  have d2 : decide (z2 < 0) = false := decide_eq_false (by omega)
  have d3 : decide (z3 < 0) = false := decide_eq_false (by omega)
  have d4 : decide (z4 < 0) = false := decide_eq_false (by omega)
  have d5 : decide (z5 < 0) = false := decide_eq_false (by omega)
  clear h0 h1 h2 h3 h4 p1 p2 p3 p4 p5
  go_enter Tryz.func37, Tryz.ntmps37
  go_wp2_with fail
  refine (H0.out _ N).mono ?_
  generalize w.alloc (.cells #[.slice x.a0 n0 x.c0, .slice x.a1 n1 x.c1, .slice x.a2 n2 x.c2, .slice x.a3 n3 x.c3, .slice x.a4 n4 x.c4, .int .i64 td] 36) = W0 at *
  rintro e w1 ⟨rfl, L1⟩
  have m := kept L1 (lt_of m) m
  have N := join_below N L1
  clear L1
  have k : w1.cell? ⟨w.heap.size, 1, none⟩ = some (.slice x.a1 n1 x.c1) := cell_at m 1
  go_wp2_with fail
  refine (H1.out _ N).mono ?_
  clear k
  rintro e w2 ⟨rfl, L2⟩
  have m := kept L2 (lt_of m) m
  have N := join_below N L2
  clear L2
  have k : w2.cell? ⟨w.heap.size, 2, none⟩ = some (.slice x.a2 n2 x.c2) := cell_at m 2
  go_wp2_with fail
  refine (H2.out _ N).mono ?_
  clear k
  rintro e w3 ⟨rfl, L3⟩
  have m := kept L3 (lt_of m) m
  have N := join_below N L3
  clear L3
  have k : w3.cell? ⟨w.heap.size, 3, none⟩ = some (.slice x.a3 n3 x.c3) := cell_at m 3
  go_wp2_with fail
  refine (H3.out _ N).mono ?_
  clear k
  rintro e w4 ⟨rfl, L4⟩
  have m := kept L4 (lt_of m) m
  have N := join_below N L4
  clear L4
  have k : w4.cell? ⟨w.heap.size, 4, none⟩ = some (.slice x.a4 n4 x.c4) := cell_at m 4
  go_wp2_with fail
  refine (H4.out _ N).mono ?_
  clear k
  rintro e w5 ⟨rfl, L5⟩
  have m := kept L5 (lt_of m) m
  have N := join_below N L5
  clear L5
  go_wp2
  go_ret
  exact ⟨rfl, N⟩

set_option maxRecDepth 100000 in
set_option maxHeartbeats 2000000 in
theorem markPlat_gen (x y : Pl) (n0 n1 n2 n3 n4 : Nat) (td z0 : Int) (s : ByteArray) (sy : Int) (lo hi : Nat) (w : World) (hhi : hi ≤ w.heap.size) (P1 P2 : Int → World → Prop)
    (h0 : ∀ W, Below w.heap.size w W → Calls Tryz.prog 10 #[.agg #[.slice x.a0 n0 x.c0, .slice x.a1 n1 x.c1, .slice x.a2 n2 x.c2, .slice x.a3 n3 x.c3, .slice x.a4 n4 x.c4, .int .i64 td], .int .i64 z0] W fun e w' => ∃ z, e = .returned (.int .i64 z) ∧ Fb lo hi W w' ∧ P1 z w')
    (h1 : ∀ z W, P1 z W → Calls Tryz.prog 10 #[.agg #[.slice y.a0 n0 y.c0, .slice y.a1 n1 y.c1, .slice y.a2 n2 y.c2, .slice y.a3 n3 y.c3, .slice y.a4 n4 y.c4, .int .i64 td], .int .i64 z] W fun e w' => ∃ z', e = .returned (.int .i64 z') ∧ Fb lo hi W w' ∧ P2 z' w')
    : Calls Tryz.prog 11 #[.agg #[.slice x.a0 n0 x.c0, .slice x.a1 n1 x.c1, .slice x.a2 n2 x.c2, .slice x.a3 n3 x.c3, .slice x.a4 n4 x.c4, .int .i64 td, .slice y.a0 n0 y.c0, .slice y.a1 n1 y.c1, .slice y.a2 n2 y.c2, .slice y.a3 n3 y.c3, .slice y.a4 n4 y.c4, .int .i64 td, .string s, .int .i64 sy], .int .i64 z0] w fun e w' => ∃ z, e = .returned (.int .i64 z) ∧ Fb lo hi w w' ∧ P2 z w' := by
  have N := new_below w (.cells #[.slice x.a0 n0 x.c0, .slice x.a1 n1 x.c1, .slice x.a2 n2 x.c2, .slice x.a3 n3 x.c3, .slice x.a4 n4 x.c4, .int .i64 td, .slice y.a0 n0 y.c0, .slice y.a1 n1 y.c1, .slice y.a2 n2 y.c2, .slice y.a3 n3 y.c3, .slice y.a4 n4 y.c4, .int .i64 td, .string s, .int .i64 sy] 38)
  have m := heap_new w (.cells #[.slice x.a0 n0 x.c0, .slice x.a1 n1 x.c1, .slice x.a2 n2 x.c2, .slice x.a3 n3 x.c3, .slice x.a4 n4 x.c4, .int .i64 td, .slice y.a0 n0 y.c0, .slice y.a1 n1 y.c1, .slice y.a2 n2 y.c2, .slice y.a3 n3 y.c3, .slice y.a4 n4 y.c4, .int .i64 td, .string s, .int .i64 sy] 38)
  have H0 : Hid (∀ W, Below w.heap.size w W → _) := h0
  have H1 : Hid (∀ z W, P1 z W → _) := h1
  clear h0 h1
  go_enter Tryz.func11, Tryz.ntmps11
  have c0 : (w.alloc (.cells #[.slice x.a0 n0 x.c0, .slice x.a1 n1 x.c1, .slice x.a2 n2 x.c2, .slice x.a3 n3 x.c3, .slice x.a4 n4 x.c4, .int .i64 td, .slice y.a0 n0 y.c0, .slice y.a1 n1 y.c1, .slice y.a2 n2 y.c2, .slice y.a3 n3 y.c3, .slice y.a4 n4 y.c4, .int .i64 td, .string s, .int .i64 sy] 38)).cell? ⟨w.heap.size, 0, none⟩ = some (.slice x.a0 n0 x.c0) := cell_at m 0
  have c1 : (w.alloc (.cells #[.slice x.a0 n0 x.c0, .slice x.a1 n1 x.c1, .slice x.a2 n2 x.c2, .slice x.a3 n3 x.c3, .slice x.a4 n4 x.c4, .int .i64 td, .slice y.a0 n0 y.c0, .slice y.a1 n1 y.c1, .slice y.a2 n2 y.c2, .slice y.a3 n3 y.c3, .slice y.a4 n4 y.c4, .int .i64 td, .string s, .int .i64 sy] 38)).cell? ⟨w.heap.size, 1, none⟩ = some (.slice x.a1 n1 x.c1) := cell_at m 1
  have c2 : (w.alloc (.cells #[.slice x.a0 n0 x.c0, .slice x.a1 n1 x.c1, .slice x.a2 n2 x.c2, .slice x.a3 n3 x.c3, .slice x.a4 n4 x.c4, .int .i64 td, .slice y.a0 n0 y.c0, .slice y.a1 n1 y.c1, .slice y.a2 n2 y.c2, .slice y.a3 n3 y.c3, .slice y.a4 n4 y.c4, .int .i64 td, .string s, .int .i64 sy] 38)).cell? ⟨w.heap.size, 2, none⟩ = some (.slice x.a2 n2 x.c2) := cell_at m 2
  have c3 : (w.alloc (.cells #[.slice x.a0 n0 x.c0, .slice x.a1 n1 x.c1, .slice x.a2 n2 x.c2, .slice x.a3 n3 x.c3, .slice x.a4 n4 x.c4, .int .i64 td, .slice y.a0 n0 y.c0, .slice y.a1 n1 y.c1, .slice y.a2 n2 y.c2, .slice y.a3 n3 y.c3, .slice y.a4 n4 y.c4, .int .i64 td, .string s, .int .i64 sy] 38)).cell? ⟨w.heap.size, 3, none⟩ = some (.slice x.a3 n3 x.c3) := cell_at m 3
  have c4 : (w.alloc (.cells #[.slice x.a0 n0 x.c0, .slice x.a1 n1 x.c1, .slice x.a2 n2 x.c2, .slice x.a3 n3 x.c3, .slice x.a4 n4 x.c4, .int .i64 td, .slice y.a0 n0 y.c0, .slice y.a1 n1 y.c1, .slice y.a2 n2 y.c2, .slice y.a3 n3 y.c3, .slice y.a4 n4 y.c4, .int .i64 td, .string s, .int .i64 sy] 38)).cell? ⟨w.heap.size, 4, none⟩ = some (.slice x.a4 n4 x.c4) := cell_at m 4
  have c5 : (w.alloc (.cells #[.slice x.a0 n0 x.c0, .slice x.a1 n1 x.c1, .slice x.a2 n2 x.c2, .slice x.a3 n3 x.c3, .slice x.a4 n4 x.c4, .int .i64 td, .slice y.a0 n0 y.c0, .slice y.a1 n1 y.c1, .slice y.a2 n2 y.c2, .slice y.a3 n3 y.c3, .slice y.a4 n4 y.c4, .int .i64 td, .string s, .int .i64 sy] 38)).cell? ⟨w.heap.size, 5, none⟩ = some (.int .i64 td) := cell_at m 5
  go_wp2_with fail
  refine (H0.out _ N).mono ?_
  clear c0 c1 c2 c3 c4 c5
  have F := Fb.of (lo := lo) (hi := hi) N
  clear N
  generalize w.alloc (.cells #[.slice x.a0 n0 x.c0, .slice x.a1 n1 x.c1, .slice x.a2 n2 x.c2, .slice x.a3 n3 x.c3, .slice x.a4 n4 x.c4, .int .i64 td, .slice y.a0 n0 y.c0, .slice y.a1 n1 y.c1, .slice y.a2 n2 y.c2, .slice y.a3 n3 y.c3, .slice y.a4 n4 y.c4, .int .i64 td, .string s, .int .i64 sy] 38) = W0 at *
  rintro e w1 ⟨z1, rfl, F1, q1⟩
  have m := F1.kept m (Or.inr hhi)
  have F := F.trans F1
  clear F1
  have c6 : w1.cell? ⟨w.heap.size, 6, none⟩ = some (.slice y.a0 n0 y.c0) := cell_at m 6
  have c7 : w1.cell? ⟨w.heap.size, 7, none⟩ = some (.slice y.a1 n1 y.c1) := cell_at m 7
  have c8 : w1.cell? ⟨w.heap.size, 8, none⟩ = some (.slice y.a2 n2 y.c2) := cell_at m 8
  have c9 : w1.cell? ⟨w.heap.size, 9, none⟩ = some (.slice y.a3 n3 y.c3) := cell_at m 9
  have c10 : w1.cell? ⟨w.heap.size, 10, none⟩ = some (.slice y.a4 n4 y.c4) := cell_at m 10
  have c11 : w1.cell? ⟨w.heap.size, 11, none⟩ = some (.int .i64 td) := cell_at m 11
  go_wp2_with fail
  refine (H1.out _ _ q1).mono ?_
  rintro e w2 ⟨z2, rfl, F2, q2⟩
  have F := F.trans F2
  clear F2 c6 c7 c8 c9 c10 c11
  go_wp2
  go_ret
  exact ⟨_, rfl, F, q2⟩

set_option maxRecDepth 100000 in
set_option maxHeartbeats 2000000 in
theorem heldPlat_gen (x y : Pl) (n0 n1 n2 n3 n4 : Nat) (td z0 z1 z2 : Int) (s : ByteArray) (sy : Int) (w : World) (p1 : 0 ≤ z1) (p2 : 0 ≤ z2)
    (h0 : ∀ W, Below w.heap.size w W → Calls Tryz.prog 37 #[.agg #[.slice x.a0 n0 x.c0, .slice x.a1 n1 x.c1, .slice x.a2 n2 x.c2, .slice x.a3 n3 x.c3, .slice x.a4 n4 x.c4, .int .i64 td], .int .i64 z0] W fun e w' => e = .returned (.int .i64 z1) ∧ Below W.heap.size W w')
    (h1 : ∀ W, Below w.heap.size w W → Calls Tryz.prog 37 #[.agg #[.slice y.a0 n0 y.c0, .slice y.a1 n1 y.c1, .slice y.a2 n2 y.c2, .slice y.a3 n3 y.c3, .slice y.a4 n4 y.c4, .int .i64 td], .int .i64 z1] W fun e w' => e = .returned (.int .i64 z2) ∧ Below W.heap.size W w')
    : Calls Tryz.prog 12 #[.agg #[.slice x.a0 n0 x.c0, .slice x.a1 n1 x.c1, .slice x.a2 n2 x.c2, .slice x.a3 n3 x.c3, .slice x.a4 n4 x.c4, .int .i64 td, .slice y.a0 n0 y.c0, .slice y.a1 n1 y.c1, .slice y.a2 n2 y.c2, .slice y.a3 n3 y.c3, .slice y.a4 n4 y.c4, .int .i64 td, .string s, .int .i64 sy], .int .i64 z0] w fun e w' => e = .returned (.int .i64 z2) ∧ Below w.heap.size w w' := by
  have N := new_below w (.cells #[.slice x.a0 n0 x.c0, .slice x.a1 n1 x.c1, .slice x.a2 n2 x.c2, .slice x.a3 n3 x.c3, .slice x.a4 n4 x.c4, .int .i64 td, .slice y.a0 n0 y.c0, .slice y.a1 n1 y.c1, .slice y.a2 n2 y.c2, .slice y.a3 n3 y.c3, .slice y.a4 n4 y.c4, .int .i64 td, .string s, .int .i64 sy] 38)
  have m := heap_new w (.cells #[.slice x.a0 n0 x.c0, .slice x.a1 n1 x.c1, .slice x.a2 n2 x.c2, .slice x.a3 n3 x.c3, .slice x.a4 n4 x.c4, .int .i64 td, .slice y.a0 n0 y.c0, .slice y.a1 n1 y.c1, .slice y.a2 n2 y.c2, .slice y.a3 n3 y.c3, .slice y.a4 n4 y.c4, .int .i64 td, .string s, .int .i64 sy] 38)
  have H0 : Hid (∀ W, Below w.heap.size w W → _) := h0
  have H1 : Hid (∀ W, Below w.heap.size w W → _) := h1
  have d1 : decide (z1 < 0) = false := decide_eq_false (by omega)
  have d2 : decide (z2 < 0) = false := decide_eq_false (by omega)
  clear h0 h1 p1 p2
  go_enter Tryz.func12, Tryz.ntmps12
  have c0 : (w.alloc (.cells #[.slice x.a0 n0 x.c0, .slice x.a1 n1 x.c1, .slice x.a2 n2 x.c2, .slice x.a3 n3 x.c3, .slice x.a4 n4 x.c4, .int .i64 td, .slice y.a0 n0 y.c0, .slice y.a1 n1 y.c1, .slice y.a2 n2 y.c2, .slice y.a3 n3 y.c3, .slice y.a4 n4 y.c4, .int .i64 td, .string s, .int .i64 sy] 38)).cell? ⟨w.heap.size, 0, none⟩ = some (.slice x.a0 n0 x.c0) := cell_at m 0
  have c1 : (w.alloc (.cells #[.slice x.a0 n0 x.c0, .slice x.a1 n1 x.c1, .slice x.a2 n2 x.c2, .slice x.a3 n3 x.c3, .slice x.a4 n4 x.c4, .int .i64 td, .slice y.a0 n0 y.c0, .slice y.a1 n1 y.c1, .slice y.a2 n2 y.c2, .slice y.a3 n3 y.c3, .slice y.a4 n4 y.c4, .int .i64 td, .string s, .int .i64 sy] 38)).cell? ⟨w.heap.size, 1, none⟩ = some (.slice x.a1 n1 x.c1) := cell_at m 1
  have c2 : (w.alloc (.cells #[.slice x.a0 n0 x.c0, .slice x.a1 n1 x.c1, .slice x.a2 n2 x.c2, .slice x.a3 n3 x.c3, .slice x.a4 n4 x.c4, .int .i64 td, .slice y.a0 n0 y.c0, .slice y.a1 n1 y.c1, .slice y.a2 n2 y.c2, .slice y.a3 n3 y.c3, .slice y.a4 n4 y.c4, .int .i64 td, .string s, .int .i64 sy] 38)).cell? ⟨w.heap.size, 2, none⟩ = some (.slice x.a2 n2 x.c2) := cell_at m 2
  have c3 : (w.alloc (.cells #[.slice x.a0 n0 x.c0, .slice x.a1 n1 x.c1, .slice x.a2 n2 x.c2, .slice x.a3 n3 x.c3, .slice x.a4 n4 x.c4, .int .i64 td, .slice y.a0 n0 y.c0, .slice y.a1 n1 y.c1, .slice y.a2 n2 y.c2, .slice y.a3 n3 y.c3, .slice y.a4 n4 y.c4, .int .i64 td, .string s, .int .i64 sy] 38)).cell? ⟨w.heap.size, 3, none⟩ = some (.slice x.a3 n3 x.c3) := cell_at m 3
  have c4 : (w.alloc (.cells #[.slice x.a0 n0 x.c0, .slice x.a1 n1 x.c1, .slice x.a2 n2 x.c2, .slice x.a3 n3 x.c3, .slice x.a4 n4 x.c4, .int .i64 td, .slice y.a0 n0 y.c0, .slice y.a1 n1 y.c1, .slice y.a2 n2 y.c2, .slice y.a3 n3 y.c3, .slice y.a4 n4 y.c4, .int .i64 td, .string s, .int .i64 sy] 38)).cell? ⟨w.heap.size, 4, none⟩ = some (.slice x.a4 n4 x.c4) := cell_at m 4
  have c5 : (w.alloc (.cells #[.slice x.a0 n0 x.c0, .slice x.a1 n1 x.c1, .slice x.a2 n2 x.c2, .slice x.a3 n3 x.c3, .slice x.a4 n4 x.c4, .int .i64 td, .slice y.a0 n0 y.c0, .slice y.a1 n1 y.c1, .slice y.a2 n2 y.c2, .slice y.a3 n3 y.c3, .slice y.a4 n4 y.c4, .int .i64 td, .string s, .int .i64 sy] 38)).cell? ⟨w.heap.size, 5, none⟩ = some (.int .i64 td) := cell_at m 5
  go_wp2_with fail
  refine (H0.out _ N).mono ?_
  clear c0 c1 c2 c3 c4 c5
  generalize w.alloc (.cells #[.slice x.a0 n0 x.c0, .slice x.a1 n1 x.c1, .slice x.a2 n2 x.c2, .slice x.a3 n3 x.c3, .slice x.a4 n4 x.c4, .int .i64 td, .slice y.a0 n0 y.c0, .slice y.a1 n1 y.c1, .slice y.a2 n2 y.c2, .slice y.a3 n3 y.c3, .slice y.a4 n4 y.c4, .int .i64 td, .string s, .int .i64 sy] 38) = W0 at *
  rintro e w1 ⟨rfl, L1⟩
  have m := kept L1 (lt_of m) m
  have N := join_below N L1
  clear L1
  have c6 : w1.cell? ⟨w.heap.size, 6, none⟩ = some (.slice y.a0 n0 y.c0) := cell_at m 6
  have c7 : w1.cell? ⟨w.heap.size, 7, none⟩ = some (.slice y.a1 n1 y.c1) := cell_at m 7
  have c8 : w1.cell? ⟨w.heap.size, 8, none⟩ = some (.slice y.a2 n2 y.c2) := cell_at m 8
  have c9 : w1.cell? ⟨w.heap.size, 9, none⟩ = some (.slice y.a3 n3 y.c3) := cell_at m 9
  have c10 : w1.cell? ⟨w.heap.size, 10, none⟩ = some (.slice y.a4 n4 y.c4) := cell_at m 10
  have c11 : w1.cell? ⟨w.heap.size, 11, none⟩ = some (.int .i64 td) := cell_at m 11
  go_wp2_with fail
  refine (H1.out _ N).mono ?_
  rintro e w2 ⟨rfl, L2⟩
  have N := join_below N L2
  clear L2 c6 c7 c8 c9 c10 c11
  go_wp2
  go_ret
  exact ⟨rfl, N⟩

end Of
end Go.Proofs.YtehmlnojjfeheaaGreat

/- Draws for the laws of seats: what is asked for a seat. -/
import Derived.Test.YtiollklighmojadCurSe1
import Derived.Test.YtiollklighmojadCurSe5
import Derived.BigRegion
namespace Go.Proofs.Ytiollklighmojad
namespace Se
open Go.ChangeShapes Go.WideShapes Go.ChangeAt Go.RowKit
open Tn (Hd St trV trB Stops scells own_kb own_other)
open Pk (new_below join_below cell_at heap_new frozen_at lt_of kept heap_old info_of own_form own_below Room)
open Cur (Is Moved Bytes Kb new_any once_any below_any pickInt_any rowOf_new)
set_option linter.unusedSimpArgs false
set_option linter.unusedVariables false

theorem own_heap {w w1 : World} {base e size : Nat} {v : Value} {n : Nat} {xs : List Value} (h : w.ownsRow base e size v n xs) (he : w1.heap = w.heap) : w1.ownsRow base e size v n xs := by
  obtain ⟨h1, h2⟩ := h
  refine ⟨h1, ?_⟩
  rcases h2 with h2 | ⟨g, cap, cur, hv, hg, hh, hr⟩
  · exact Or.inl h2
  · exact Or.inr ⟨g, cap, cur, hv, hg, by rw [he]; exact hh, hr⟩

/-- A train stored into block R. -/
def put5 (w : World) (R : Nat) (t : Hd) (ta : Option Addr) (n tc : Nat) : World := ((((w.setCell ⟨R, 0, none⟩ (.int .i64 t.id)).setCell ⟨R, 1, none⟩ (.int .i64 t.dy)).setCell ⟨R, 2, none⟩ (.int .i64 t.co)).setCell ⟨R, 3, none⟩ (.int .i64 t.se)).setCell ⟨R, 4, none⟩ (.slice ta n tc)

theorem put5_own {w : World} {R base e size : Nat} {v : Value} {n : Nat} {xs : List Value} {t : Hd} {ta : Option Addr} {k tc : Nat} (h : w.ownsRow base e size v n xs) (hn : v.ownBlock ≠ some R) : (put5 w R t ta k tc).ownsRow base e size v n xs := by
  have h1 := own_other h hn 0 (.int .i64 t.id)
  have h2 := own_other h1 hn 1 (.int .i64 t.dy)
  have h3 := own_other h2 hn 2 (.int .i64 t.co)
  have h4 := own_other h3 hn 3 (.int .i64 t.se)
  exact own_other h4 hn 4 (.slice ta k tc)

theorem put5_below {W0 w : World} {R : Nat} {t : Hd} {ta : Option Addr} {k tc : Nat} (h : Below W0.heap.size W0 w) (hR : W0.heap.size ≤ R) : Below W0.heap.size W0 (put5 w R t ta k tc) := by
  have h1 := h.setCell (p := ⟨R, 0, none⟩) hR (.int .i64 t.id)
  have h2 := h1.setCell (p := ⟨R, 1, none⟩) hR (.int .i64 t.dy)
  have h3 := h2.setCell (p := ⟨R, 2, none⟩) hR (.int .i64 t.co)
  have h4 := h3.setCell (p := ⟨R, 3, none⟩) hR (.int .i64 t.se)
  exact h4.setCell (p := ⟨R, 4, none⟩) hR (.slice ta k tc)

set_option maxRecDepth 100000 in
set_option maxHeartbeats 8000000 in
theorem ask8_any {W0 : World} {a : Option Addr} {n cap c : Nat} {w : World} (C : Is W0 a n cap c w) :
    Calls Try.prog 95 #[.pointer (some ⟨c, 0, none⟩)] w fun e w' => (∃ (l : List Hl) (g vc : Nat) (t : Hd) (ls : List St) (ta : Option Addr) (tc : Nat) (day x y : Int), e = .returned (.tuple #[.slice (some ⟨g, 0, none⟩) l.length vc, trV t ta ls.length tc, .int .i64 day, .int .i64 x, .int .i64 y]) ∧ w'.ownsRow w.heap.size 77 7 (.slice (some ⟨g, 0, none⟩) l.length vc) l.length (hcells l) ∧ W7s l ∧ l.length ≤ 401 ∧ w'.ownsRow w.heap.size 37 3 (.slice ta ls.length tc) ls.length (scells ls) ∧ ls.length ≤ 5) ∧ Below W0.heap.size W0 w' := by
  have hcw := C.lt
  have hWR : W0.heap.size ≤ w.heap.size := C.below.size
  have hRc : w.heap.size ≠ c := by omega
  have C1 := C.alloc (trB ⟨0, 0, 0, 0⟩ none 0 0 26)
  have m1 := heap_new w (trB ⟨0, 0, 0, 0⟩ none 0 0 26)
  have e1 : (w.alloc (trB ⟨0, 0, 0, 0⟩ none 0 0 26)).heap.size = w.heap.size + 1 := Array.size_push ..
  go_enter Try.func95, Try.ntmps95
  go_wp2_with fail
  refine (train8_any C1).mono ?_
  generalize w.alloc (trB ⟨0, 0, 0, 0⟩ none 0 0 26) = WA at *
  rintro e w2 ⟨⟨t, ls, ta, tc, rfl, hid, ⟨h1, h2, h3, h4⟩, O2, hl1, hl2⟩, C2, K2⟩
  have m2 := (K2.block w.heap.size (lt_of m1) hRc).trans m1
  have hnO : (.slice ta ls.length tc : Value).ownBlock ≠ some c := fun h => by have := (O2.lt _ h).1; omega
  have hnOR : (.slice ta ls.length tc : Value).ownBlock ≠ some w.heap.size := fun h => by have := (O2.lt _ h).1; omega
  obtain ⟨B, hB⟩ : ∃ B, w2.heap.size = B := ⟨_, rfl⟩
  have hBc : B ≠ c := by have := C2.lt; omega
  have hBR : B ≠ w.heap.size := by have := K2.size; omega
  have C3 := C2.alloc (.cells #[.int .i64 t.id, .int .i64 t.dy, .int .i64 t.co, .int .i64 t.se, .slice ta ls.length tc] 26)
  have x3 := heap_new w2 (.cells #[.int .i64 t.id, .int .i64 t.dy, .int .i64 t.co, .int .i64 t.se, .slice ta ls.length tc] 26)
  have m3 := heap_old m2 (.cells #[.int .i64 t.id, .int .i64 t.dy, .int .i64 t.co, .int .i64 t.se, .slice ta ls.length tc] 26)
  have O3 := own_below O2 (new_below w2 (.cells #[.int .i64 t.id, .int .i64 t.dy, .int .i64 t.co, .int .i64 t.se, .slice ta ls.length tc] 26)) (Nat.le_refl _)
  have s3 : w2.heap.size < (w2.alloc (.cells #[.int .i64 t.id, .int .i64 t.dy, .int .i64 t.co, .int .i64 t.se, .slice ta ls.length tc] 26)).heap.size := by rw [show (w2.alloc (.cells #[.int .i64 t.id, .int .i64 t.dy, .int .i64 t.co, .int .i64 t.se, .slice ta ls.length tc] 26)).heap.size = w2.heap.size + 1 from Array.size_push ..]; omega
  rw [hB] at x3 s3
  have HA : Hid (∀ _ : Unit, _) := fun _ => holds8_any C3 t ta ls tc hid ⟨h1, h2⟩ ⟨h3, h4⟩ hl1 hl2
  have hWB : W0.heap.size ≤ B := by have := K2.size; omega
  clear C1 C2 K2 m1 O2 m2
  go_wp2_with fail
  refine (HA.out ()).mono ?_
  try rw [hB]
  clear hB
  generalize w2.alloc (.cells #[.int .i64 t.id, .int .i64 t.dy, .int .i64 t.co, .int .i64 t.se, .slice ta ls.length tc] 26) = w3 at *
  rintro e w4 ⟨⟨l, g, vc, rfl, H4, hw, hl⟩, C4, K4⟩
  have hnH : (.slice (some ⟨g, 0, none⟩) l.length vc : Value).ownBlock ≠ some c := fun h => by have := (H4.lt _ h).1; have := C3.lt; omega
  have hnHR : (.slice (some ⟨g, 0, none⟩) l.length vc : Value).ownBlock ≠ some w.heap.size := fun h => by have := (H4.lt _ h).1; have := lt_of m3; omega
  have hnHB : (.slice (some ⟨g, 0, none⟩) l.length vc : Value).ownBlock ≠ some B := fun h => by have := (H4.lt _ h).1; omega
  have hnOB : (.slice ta ls.length tc : Value).ownBlock ≠ some B := Pk.own_ne' O3 x3 (by decide)
  have m4 := (K4.block w.heap.size (lt_of m3) hRc).trans m3
  have x4 := (K4.block B (lt_of x3) hBc).trans x3
  have O4 := own_kb O3 K4 hnO
  have hbH : w.heap.size ≤ w3.heap.size := Nat.le_of_lt (lt_of m3)
  have hbO : w.heap.size ≤ WA.heap.size := by omega
  clear C3 HA K4 m3 x3 O3 s3
  have b4 : w4.cell? ⟨B, 4, none⟩ = some (.slice ta ls.length tc) := cell_at x4 4
  obtain ⟨mm, hmm⟩ : ∃ d : Int, (ls.length : Int) - 1 = d := ⟨_, rfl⟩
  have qmma : wrap64 ((ls.length : Int) - 1) = mm := by rw [hmm]; unfold wrap64; omega
  have qmmb : IntKind.i64.wrap ((ls.length : Int) - 1) = mm := by rw [hmm, IntKind.wrap_i64]; omega
  go_wp2_with fail
  refine (below_any C4 mm).mono ?_
  rintro e w5 ⟨⟨av, rfl, hav0, hav1⟩, C5, M5⟩
  have hav2 := hav1 (by omega)
  have K5 := Kb.moved M5
  have m5 := (K5.block w.heap.size (lt_of m4) hRc).trans m4
  have x5 := (K5.block B (lt_of x4) hBc).trans x4
  have O5 := own_kb O4 K5 hnO
  have H5 := own_kb H4 K5 hnH
  clear C4 M5 K5 m4 x4 O4 H4 b4 hav1
  have b4 : w5.cell? ⟨B, 4, none⟩ = some (.slice ta ls.length tc) := cell_at x5 4
  obtain ⟨ee, hee⟩ : ∃ d : Int, av + 1 = d := ⟨_, rfl⟩
  have qeea : wrap64 (av + 1) = ee := by rw [hee]; unfold wrap64; omega
  have qeeb : IntKind.i64.wrap (av + 1) = ee := by rw [hee, IntKind.wrap_i64]; omega
  obtain ⟨rr, hrr⟩ : ∃ d : Int, mm - av = d := ⟨_, rfl⟩
  have qrra : wrap64 (mm - av) = rr := by rw [hrr]; unfold wrap64; omega
  have qrrb : IntKind.i64.wrap (mm - av) = rr := by rw [hrr, IntKind.wrap_i64]; omega
  go_wp2_with fail
  refine (below_any C5 rr).mono ?_
  rintro e w6 ⟨⟨xv, rfl, hxv0, hxv1⟩, C6, M6⟩
  have hxv2 := hxv1 (by omega)
  have K6 := Kb.moved M6
  have m6 := (K6.block w.heap.size (lt_of m5) hRc).trans m5
  have x6 := (K6.block B (lt_of x5) hBc).trans x5
  have O6 := own_kb O5 K6 hnO
  have H6 := own_kb H5 K6 hnH
  clear C5 M6 K6 m5 x5 O5 H5 b4 hxv1
  obtain ⟨bb, hbb⟩ : ∃ d : Int, ee + xv = d := ⟨_, rfl⟩
  have qbba : wrap64 (ee + xv) = bb := by rw [hbb]; unfold wrap64; omega
  have qbbb : IntKind.i64.wrap (ee + xv) = bb := by rw [hbb, IntKind.wrap_i64]; omega
  go_wp2_with fail
  refine (below_any C6 12).mono ?_
  rintro e w7 ⟨⟨y, rfl, hy0, hy1⟩, C7, M7⟩
  have hy2 := hy1 (by omega)
  have K7 := Kb.moved M7
  have m7 := (K7.block w.heap.size (lt_of m6) hRc).trans m6
  have x7 := (K7.block B (lt_of x6) hBc).trans x6
  have O7 := own_kb O6 K7 hnO
  have H7 := own_kb H6 K7 hnH
  clear C6 M7 K7 m6 x6 O6 H6 hy1
  by_cases e0 : y = 0
  · subst e0
    have b0 : w7.cell? ⟨B, 0, none⟩ = some (.int .i64 t.id) := cell_at x7 0
    have b1 : w7.cell? ⟨B, 1, none⟩ = some (.int .i64 t.dy) := cell_at x7 1
    have b2 : w7.cell? ⟨B, 2, none⟩ = some (.int .i64 t.co) := cell_at x7 2
    have b3 : w7.cell? ⟨B, 3, none⟩ = some (.int .i64 t.se) := cell_at x7 3
    have b4 : w7.cell? ⟨B, 4, none⟩ = some (.slice ta ls.length tc) := cell_at x7 4
    have z0 : w7.cell? ⟨w.heap.size, 0, none⟩ = some (.int .i64 0) := cell_at m7 0
    have y0 : w7.frozen? ⟨w.heap.size, 0, none⟩ = false := frozen_at m7 0
    have z1 : w7.cell? ⟨w.heap.size, 1, none⟩ = some (.int .i64 0) := cell_at m7 1
    have y1 : w7.frozen? ⟨w.heap.size, 1, none⟩ = false := frozen_at m7 1
    have z2 : w7.cell? ⟨w.heap.size, 2, none⟩ = some (.int .i64 0) := cell_at m7 2
    have y2 : w7.frozen? ⟨w.heap.size, 2, none⟩ = false := frozen_at m7 2
    have z3 : w7.cell? ⟨w.heap.size, 3, none⟩ = some (.int .i64 0) := cell_at m7 3
    have y3 : w7.frozen? ⟨w.heap.size, 3, none⟩ = false := frozen_at m7 3
    have z4 : w7.cell? ⟨w.heap.size, 4, none⟩ = some (.slice none 0 0) := cell_at m7 4
    have y4 : w7.frozen? ⟨w.heap.size, 4, none⟩ = false := frozen_at m7 4
    have HJ : Hid (∀ W, Kb c w7 W → W.heap.size = w7.heap.size → True) := fun _ _ _ => trivial
    have HO : Hid (World.ownsRow _ _ _ _ _ _ _) := O7
    have HH : Hid (World.ownsRow _ _ _ _ _ _ _) := H7
    have HC := C7.below
    have hRB : B ≠ w.heap.size := hBR
    clear m7 x7 O7 H7 HJ
    go_wp2
    go_region
    all_goals
      go_wp2
      refine bodyPost_ret (v := .tuple #[.slice (some ⟨g, 0, none⟩) l.length vc, .agg #[.int .i64 t.id, .int .i64 t.dy, .int .i64 t.co, .int .i64 t.se, .slice ta ls.length tc], .int .i64 5, .int .i64 av, .int .i64 av]) (by simp [results, Try.results95, go_sem, z0, z1, z2, z3, z4]) rfl ?_
      have HO9 := put5_own (t := ⟨t.id, t.dy, t.co, t.se⟩) (ta := ta) (k := ls.length) (tc := tc) HO.out hnOR
      have HH9 := put5_own (t := ⟨t.id, t.dy, t.co, t.se⟩) (ta := ta) (k := ls.length) (tc := tc) HH.out hnHR
      have HB9 := (put5_below (t := ⟨t.id, t.dy, t.co, t.se⟩) (ta := ta) (k := ls.length) (tc := tc) HC hWR).drew
      exact ⟨⟨l, g, vc, ⟨t.id, t.dy, t.co, t.se⟩, ls, ta, tc, 5, av, av, rfl, own_wider (own_heap HH9 (w1 := World.drew (put5 w7 w.heap.size ⟨t.id, t.dy, t.co, t.se⟩ ta ls.length tc)) rfl) hbH, hw, hl, own_wider (own_heap HO9 (w1 := World.drew (put5 w7 w.heap.size ⟨t.id, t.dy, t.co, t.se⟩ ta ls.length tc)) rfl) hbO, hl2⟩, HB9⟩
  · have b0 : (y == 0) = false := beq_eq_false_iff_ne.2 e0
    by_cases e1 : y = 1
    · subst e1
      have b4 : w7.cell? ⟨B, 4, none⟩ = some (.slice ta ls.length tc) := cell_at x7 4
      have N8 := new_below w7 (.cells #[.int .i64 (-1), .int .i64 (ls.length : Int), .int .i64 9223372036854775807] 3)
      have C8 := C7.alloc (.cells #[.int .i64 (-1), .int .i64 (ls.length : Int), .int .i64 9223372036854775807] 3)
      have m8 := heap_old m7 (.cells #[.int .i64 (-1), .int .i64 (ls.length : Int), .int .i64 9223372036854775807] 3)
      have x8 := heap_old x7 (.cells #[.int .i64 (-1), .int .i64 (ls.length : Int), .int .i64 9223372036854775807] 3)
      have O8 := own_below O7 N8 (Nat.le_refl _)
      have H8 := own_below H7 N8 (Nat.le_refl _)
      have RW : Cur.RowOf (fun _ => True) (w7.alloc (.cells #[.int .i64 (-1), .int .i64 (ls.length : Int), .int .i64 9223372036854775807] 3)) w7.heap.size 3 := rowOf_new (fun _ => True) w7 [-1, (ls.length : Int), 9223372036854775807] 3 (fun _ _ => trivial)
      have hbc : w7.heap.size ≠ c := by have := C7.lt; omega
      have HPK : Hid (∀ _ : Unit, _) := fun _ => pickInt_any C8 (fun _ => True) w7.heap.size 3 3 hbc (by omega) (by omega) RW
      clear RW
      go_wp2_with fail
      refine (HPK.out ()).mono ?_
      clear b4
      generalize w7.alloc (.cells #[.int .i64 (-1), .int .i64 (ls.length : Int), .int .i64 9223372036854775807] 3) = w8 at *
      rintro e w9 ⟨⟨pv, rfl, -⟩, C9, M9⟩
      have K9 := Kb.moved M9
      have m9 := (K9.block w.heap.size (lt_of m8) hRc).trans m8
      have x9 := (K9.block B (lt_of x8) hBc).trans x8
      have O9 := own_kb O8 K9 hnO
      have H9 := own_kb H8 K9 hnH
      clear HPK C8 M9 K9 m8 x8 O8 H8 N8 C7 m7 x7 O7 H7
      have b0 : w9.cell? ⟨B, 0, none⟩ = some (.int .i64 t.id) := cell_at x9 0
      have b1 : w9.cell? ⟨B, 1, none⟩ = some (.int .i64 t.dy) := cell_at x9 1
      have b2 : w9.cell? ⟨B, 2, none⟩ = some (.int .i64 t.co) := cell_at x9 2
      have b3 : w9.cell? ⟨B, 3, none⟩ = some (.int .i64 t.se) := cell_at x9 3
      have b4 : w9.cell? ⟨B, 4, none⟩ = some (.slice ta ls.length tc) := cell_at x9 4
      have z0 : w9.cell? ⟨w.heap.size, 0, none⟩ = some (.int .i64 0) := cell_at m9 0
      have y0 : w9.frozen? ⟨w.heap.size, 0, none⟩ = false := frozen_at m9 0
      have z1 : w9.cell? ⟨w.heap.size, 1, none⟩ = some (.int .i64 0) := cell_at m9 1
      have y1 : w9.frozen? ⟨w.heap.size, 1, none⟩ = false := frozen_at m9 1
      have z2 : w9.cell? ⟨w.heap.size, 2, none⟩ = some (.int .i64 0) := cell_at m9 2
      have y2 : w9.frozen? ⟨w.heap.size, 2, none⟩ = false := frozen_at m9 2
      have z3 : w9.cell? ⟨w.heap.size, 3, none⟩ = some (.int .i64 0) := cell_at m9 3
      have y3 : w9.frozen? ⟨w.heap.size, 3, none⟩ = false := frozen_at m9 3
      have z4 : w9.cell? ⟨w.heap.size, 4, none⟩ = some (.slice none 0 0) := cell_at m9 4
      have y4 : w9.frozen? ⟨w.heap.size, 4, none⟩ = false := frozen_at m9 4
      have HJ : Hid (∀ W, Kb c w9 W → W.heap.size = w9.heap.size → True) := fun _ _ _ => trivial
      have HO : Hid (World.ownsRow _ _ _ _ _ _ _) := O9
      have HH : Hid (World.ownsRow _ _ _ _ _ _ _) := H9
      have HC := C9.below
      have hRB : B ≠ w.heap.size := hBR
      clear m9 x9 O9 H9 HJ
      go_wp2
      go_region
      all_goals
        go_wp2
        refine bodyPost_ret (v := .tuple #[.slice (some ⟨g, 0, none⟩) l.length vc, .agg #[.int .i64 t.id, .int .i64 t.dy, .int .i64 t.co, .int .i64 t.se, .slice ta ls.length tc], .int .i64 5, .int .i64 pv, .int .i64 bb]) (by simp [results, Try.results95, go_sem, z0, z1, z2, z3, z4]) rfl ?_
        have HO9 := put5_own (t := ⟨t.id, t.dy, t.co, t.se⟩) (ta := ta) (k := ls.length) (tc := tc) HO.out hnOR
        have HH9 := put5_own (t := ⟨t.id, t.dy, t.co, t.se⟩) (ta := ta) (k := ls.length) (tc := tc) HH.out hnHR
        have HB9 := (put5_below (t := ⟨t.id, t.dy, t.co, t.se⟩) (ta := ta) (k := ls.length) (tc := tc) HC hWR).drew
        exact ⟨⟨l, g, vc, ⟨t.id, t.dy, t.co, t.se⟩, ls, ta, tc, 5, pv, bb, rfl, own_wider (own_heap HH9 (w1 := World.drew (put5 w9 w.heap.size ⟨t.id, t.dy, t.co, t.se⟩ ta ls.length tc)) rfl) hbH, hw, hl, own_wider (own_heap HO9 (w1 := World.drew (put5 w9 w.heap.size ⟨t.id, t.dy, t.co, t.se⟩ ta ls.length tc)) rfl) hbO, hl2⟩, HB9⟩
    · have b1 : (y == 1) = false := beq_eq_false_iff_ne.2 e1
      by_cases e2 : y = 2
      · subst e2
        have k1 : w7.cell? ⟨B, 1, none⟩ = some (.int .i64 t.dy) := cell_at x7 1
        have k2 : w7.frozen? ⟨B, 1, none⟩ = false := frozen_at x7 1
        have m8 : (w7.setCell ⟨B, 1, none⟩ (.int .i64 1)).heap[w.heap.size]? = some (trB ⟨0, 0, 0, 0⟩ none 0 0 26) := Tn.h_other m7 (fun h => hBR h.symm) _
        have x8 : (w7.setCell ⟨B, 1, none⟩ (.int .i64 1)).heap[B]? = some (.cells #[.int .i64 t.id, .int .i64 1, .int .i64 t.co, .int .i64 t.se, .slice ta ls.length tc] 26) := Tn.h_set x7 _
        have O8 := own_other O7 hnOB 1 (.int .i64 1)
        have H8 := own_other H7 hnHB 1 (.int .i64 1)
        have C8 := C7.set B 1 (.int .i64 1) hBc hWB
        clear m7 x7 O7 H7 C7
        have b0 : (w7.setCell ⟨B, 1, none⟩ (.int .i64 1)).cell? ⟨B, 0, none⟩ = some (.int .i64 t.id) := cell_at x8 0
        have b1 : (w7.setCell ⟨B, 1, none⟩ (.int .i64 1)).cell? ⟨B, 1, none⟩ = some (.int .i64 1) := cell_at x8 1
        have b2 : (w7.setCell ⟨B, 1, none⟩ (.int .i64 1)).cell? ⟨B, 2, none⟩ = some (.int .i64 t.co) := cell_at x8 2
        have b3 : (w7.setCell ⟨B, 1, none⟩ (.int .i64 1)).cell? ⟨B, 3, none⟩ = some (.int .i64 t.se) := cell_at x8 3
        have b4 : (w7.setCell ⟨B, 1, none⟩ (.int .i64 1)).cell? ⟨B, 4, none⟩ = some (.slice ta ls.length tc) := cell_at x8 4
        have z0 : (w7.setCell ⟨B, 1, none⟩ (.int .i64 1)).cell? ⟨w.heap.size, 0, none⟩ = some (.int .i64 0) := cell_at m8 0
        have y0 : (w7.setCell ⟨B, 1, none⟩ (.int .i64 1)).frozen? ⟨w.heap.size, 0, none⟩ = false := frozen_at m8 0
        have z1 : (w7.setCell ⟨B, 1, none⟩ (.int .i64 1)).cell? ⟨w.heap.size, 1, none⟩ = some (.int .i64 0) := cell_at m8 1
        have y1 : (w7.setCell ⟨B, 1, none⟩ (.int .i64 1)).frozen? ⟨w.heap.size, 1, none⟩ = false := frozen_at m8 1
        have z2 : (w7.setCell ⟨B, 1, none⟩ (.int .i64 1)).cell? ⟨w.heap.size, 2, none⟩ = some (.int .i64 0) := cell_at m8 2
        have y2 : (w7.setCell ⟨B, 1, none⟩ (.int .i64 1)).frozen? ⟨w.heap.size, 2, none⟩ = false := frozen_at m8 2
        have z3 : (w7.setCell ⟨B, 1, none⟩ (.int .i64 1)).cell? ⟨w.heap.size, 3, none⟩ = some (.int .i64 0) := cell_at m8 3
        have y3 : (w7.setCell ⟨B, 1, none⟩ (.int .i64 1)).frozen? ⟨w.heap.size, 3, none⟩ = false := frozen_at m8 3
        have z4 : (w7.setCell ⟨B, 1, none⟩ (.int .i64 1)).cell? ⟨w.heap.size, 4, none⟩ = some (.slice none 0 0) := cell_at m8 4
        have y4 : (w7.setCell ⟨B, 1, none⟩ (.int .i64 1)).frozen? ⟨w.heap.size, 4, none⟩ = false := frozen_at m8 4
        have HJ : Hid (∀ W, Kb c (w7.setCell ⟨B, 1, none⟩ (.int .i64 1)) W → W.heap.size = (w7.setCell ⟨B, 1, none⟩ (.int .i64 1)).heap.size → True) := fun _ _ _ => trivial
        have HO : Hid (World.ownsRow _ _ _ _ _ _ _) := O8
        have HH : Hid (World.ownsRow _ _ _ _ _ _ _) := H8
        have HC := C8.below
        have hRB : B ≠ w.heap.size := hBR
        clear m8 x8 O8 H8 HJ
        go_wp2
        try generalize w7.setCell ⟨B, 1, none⟩ (.int .i64 1) = w8 at *
        go_region
        all_goals
          go_wp2
          refine bodyPost_ret (v := .tuple #[.slice (some ⟨g, 0, none⟩) l.length vc, .agg #[.int .i64 t.id, .int .i64 1, .int .i64 t.co, .int .i64 t.se, .slice ta ls.length tc], .int .i64 5, .int .i64 av, .int .i64 bb]) (by simp [results, Try.results95, go_sem, z0, z1, z2, z3, z4]) rfl ?_
          have HO9 := put5_own (t := ⟨t.id, 1, t.co, t.se⟩) (ta := ta) (k := ls.length) (tc := tc) HO.out hnOR
          have HH9 := put5_own (t := ⟨t.id, 1, t.co, t.se⟩) (ta := ta) (k := ls.length) (tc := tc) HH.out hnHR
          have HB9 := (put5_below (t := ⟨t.id, 1, t.co, t.se⟩) (ta := ta) (k := ls.length) (tc := tc) HC hWR).drew
          exact ⟨⟨l, g, vc, ⟨t.id, 1, t.co, t.se⟩, ls, ta, tc, 5, av, bb, rfl, own_wider (own_heap HH9 (w1 := World.drew (put5 w8 w.heap.size ⟨t.id, 1, t.co, t.se⟩ ta ls.length tc)) rfl) hbH, hw, hl, own_wider (own_heap HO9 (w1 := World.drew (put5 w8 w.heap.size ⟨t.id, 1, t.co, t.se⟩ ta ls.length tc)) rfl) hbO, hl2⟩, HB9⟩
      · have b2 : (y == 2) = false := beq_eq_false_iff_ne.2 e2
        by_cases e3 : y = 3
        · subst e3
          have N8 := new_below w7 (.cells #[.int .i64 (-1), .int .i64 100000, .int .i64 6] 3)
          have C8 := C7.alloc (.cells #[.int .i64 (-1), .int .i64 100000, .int .i64 6] 3)
          have m8 := heap_old m7 (.cells #[.int .i64 (-1), .int .i64 100000, .int .i64 6] 3)
          have x8 := heap_old x7 (.cells #[.int .i64 (-1), .int .i64 100000, .int .i64 6] 3)
          have O8 := own_below O7 N8 (Nat.le_refl _)
          have H8 := own_below H7 N8 (Nat.le_refl _)
          have RW : Cur.RowOf (fun _ => True) (w7.alloc (.cells #[.int .i64 (-1), .int .i64 100000, .int .i64 6] 3)) w7.heap.size 3 := rowOf_new (fun _ => True) w7 [-1, 100000, 6] 3 (fun _ _ => trivial)
          have hbc : w7.heap.size ≠ c := by have := C7.lt; omega
          have HPK : Hid (∀ _ : Unit, _) := fun _ => pickInt_any C8 (fun _ => True) w7.heap.size 3 3 hbc (by omega) (by omega) RW
          clear RW
          go_wp2_with fail
          refine (HPK.out ()).mono ?_
          generalize w7.alloc (.cells #[.int .i64 (-1), .int .i64 100000, .int .i64 6] 3) = w8 at *
          rintro e w9 ⟨⟨pv, rfl, -⟩, C9, M9⟩
          have K9 := Kb.moved M9
          have m9 := (K9.block w.heap.size (lt_of m8) hRc).trans m8
          have x9 := (K9.block B (lt_of x8) hBc).trans x8
          have O9 := own_kb O8 K9 hnO
          have H9 := own_kb H8 K9 hnH
          clear HPK C8 M9 K9 m8 x8 O8 H8 N8 C7 m7 x7 O7 H7
          have b0 : w9.cell? ⟨B, 0, none⟩ = some (.int .i64 t.id) := cell_at x9 0
          have b1 : w9.cell? ⟨B, 1, none⟩ = some (.int .i64 t.dy) := cell_at x9 1
          have b2 : w9.cell? ⟨B, 2, none⟩ = some (.int .i64 t.co) := cell_at x9 2
          have b3 : w9.cell? ⟨B, 3, none⟩ = some (.int .i64 t.se) := cell_at x9 3
          have b4 : w9.cell? ⟨B, 4, none⟩ = some (.slice ta ls.length tc) := cell_at x9 4
          have z0 : w9.cell? ⟨w.heap.size, 0, none⟩ = some (.int .i64 0) := cell_at m9 0
          have y0 : w9.frozen? ⟨w.heap.size, 0, none⟩ = false := frozen_at m9 0
          have z1 : w9.cell? ⟨w.heap.size, 1, none⟩ = some (.int .i64 0) := cell_at m9 1
          have y1 : w9.frozen? ⟨w.heap.size, 1, none⟩ = false := frozen_at m9 1
          have z2 : w9.cell? ⟨w.heap.size, 2, none⟩ = some (.int .i64 0) := cell_at m9 2
          have y2 : w9.frozen? ⟨w.heap.size, 2, none⟩ = false := frozen_at m9 2
          have z3 : w9.cell? ⟨w.heap.size, 3, none⟩ = some (.int .i64 0) := cell_at m9 3
          have y3 : w9.frozen? ⟨w.heap.size, 3, none⟩ = false := frozen_at m9 3
          have z4 : w9.cell? ⟨w.heap.size, 4, none⟩ = some (.slice none 0 0) := cell_at m9 4
          have y4 : w9.frozen? ⟨w.heap.size, 4, none⟩ = false := frozen_at m9 4
          have HJ : Hid (∀ W, Kb c w9 W → W.heap.size = w9.heap.size → True) := fun _ _ _ => trivial
          have HO : Hid (World.ownsRow _ _ _ _ _ _ _) := O9
          have HH : Hid (World.ownsRow _ _ _ _ _ _ _) := H9
          have HC := C9.below
          have hRB : B ≠ w.heap.size := hBR
          clear m9 x9 O9 H9 HJ
          go_wp2
          go_region
          all_goals
            go_wp2
            refine bodyPost_ret (v := .tuple #[.slice (some ⟨g, 0, none⟩) l.length vc, .agg #[.int .i64 t.id, .int .i64 t.dy, .int .i64 t.co, .int .i64 t.se, .slice ta ls.length tc], .int .i64 pv, .int .i64 av, .int .i64 bb]) (by simp [results, Try.results95, go_sem, z0, z1, z2, z3, z4]) rfl ?_
            have HO9 := put5_own (t := ⟨t.id, t.dy, t.co, t.se⟩) (ta := ta) (k := ls.length) (tc := tc) HO.out hnOR
            have HH9 := put5_own (t := ⟨t.id, t.dy, t.co, t.se⟩) (ta := ta) (k := ls.length) (tc := tc) HH.out hnHR
            have HB9 := (put5_below (t := ⟨t.id, t.dy, t.co, t.se⟩) (ta := ta) (k := ls.length) (tc := tc) HC hWR).drew
            exact ⟨⟨l, g, vc, ⟨t.id, t.dy, t.co, t.se⟩, ls, ta, tc, pv, av, bb, rfl, own_wider (own_heap HH9 (w1 := World.drew (put5 w9 w.heap.size ⟨t.id, t.dy, t.co, t.se⟩ ta ls.length tc)) rfl) hbH, hw, hl, own_wider (own_heap HO9 (w1 := World.drew (put5 w9 w.heap.size ⟨t.id, t.dy, t.co, t.se⟩ ta ls.length tc)) rfl) hbO, hl2⟩, HB9⟩
        · have b3 : (y == 3) = false := beq_eq_false_iff_ne.2 e3
          have b0 : w7.cell? ⟨B, 0, none⟩ = some (.int .i64 t.id) := cell_at x7 0
          have b1 : w7.cell? ⟨B, 1, none⟩ = some (.int .i64 t.dy) := cell_at x7 1
          have b2 : w7.cell? ⟨B, 2, none⟩ = some (.int .i64 t.co) := cell_at x7 2
          have b3 : w7.cell? ⟨B, 3, none⟩ = some (.int .i64 t.se) := cell_at x7 3
          have b4 : w7.cell? ⟨B, 4, none⟩ = some (.slice ta ls.length tc) := cell_at x7 4
          have z0 : w7.cell? ⟨w.heap.size, 0, none⟩ = some (.int .i64 0) := cell_at m7 0
          have y0 : w7.frozen? ⟨w.heap.size, 0, none⟩ = false := frozen_at m7 0
          have z1 : w7.cell? ⟨w.heap.size, 1, none⟩ = some (.int .i64 0) := cell_at m7 1
          have y1 : w7.frozen? ⟨w.heap.size, 1, none⟩ = false := frozen_at m7 1
          have z2 : w7.cell? ⟨w.heap.size, 2, none⟩ = some (.int .i64 0) := cell_at m7 2
          have y2 : w7.frozen? ⟨w.heap.size, 2, none⟩ = false := frozen_at m7 2
          have z3 : w7.cell? ⟨w.heap.size, 3, none⟩ = some (.int .i64 0) := cell_at m7 3
          have y3 : w7.frozen? ⟨w.heap.size, 3, none⟩ = false := frozen_at m7 3
          have z4 : w7.cell? ⟨w.heap.size, 4, none⟩ = some (.slice none 0 0) := cell_at m7 4
          have y4 : w7.frozen? ⟨w.heap.size, 4, none⟩ = false := frozen_at m7 4
          have HJ : Hid (∀ W, Kb c w7 W → W.heap.size = w7.heap.size → True) := fun _ _ _ => trivial
          have HO : Hid (World.ownsRow _ _ _ _ _ _ _) := O7
          have HH : Hid (World.ownsRow _ _ _ _ _ _ _) := H7
          have HC := C7.below
          have hRB : B ≠ w.heap.size := hBR
          clear m7 x7 O7 H7 HJ
          go_wp2
          go_region
          all_goals
            go_wp2
            refine bodyPost_ret (v := .tuple #[.slice (some ⟨g, 0, none⟩) l.length vc, .agg #[.int .i64 t.id, .int .i64 t.dy, .int .i64 t.co, .int .i64 t.se, .slice ta ls.length tc], .int .i64 5, .int .i64 av, .int .i64 bb]) (by simp [results, Try.results95, go_sem, z0, z1, z2, z3, z4]) rfl ?_
            have HO9 := put5_own (t := ⟨t.id, t.dy, t.co, t.se⟩) (ta := ta) (k := ls.length) (tc := tc) HO.out hnOR
            have HH9 := put5_own (t := ⟨t.id, t.dy, t.co, t.se⟩) (ta := ta) (k := ls.length) (tc := tc) HH.out hnHR
            have HB9 := (put5_below (t := ⟨t.id, t.dy, t.co, t.se⟩) (ta := ta) (k := ls.length) (tc := tc) HC hWR).drew
            exact ⟨⟨l, g, vc, ⟨t.id, t.dy, t.co, t.se⟩, ls, ta, tc, 5, av, bb, rfl, own_wider (own_heap HH9 (w1 := World.drew (put5 w7 w.heap.size ⟨t.id, t.dy, t.co, t.se⟩ ta ls.length tc)) rfl) hbH, hw, hl, own_wider (own_heap HO9 (w1 := World.drew (put5 w7 w.heap.size ⟨t.id, t.dy, t.co, t.se⟩ ta ls.length tc)) rfl) hbO, hl2⟩, HB9⟩

end Se
end Go.Proofs.Ytiollklighmojad

/- Draws for the laws of trains: a train and two stations, a train and a day. -/
import Derived.Test.YtbjojljmgcnpnadCurTn2
namespace Go.Proofs.Ytbjojljmgcnpnad
namespace Tn
open Go.ChangeShapes Go.WideShapes Go.ChangeAt Go.RowKit
open Pk (new_below join_below cell_at heap_new frozen_at lt_of kept heap_old info_of own_form own_below Room)
open Cur (Is Moved Bytes Kb new_any once_any below_any pickInt_any rowOf_new)
set_option linter.unusedSimpArgs false
set_option linter.unusedVariables false

theorem Stops.awayO {w w1 : World} {a : Option Addr} {g : Nat} {l : List St} (h : Stops w a l) (hsz : w1.heap.size = w.heap.size) (hc : ∀ p : Addr, p.block ≠ g → w1.cell? p = w.cell? p) (hne : ∀ b o, a = some ⟨b, o, none⟩ → b ≠ g) : Stops w1 a l := by
  rcases h with h | ⟨b, o, e, hb, hcc⟩
  · exact Or.inl h
  · have hbg := hne b o e
    refine Or.inr ⟨b, o, e, by omega, fun i hi => ?_⟩
    rw [hc ⟨b, o + i * 3, none⟩ hbg, hc ⟨b, o + i * 3 + 1, none⟩ hbg, hc ⟨b, o + i * 3 + 2, none⟩ hbg]
    exact hcc i hi

set_option maxHeartbeats 4000000 in
theorem drawCut (a : Option Addr) (n cap : Nat) (w : World) (hn : n ≤ 1048576) (B : Bytes w a n) :
    Calls Try.prog 6 #[.slice a n cap] w fun e w' => (∃ (h : Hd) (l : List St) (va : Option Addr) (vc : Nat) (x y : Int), e = .returned (.tuple #[trV h va l.length vc, .int .i64 x, .int .i64 y]) ∧ Stops w' va l ∧ l.length ≤ 5) ∧ Below w.heap.size w w' := by
  have N0 := new_below w (Tn.trB ⟨0, 0, 0, 0⟩ none 0 0 26)
  have mR0 := heap_new w (Tn.trB ⟨0, 0, 0, 0⟩ none 0 0 26)
  have B0 := B.on N0
  have hs0 : (w.alloc (Tn.trB ⟨0, 0, 0, 0⟩ none 0 0 26)).heap.size = w.heap.size + 1 := Array.size_push ..
  go_enter Try.func6, Try.ntmps6
  go_wp2_with fail
  refine (new_any _ a n cap hn B0).mono ?_
  rintro e w1 ⟨he, C1⟩
  rw [hs0] at he C1
  subst he
  have mR1 : w1.heap[w.heap.size]? = _ := (C1.below.block _ (by omega)).trans mR0
  have hRc : w.heap.size ≠ w.heap.size + 1 := by omega
  clear mR0 B0 hs0
  go_wp2_with fail
  refine (spoilt_any C1).mono ?_
  rintro e w2 ⟨⟨h, l, va, vc, rfl, S2, hl5, hva⟩, C2, K2⟩
  have mR2 := K2.at hRc mR1
  have hR1 : w.heap.size < w1.heap.size := lt_of mR1
  have hvR : ∀ b o, va = some ⟨b, o, none⟩ → b ≠ w.heap.size := fun b o e => by have := hva b o e; omega
  have hvc : ∀ b o, va = some ⟨b, o, none⟩ → b ≠ w.heap.size + 1 := fun b o e => by have := hva b o e; have := C1.lt; omega
  clear C1 K2 mR1 hva hR1
  have NB := new_below w2 (trB h va l.length vc 26)
  have C3 := C2.alloc (trB h va l.length vc 26)
  have mB3 := heap_new w2 (trB h va l.length vc 26)
  have mR3 := heap_old mR2 (trB h va l.length vc 26)
  have S3 := S2.on NB
  have hBc : w2.heap.size ≠ w.heap.size + 1 := by have := C2.lt; omega
  have hBR : w2.heap.size ≠ w.heap.size := by have := lt_of mR2; omega
  have hRB : w.heap.size ≠ w2.heap.size := fun h => hBR h.symm
  have hn4 : ∀ (x : World) (u v : Value) (k j : Nat), x.cell? ⟨w2.heap.size, j, none⟩ = some u → (x.setCell ⟨w.heap.size, k, none⟩ v).cell? ⟨w2.heap.size, j, none⟩ = some u := fun x u v k j h => by rw [World.cell?_setCell_other _ _ _ _ (by intro h9; simp only [Addr.mk.injEq] at h9; omega)]; exact h
  clear C2 mR2 S2 NB
  go_wp2_with fail
  refine (station_any C3).mono ?_
  rintro e w4 ⟨⟨x, rfl⟩, C4, M4⟩
  have mB4 := (M4.block _ hBc).trans mB3
  have mR4 := (M4.block _ hRc).trans mR3
  have S4 := S3.awayO M4.size (fun p hp => M4.cell hp) hvc
  clear C3 M4 mB3 mR3 S3
  have HBL : Hid (∀ wx, Is (w.alloc (Tn.trB ⟨0, 0, 0, 0⟩ none 0 0 26)) a n cap (w.heap.size + 1) wx → Calls Try.prog 25 #[.pointer (some ⟨w.heap.size + 1, 0, none⟩)] wx fun e w' => (∃ x : Int, e = .returned (.int .i64 x)) ∧ Is (w.alloc (Tn.trB ⟨0, 0, 0, 0⟩ none 0 0 26)) a n cap (w.heap.size + 1) w' ∧ Moved (w.heap.size + 1) wx w') := fun wx h => station_any h
  have c0 : w4.cell? ⟨w2.heap.size, 0, none⟩ = some (.int .i64 h.id) := cell_at mB4 0
  have c1 : w4.cell? ⟨w2.heap.size, 1, none⟩ = some (.int .i64 h.dy) := cell_at mB4 1
  have c2 : w4.cell? ⟨w2.heap.size, 2, none⟩ = some (.int .i64 h.co) := cell_at mB4 2
  have c3 : w4.cell? ⟨w2.heap.size, 3, none⟩ = some (.int .i64 h.se) := cell_at mB4 3
  have c4 : w4.cell? ⟨w2.heap.size, 4, none⟩ = some (.slice va l.length vc) := cell_at mB4 4
  have z0 : w4.cell? ⟨w.heap.size, 0, none⟩ = some (.int .i64 0) := cell_at mR4 0
  have z1 : w4.cell? ⟨w.heap.size, 1, none⟩ = some (.int .i64 0) := cell_at mR4 1
  have z2 : w4.cell? ⟨w.heap.size, 2, none⟩ = some (.int .i64 0) := cell_at mR4 2
  have z3 : w4.cell? ⟨w.heap.size, 3, none⟩ = some (.int .i64 0) := cell_at mR4 3
  have z4 : w4.cell? ⟨w.heap.size, 4, none⟩ = some (.slice none 0 0) := cell_at mR4 4
  have y0 : w4.frozen? ⟨w.heap.size, 0, none⟩ = false := frozen_at mR4 0
  have y1 : w4.frozen? ⟨w.heap.size, 1, none⟩ = false := frozen_at mR4 1
  have y2 : w4.frozen? ⟨w.heap.size, 2, none⟩ = false := frozen_at mR4 2
  have y3 : w4.frozen? ⟨w.heap.size, 3, none⟩ = false := frozen_at mR4 3
  have y4 : w4.frozen? ⟨w.heap.size, 4, none⟩ = false := frozen_at mR4 4
  go_wp2
  go_region_held3 (fun w' => w'.cell? ⟨w2.heap.size, 0, none⟩ = some (.int .i64 h.id) ∧ w'.cell? ⟨w2.heap.size, 1, none⟩ = some (.int .i64 h.dy) ∧ w'.cell? ⟨w2.heap.size, 2, none⟩ = some (.int .i64 h.co) ∧ w'.cell? ⟨w2.heap.size, 3, none⟩ = some (.int .i64 h.se) ∧ w'.cell? ⟨w2.heap.size, 4, none⟩ = some (.slice va l.length vc)) (go_keep) (first
    | (go_at_call 25; refine (HBL.out _ ?_).mono ?_; (first | exact C4 | exact C4.drewN 1); rintro e x9 ⟨⟨y, rfl⟩, C9, M9⟩; have mB9 : x9.heap[w2.heap.size]? = _ := (M9.block _ hBc).trans mB4; have mR9 : x9.heap[w.heap.size]? = _ := (M9.block _ hRc).trans mR4; have S9 : Stops x9 va l := S4.awayO M9.size (fun p hp => M9.cell hp) hvc; have d0 : x9.cell? ⟨w2.heap.size, 0, none⟩ = some (.int .i64 h.id) := cell_at mB9 0; have d1 : x9.cell? ⟨w2.heap.size, 1, none⟩ = some (.int .i64 h.dy) := cell_at mB9 1; have d2 : x9.cell? ⟨w2.heap.size, 2, none⟩ = some (.int .i64 h.co) := cell_at mB9 2; have d3 : x9.cell? ⟨w2.heap.size, 3, none⟩ = some (.int .i64 h.se) := cell_at mB9 3; have d4 : x9.cell? ⟨w2.heap.size, 4, none⟩ = some (.slice va l.length vc) := cell_at mB9 4; have zz0 : x9.cell? ⟨w.heap.size, 0, none⟩ = some (.int .i64 0) := cell_at mR9 0; have zz1 : x9.cell? ⟨w.heap.size, 1, none⟩ = some (.int .i64 0) := cell_at mR9 1; have zz2 : x9.cell? ⟨w.heap.size, 2, none⟩ = some (.int .i64 0) := cell_at mR9 2; have zz3 : x9.cell? ⟨w.heap.size, 3, none⟩ = some (.int .i64 0) := cell_at mR9 3; have zz4 : x9.cell? ⟨w.heap.size, 4, none⟩ = some (.slice none 0 0) := cell_at mR9 4; have yy0 : x9.frozen? ⟨w.heap.size, 0, none⟩ = false := frozen_at mR9 0; have yy1 : x9.frozen? ⟨w.heap.size, 1, none⟩ = false := frozen_at mR9 1; have yy2 : x9.frozen? ⟨w.heap.size, 2, none⟩ = false := frozen_at mR9 2; have yy3 : x9.frozen? ⟨w.heap.size, 3, none⟩ = false := frozen_at mR9 3; have yy4 : x9.frozen? ⟨w.heap.size, 4, none⟩ = false := frozen_at mR9 4))
  all_goals
    have HSF : Hid (∀ W, (∀ p : Addr, p.block ≠ w.heap.size → W.cell? p = x9.cell? p) → W.heap.size = x9.heap.size → Stops W va l) := fun W hc hz => S9.awayO hz hc hvR
    have LF := join_below N0 C9.below
    clear S9 mB9 mR9 c0 c1 c2 c3 c4 z0 z1 z2 z3 z4 y0 y1 y2 y3 y4
    go_wp2
    refine bodyPost_ret (v := .tuple #[trV h va l.length vc, .int .i64 x, .int .i64 y]) (by simp [results, Try.results6, go_sem, zz0, zz1, zz2, zz3, zz4]) rfl ?_
    refine ⟨⟨h, l, va, vc, x, y, rfl, HSF.out _ (fun p hp => by rw [cell_other hp, cell_other hp, cell_other hp, cell_other hp, cell_other hp]) (by simp), hl5⟩, ?_⟩
    (repeat' (first | apply Below.setCell | exact LF)) <;> first | (simp; done) | (simp; omega)

set_option maxHeartbeats 4000000 in
theorem drawRuns (a : Option Addr) (n cap : Nat) (w : World) (hn : n ≤ 1048576) (B : Bytes w a n) :
    Calls Try.prog 9 #[.slice a n cap] w fun e w' => (∃ (h : Hd) (l : List St) (va : Option Addr) (vc : Nat) (x : Int), e = .returned (.tuple #[trV h va l.length vc, .int .i64 x]) ∧ Stops w' va l ∧ l.length ≤ 5) ∧ Below w.heap.size w w' := by
  have N0 := new_below w (Tn.trB ⟨0, 0, 0, 0⟩ none 0 0 26)
  have mR0 := heap_new w (Tn.trB ⟨0, 0, 0, 0⟩ none 0 0 26)
  have B0 := B.on N0
  have hs0 : (w.alloc (Tn.trB ⟨0, 0, 0, 0⟩ none 0 0 26)).heap.size = w.heap.size + 1 := Array.size_push ..
  go_enter Try.func9, Try.ntmps9
  go_wp2_with fail
  refine (new_any _ a n cap hn B0).mono ?_
  rintro e w1 ⟨he, C1⟩
  rw [hs0] at he C1
  subst he
  have mR1 : w1.heap[w.heap.size]? = _ := (C1.below.block _ (by omega)).trans mR0
  have hRc : w.heap.size ≠ w.heap.size + 1 := by omega
  clear mR0 B0 hs0
  go_wp2_with fail
  refine (spoilt_any C1).mono ?_
  rintro e w2 ⟨⟨h, l, va, vc, rfl, S2, hl5, hva⟩, C2, K2⟩
  have mR2 := K2.at hRc mR1
  have hR1 : w.heap.size < w1.heap.size := lt_of mR1
  have hvR : ∀ b o, va = some ⟨b, o, none⟩ → b ≠ w.heap.size := fun b o e => by have := hva b o e; omega
  have hvc : ∀ b o, va = some ⟨b, o, none⟩ → b ≠ w.heap.size + 1 := fun b o e => by have := hva b o e; have := C1.lt; omega
  clear C1 K2 mR1 hva hR1
  have NB := new_below w2 (trB h va l.length vc 26)
  have C3 := C2.alloc (trB h va l.length vc 26)
  have mB3 := heap_new w2 (trB h va l.length vc 26)
  have mR3 := heap_old mR2 (trB h va l.length vc 26)
  have S3 := S2.on NB
  have hBc : w2.heap.size ≠ w.heap.size + 1 := by have := C2.lt; omega
  have hBR : w2.heap.size ≠ w.heap.size := by have := lt_of mR2; omega
  have hRB : w.heap.size ≠ w2.heap.size := fun h => hBR h.symm
  have hn4 : ∀ (x : World) (u v : Value) (k j : Nat), x.cell? ⟨w2.heap.size, j, none⟩ = some u → (x.setCell ⟨w.heap.size, k, none⟩ v).cell? ⟨w2.heap.size, j, none⟩ = some u := fun x u v k j h => by rw [World.cell?_setCell_other _ _ _ _ (by intro h9; simp only [Addr.mk.injEq] at h9; omega)]; exact h
  clear C2 mR2 S2 NB
  go_wp2_with fail
  refine (once_any C3 _).mono ?_
  rintro e w4 ⟨⟨t, rfl⟩, C4, M4⟩
  have mB4 := (M4.block _ hBc).trans mB3
  have mR4 := (M4.block _ hRc).trans mR3
  have S4 := S3.awayO M4.size (fun p hp => M4.cell hp) hvc
  clear C3 M4 mB3 mR3 S3
  cases t
  · have HBL : Hid (∀ wx, Is (w.alloc (Tn.trB ⟨0, 0, 0, 0⟩ none 0 0 26)) a n cap (w.heap.size + 1) wx → Calls Try.prog 30 #[.pointer (some ⟨w.heap.size + 1, 0, none⟩), .int .i64 60] wx fun e w' => (∃ x : Int, e = .returned (.int .i64 x) ∧ 0 ≤ x ∧ (0 < (60 : Int) → x < 60)) ∧ Is (w.alloc (Tn.trB ⟨0, 0, 0, 0⟩ none 0 0 26)) a n cap (w.heap.size + 1) w' ∧ Moved (w.heap.size + 1) wx w') := fun wx h => below_any h 60
    have c0 : w4.cell? ⟨w2.heap.size, 0, none⟩ = some (.int .i64 h.id) := cell_at mB4 0
    have c1 : w4.cell? ⟨w2.heap.size, 1, none⟩ = some (.int .i64 h.dy) := cell_at mB4 1
    have c2 : w4.cell? ⟨w2.heap.size, 2, none⟩ = some (.int .i64 h.co) := cell_at mB4 2
    have c3 : w4.cell? ⟨w2.heap.size, 3, none⟩ = some (.int .i64 h.se) := cell_at mB4 3
    have c4 : w4.cell? ⟨w2.heap.size, 4, none⟩ = some (.slice va l.length vc) := cell_at mB4 4
    have z0 : w4.cell? ⟨w.heap.size, 0, none⟩ = some (.int .i64 0) := cell_at mR4 0
    have z1 : w4.cell? ⟨w.heap.size, 1, none⟩ = some (.int .i64 0) := cell_at mR4 1
    have z2 : w4.cell? ⟨w.heap.size, 2, none⟩ = some (.int .i64 0) := cell_at mR4 2
    have z3 : w4.cell? ⟨w.heap.size, 3, none⟩ = some (.int .i64 0) := cell_at mR4 3
    have z4 : w4.cell? ⟨w.heap.size, 4, none⟩ = some (.slice none 0 0) := cell_at mR4 4
    have y0 : w4.frozen? ⟨w.heap.size, 0, none⟩ = false := frozen_at mR4 0
    have y1 : w4.frozen? ⟨w.heap.size, 1, none⟩ = false := frozen_at mR4 1
    have y2 : w4.frozen? ⟨w.heap.size, 2, none⟩ = false := frozen_at mR4 2
    have y3 : w4.frozen? ⟨w.heap.size, 3, none⟩ = false := frozen_at mR4 3
    have y4 : w4.frozen? ⟨w.heap.size, 4, none⟩ = false := frozen_at mR4 4
    go_wp2
    go_region_held3 (fun w' => w'.cell? ⟨w2.heap.size, 0, none⟩ = some (.int .i64 h.id) ∧ w'.cell? ⟨w2.heap.size, 1, none⟩ = some (.int .i64 h.dy) ∧ w'.cell? ⟨w2.heap.size, 2, none⟩ = some (.int .i64 h.co) ∧ w'.cell? ⟨w2.heap.size, 3, none⟩ = some (.int .i64 h.se) ∧ w'.cell? ⟨w2.heap.size, 4, none⟩ = some (.slice va l.length vc)) (go_keep) (first
      | (go_at_call 30; refine (HBL.out _ ?_).mono ?_; (first | exact C4 | exact C4.drewN 1); rintro e x9 ⟨⟨y, rfl, -, -⟩, C9, M9⟩; have mB9 : x9.heap[w2.heap.size]? = _ := (M9.block _ hBc).trans mB4; have mR9 : x9.heap[w.heap.size]? = _ := (M9.block _ hRc).trans mR4; have S9 : Stops x9 va l := S4.awayO M9.size (fun p hp => M9.cell hp) hvc; have d0 : x9.cell? ⟨w2.heap.size, 0, none⟩ = some (.int .i64 h.id) := cell_at mB9 0; have d1 : x9.cell? ⟨w2.heap.size, 1, none⟩ = some (.int .i64 h.dy) := cell_at mB9 1; have d2 : x9.cell? ⟨w2.heap.size, 2, none⟩ = some (.int .i64 h.co) := cell_at mB9 2; have d3 : x9.cell? ⟨w2.heap.size, 3, none⟩ = some (.int .i64 h.se) := cell_at mB9 3; have d4 : x9.cell? ⟨w2.heap.size, 4, none⟩ = some (.slice va l.length vc) := cell_at mB9 4; have zz0 : x9.cell? ⟨w.heap.size, 0, none⟩ = some (.int .i64 0) := cell_at mR9 0; have zz1 : x9.cell? ⟨w.heap.size, 1, none⟩ = some (.int .i64 0) := cell_at mR9 1; have zz2 : x9.cell? ⟨w.heap.size, 2, none⟩ = some (.int .i64 0) := cell_at mR9 2; have zz3 : x9.cell? ⟨w.heap.size, 3, none⟩ = some (.int .i64 0) := cell_at mR9 3; have zz4 : x9.cell? ⟨w.heap.size, 4, none⟩ = some (.slice none 0 0) := cell_at mR9 4; have yy0 : x9.frozen? ⟨w.heap.size, 0, none⟩ = false := frozen_at mR9 0; have yy1 : x9.frozen? ⟨w.heap.size, 1, none⟩ = false := frozen_at mR9 1; have yy2 : x9.frozen? ⟨w.heap.size, 2, none⟩ = false := frozen_at mR9 2; have yy3 : x9.frozen? ⟨w.heap.size, 3, none⟩ = false := frozen_at mR9 3; have yy4 : x9.frozen? ⟨w.heap.size, 4, none⟩ = false := frozen_at mR9 4))
    all_goals
      have HSF : Hid (∀ W, (∀ p : Addr, p.block ≠ w.heap.size → W.cell? p = x9.cell? p) → W.heap.size = x9.heap.size → Stops W va l) := fun W hc hz => S9.awayO hz hc hvR
      have LF := join_below N0 C9.below
      clear S9 mB9 mR9 c0 c1 c2 c3 c4 z0 z1 z2 z3 z4 y0 y1 y2 y3 y4
      go_wp2
      refine bodyPost_ret (v := .tuple #[trV h va l.length vc, .int .i64 y]) (by simp [results, Try.results9, go_sem, zz0, zz1, zz2, zz3, zz4]) rfl ?_
      refine ⟨⟨h, l, va, vc, y, rfl, HSF.out _ (fun p hp => by rw [cell_other hp, cell_other hp, cell_other hp, cell_other hp, cell_other hp]) (by simp), hl5⟩, ?_⟩
      (repeat' (first | apply Below.setCell | exact LF)) <;> first | (simp; done) | (simp; omega)
  · have NX := new_below w4 (.cells #[.int .i64 (-1), .int .i64 99999, .int .i64 100000] 3)
    have CP := C4.alloc (.cells #[.int .i64 (-1), .int .i64 99999, .int .i64 100000] 3)
    have mBP := kept NX (lt_of mB4) mB4
    have mRP := kept NX (lt_of mR4) mR4
    have SP := S4.on NX
    have hc4 := C4.lt
    have hB4 : w2.heap.size ≠ w4.heap.size := by have := lt_of mB4; omega
    have RP := rowOf_new (fun _ => True) w4 [-1, 99999, 100000] 3 (fun _ _ => trivial)
    have HBL : Hid (∀ wx, Is (w.alloc (Tn.trB ⟨0, 0, 0, 0⟩ none 0 0 26)) a n cap (w.heap.size + 1) wx → Cur.RowOf (fun _ => True) wx w4.heap.size 3 → Calls Try.prog 29 #[.pointer (some ⟨w.heap.size + 1, 0, none⟩), .slice (some ⟨w4.heap.size, 0, none⟩) 3 3] wx fun e w' => (∃ x : Int, e = .returned (.int .i64 x) ∧ True) ∧ Is (w.alloc (Tn.trB ⟨0, 0, 0, 0⟩ none 0 0 26)) a n cap (w.heap.size + 1) w' ∧ Moved (w.heap.size + 1) wx w') := fun wx h R => pickInt_any h (fun _ => True) w4.heap.size 3 3 (by omega) (by omega) (by omega) R
    have c0 : w4.cell? ⟨w2.heap.size, 0, none⟩ = some (.int .i64 h.id) := cell_at mB4 0
    have c1 : w4.cell? ⟨w2.heap.size, 1, none⟩ = some (.int .i64 h.dy) := cell_at mB4 1
    have c2 : w4.cell? ⟨w2.heap.size, 2, none⟩ = some (.int .i64 h.co) := cell_at mB4 2
    have c3 : w4.cell? ⟨w2.heap.size, 3, none⟩ = some (.int .i64 h.se) := cell_at mB4 3
    have c4 : w4.cell? ⟨w2.heap.size, 4, none⟩ = some (.slice va l.length vc) := cell_at mB4 4
    have z0 : w4.cell? ⟨w.heap.size, 0, none⟩ = some (.int .i64 0) := cell_at mR4 0
    have z1 : w4.cell? ⟨w.heap.size, 1, none⟩ = some (.int .i64 0) := cell_at mR4 1
    have z2 : w4.cell? ⟨w.heap.size, 2, none⟩ = some (.int .i64 0) := cell_at mR4 2
    have z3 : w4.cell? ⟨w.heap.size, 3, none⟩ = some (.int .i64 0) := cell_at mR4 3
    have z4 : w4.cell? ⟨w.heap.size, 4, none⟩ = some (.slice none 0 0) := cell_at mR4 4
    have y0 : w4.frozen? ⟨w.heap.size, 0, none⟩ = false := frozen_at mR4 0
    have y1 : w4.frozen? ⟨w.heap.size, 1, none⟩ = false := frozen_at mR4 1
    have y2 : w4.frozen? ⟨w.heap.size, 2, none⟩ = false := frozen_at mR4 2
    have y3 : w4.frozen? ⟨w.heap.size, 3, none⟩ = false := frozen_at mR4 3
    have y4 : w4.frozen? ⟨w.heap.size, 4, none⟩ = false := frozen_at mR4 4
    go_wp2
    go_region_held3 (fun w' => w'.cell? ⟨w2.heap.size, 0, none⟩ = some (.int .i64 h.id) ∧ w'.cell? ⟨w2.heap.size, 1, none⟩ = some (.int .i64 h.dy) ∧ w'.cell? ⟨w2.heap.size, 2, none⟩ = some (.int .i64 h.co) ∧ w'.cell? ⟨w2.heap.size, 3, none⟩ = some (.int .i64 h.se) ∧ w'.cell? ⟨w2.heap.size, 4, none⟩ = some (.slice va l.length vc)) (go_keep) (first
      | (go_at_call 29; refine (HBL.out _ ?_ ?_).mono ?_; (first | exact CP | exact CP.drewN 1); (exact RP); rintro e x9 ⟨⟨y, rfl, -⟩, C9, M9⟩; have mB9 : x9.heap[w2.heap.size]? = _ := (M9.block _ hBc).trans mBP; have mR9 : x9.heap[w.heap.size]? = _ := (M9.block _ hRc).trans mRP; have S9 : Stops x9 va l := SP.awayO M9.size (fun p hp => M9.cell hp) hvc; have d0 : x9.cell? ⟨w2.heap.size, 0, none⟩ = some (.int .i64 h.id) := cell_at mB9 0; have d1 : x9.cell? ⟨w2.heap.size, 1, none⟩ = some (.int .i64 h.dy) := cell_at mB9 1; have d2 : x9.cell? ⟨w2.heap.size, 2, none⟩ = some (.int .i64 h.co) := cell_at mB9 2; have d3 : x9.cell? ⟨w2.heap.size, 3, none⟩ = some (.int .i64 h.se) := cell_at mB9 3; have d4 : x9.cell? ⟨w2.heap.size, 4, none⟩ = some (.slice va l.length vc) := cell_at mB9 4; have zz0 : x9.cell? ⟨w.heap.size, 0, none⟩ = some (.int .i64 0) := cell_at mR9 0; have zz1 : x9.cell? ⟨w.heap.size, 1, none⟩ = some (.int .i64 0) := cell_at mR9 1; have zz2 : x9.cell? ⟨w.heap.size, 2, none⟩ = some (.int .i64 0) := cell_at mR9 2; have zz3 : x9.cell? ⟨w.heap.size, 3, none⟩ = some (.int .i64 0) := cell_at mR9 3; have zz4 : x9.cell? ⟨w.heap.size, 4, none⟩ = some (.slice none 0 0) := cell_at mR9 4; have yy0 : x9.frozen? ⟨w.heap.size, 0, none⟩ = false := frozen_at mR9 0; have yy1 : x9.frozen? ⟨w.heap.size, 1, none⟩ = false := frozen_at mR9 1; have yy2 : x9.frozen? ⟨w.heap.size, 2, none⟩ = false := frozen_at mR9 2; have yy3 : x9.frozen? ⟨w.heap.size, 3, none⟩ = false := frozen_at mR9 3; have yy4 : x9.frozen? ⟨w.heap.size, 4, none⟩ = false := frozen_at mR9 4))
    all_goals
      have HSF : Hid (∀ W, (∀ p : Addr, p.block ≠ w.heap.size → W.cell? p = x9.cell? p) → W.heap.size = x9.heap.size → Stops W va l) := fun W hc hz => S9.awayO hz hc hvR
      have LF := join_below N0 C9.below
      clear S9 mB9 mR9 c0 c1 c2 c3 c4 z0 z1 z2 z3 z4 y0 y1 y2 y3 y4
      go_wp2
      refine bodyPost_ret (v := .tuple #[trV h va l.length vc, .int .i64 y]) (by simp [results, Try.results9, go_sem, zz0, zz1, zz2, zz3, zz4]) rfl ?_
      refine ⟨⟨h, l, va, vc, y, rfl, HSF.out _ (fun p hp => by rw [cell_other hp, cell_other hp, cell_other hp, cell_other hp, cell_other hp]) (by simp), hl5⟩, ?_⟩
      (repeat' (first | apply Below.setCell | exact LF)) <;> first | (simp; done) | (simp; omega)

end Tn
end Go.Proofs.Ytbjojljmgcnpnad

/- Contracts of the draws of chapter 2: the walks of spoilt parameters, and of what is verified. -/
import Derived.Test.YtllmmelnkkmfoabDoorCurVer
namespace Go.Proofs.YtllmmelnkkmfoabDoor
namespace Cur
open Go.ChangeShapes Go.WideShapes Go.ChangeAt Go.RowKit
open Num (pv mv pb mb sv signV keyI keyB okP)
set_option linter.unusedSimpArgs false
set_option linter.unusedVariables false

set_option maxHeartbeats 2000000 in
theorem spoilt_any {W0 : World} {a : Option Addr} {n cap c : Nat} {w : World} (C : Is W0 a n cap c w) :
    Calls Tryd.prog 48 #[.pointer (some ⟨c, 0, none⟩)] w fun e w' => (∃ p q g, e = .returned (pv p q g)) ∧ Is W0 a n cap c w' ∧ Kb c w w' := by
  have hlt := C.lt
  have hge := C.below.size
  go_enter Tryd.func48, Tryd.ntmps48
  go_wp2_with fail
  refine (params_any (C.alloc _)).mono ?_
  rintro e w1 ⟨⟨p, q, g, rfl, hL⟩, C1, K1⟩
  have hb := listed_bd hL
  have m1 := K1.at (show w.heap.size ≠ c by omega) (Num.heap_new w _)
  have K2 : Kb c w w1 := ((Kb.refl c w).alloc _).trans K1
  have hRP0 : w.heap.size < w1.heap.size := (Array.getElem?_eq_some_iff.1 m1).1
  have hc1 := C1.lt
  have mP0 := Num.heap_new w1 (pb p q g)
  have mR0 := Num.heap_old m1 (pb p q g)
  have C2 := C1.alloc (pb p q g)
  have K2' := K2.alloc (pb p q g)
  clear hL m1 C1 K1 K2
  go_wp2_with fail
  refine (below_any C2 _).mono ?_
  rintro e w3 ⟨⟨z, rfl, hz0, hz1⟩, C3, M3⟩
  have hz2 := hz1 (by omega)
  have mP := (M3.block w1.heap.size (by omega)).trans mP0
  have mR := (M3.block w.heap.size (by omega)).trans mR0
  have K3 := K2'.trans (Kb.moved M3)
  clear hz1 mP0 mR0 K2' C2 M3
  generalize w1.heap.size = P at *
  have hPR : ¬ P = w.heap.size := by omega
  have hRP : ¬ w.heap.size = P := by omega
  have q0 : w3.cell? ⟨P, 0, none⟩ = some (.int .i64 p) := cs_cell mP 0
  have q1 : w3.cell? ⟨P, 1, none⟩ = some (.int .i64 q) := cs_cell mP 1
  by_cases z0 : z = 0
  · subst z0
    have RW := row_any w3 [p + 2, 0, 15, 1009] (fun _ => True) (fun _ _ => trivial)
    have C4 := C3.alloc (.cells (([p + 2, 0, 15, 1009] : List Int).map (Value.int .i64)).toArray 3)
    have N4 : Below w3.heap.size w3 (w3.alloc (.cells (([p + 2, 0, 15, 1009] : List Int).map (Value.int .i64)).toArray 3)) := (Below.refl _ _).alloc (Nat.le_refl _) _
    have mP4 := Num.kept_new N4 mP
    have mR4 := Num.kept_new N4 mR
    have K4 := K3.trans (Kb.of c N4)
    have hc3 := C3.lt
    clear mP mR C3 K3 N4
    have a0 : w3.cell? ⟨P, 0, none⟩ = some (.int .i64 p) := q0
    have a1 : w3.cell? ⟨P, 1, none⟩ = some (.int .i64 q) := q1
    go_wp2_with fail
    refine (pickInt_any C4 (fun _ => True) w3.heap.size 4 4 (by omega) (by omega) (by omega) RW).mono ?_
    rintro e w5 ⟨⟨u, rfl, -⟩, C5, M5⟩
    have mP := (M5.block P (by omega)).trans mP4
    have mR := (M5.block w.heap.size (by omega)).trans mR4
    have K5 := K4.trans (Kb.moved M5)
    clear mP4 mR4 K4 C4 M5 a0 a1 q0 q1 RW
    have a0 : w5.cell? ⟨P, 0, none⟩ = some (.int .i64 p) := cs_cell mP 0
    have a1 : w5.cell? ⟨P, 1, none⟩ = some (.int .i64 q) := cs_cell mP 1
    have a2 : w5.cell? ⟨P, 2, none⟩ = some (.int .i64 g) := cs_cell mP 2
    have b0 : w5.cell? ⟨w.heap.size, 0, none⟩ = some (.int .i64 0) := cs_cell mR 0
    have b1 : w5.cell? ⟨w.heap.size, 1, none⟩ = some (.int .i64 0) := cs_cell mR 1
    have b2 : w5.cell? ⟨w.heap.size, 2, none⟩ = some (.int .i64 0) := cs_cell mR 2
    have f0 := cs_frozen mR 0
    have f1 := cs_frozen mR 1
    have f2 := cs_frozen mR 2
    have g0 := cs_frozen mP 0
    have g1 := cs_frozen mP 1
    have g2 := cs_frozen mP 2
    clear mP mR
    go_wp2
    refine bodyPost_ret (v := pv u q g) (by simp [results, Tryd.results48, go_sem, b0, b1, b2, hPR, hRP]) rfl ?_
    exact ⟨⟨_, _, _, rfl⟩, (((C5.set P _ _ (by omega) (by omega)).set w.heap.size _ _ (by omega) hge).set w.heap.size _ _ (by omega) hge).set w.heap.size _ _ (by omega) hge, (((K5.set P _ _ (by omega)).set w.heap.size _ _ (Nat.le_refl _)).set w.heap.size _ _ (Nat.le_refl _)).set w.heap.size _ _ (Nat.le_refl _)⟩
  by_cases z1 : z = 1
  · subst z1
    have RW := row_any w3 [q + 2, 97, 0, 103] (fun _ => True) (fun _ _ => trivial)
    have C4 := C3.alloc (.cells (([q + 2, 97, 0, 103] : List Int).map (Value.int .i64)).toArray 3)
    have N4 : Below w3.heap.size w3 (w3.alloc (.cells (([q + 2, 97, 0, 103] : List Int).map (Value.int .i64)).toArray 3)) := (Below.refl _ _).alloc (Nat.le_refl _) _
    have mP4 := Num.kept_new N4 mP
    have mR4 := Num.kept_new N4 mR
    have K4 := K3.trans (Kb.of c N4)
    have hc3 := C3.lt
    clear mP mR C3 K3 N4
    have a0 : w3.cell? ⟨P, 0, none⟩ = some (.int .i64 p) := q0
    have a1 : w3.cell? ⟨P, 1, none⟩ = some (.int .i64 q) := q1
    go_wp2_with fail
    refine (pickInt_any C4 (fun _ => True) w3.heap.size 4 4 (by omega) (by omega) (by omega) RW).mono ?_
    rintro e w5 ⟨⟨u, rfl, -⟩, C5, M5⟩
    have mP := (M5.block P (by omega)).trans mP4
    have mR := (M5.block w.heap.size (by omega)).trans mR4
    have K5 := K4.trans (Kb.moved M5)
    clear mP4 mR4 K4 C4 M5 a0 a1 q0 q1 RW
    have a0 : w5.cell? ⟨P, 0, none⟩ = some (.int .i64 p) := cs_cell mP 0
    have a1 : w5.cell? ⟨P, 1, none⟩ = some (.int .i64 q) := cs_cell mP 1
    have a2 : w5.cell? ⟨P, 2, none⟩ = some (.int .i64 g) := cs_cell mP 2
    have b0 : w5.cell? ⟨w.heap.size, 0, none⟩ = some (.int .i64 0) := cs_cell mR 0
    have b1 : w5.cell? ⟨w.heap.size, 1, none⟩ = some (.int .i64 0) := cs_cell mR 1
    have b2 : w5.cell? ⟨w.heap.size, 2, none⟩ = some (.int .i64 0) := cs_cell mR 2
    have f0 := cs_frozen mR 0
    have f1 := cs_frozen mR 1
    have f2 := cs_frozen mR 2
    have g0 := cs_frozen mP 0
    have g1 := cs_frozen mP 1
    have g2 := cs_frozen mP 2
    clear mP mR
    go_wp2
    refine bodyPost_ret (v := pv p u g) (by simp [results, Tryd.results48, go_sem, b0, b1, b2, hPR, hRP]) rfl ?_
    exact ⟨⟨_, _, _, rfl⟩, (((C5.set P _ _ (by omega) (by omega)).set w.heap.size _ _ (by omega) hge).set w.heap.size _ _ (by omega) hge).set w.heap.size _ _ (by omega) hge, (((K5.set P _ _ (by omega)).set w.heap.size _ _ (Nat.le_refl _)).set w.heap.size _ _ (Nat.le_refl _)).set w.heap.size _ _ (Nat.le_refl _)⟩
  by_cases z2 : z = 2
  · subst z2
    have RW := row_any w3 [0, 1, p, p - 1, 2] (fun _ => True) (fun _ _ => trivial)
    have C4 := C3.alloc (.cells (([0, 1, p, p - 1, 2] : List Int).map (Value.int .i64)).toArray 3)
    have N4 : Below w3.heap.size w3 (w3.alloc (.cells (([0, 1, p, p - 1, 2] : List Int).map (Value.int .i64)).toArray 3)) := (Below.refl _ _).alloc (Nat.le_refl _) _
    have mP4 := Num.kept_new N4 mP
    have mR4 := Num.kept_new N4 mR
    have K4 := K3.trans (Kb.of c N4)
    have hc3 := C3.lt
    clear mP mR C3 K3 N4
    have a0 : w3.cell? ⟨P, 0, none⟩ = some (.int .i64 p) := q0
    have a1 : w3.cell? ⟨P, 1, none⟩ = some (.int .i64 q) := q1
    go_wp2_with fail
    refine (pickInt_any C4 (fun _ => True) w3.heap.size 5 5 (by omega) (by omega) (by omega) RW).mono ?_
    rintro e w5 ⟨⟨u, rfl, -⟩, C5, M5⟩
    have mP := (M5.block P (by omega)).trans mP4
    have mR := (M5.block w.heap.size (by omega)).trans mR4
    have K5 := K4.trans (Kb.moved M5)
    clear mP4 mR4 K4 C4 M5 a0 a1 q0 q1 RW
    have a0 : w5.cell? ⟨P, 0, none⟩ = some (.int .i64 p) := cs_cell mP 0
    have a1 : w5.cell? ⟨P, 1, none⟩ = some (.int .i64 q) := cs_cell mP 1
    have a2 : w5.cell? ⟨P, 2, none⟩ = some (.int .i64 g) := cs_cell mP 2
    have b0 : w5.cell? ⟨w.heap.size, 0, none⟩ = some (.int .i64 0) := cs_cell mR 0
    have b1 : w5.cell? ⟨w.heap.size, 1, none⟩ = some (.int .i64 0) := cs_cell mR 1
    have b2 : w5.cell? ⟨w.heap.size, 2, none⟩ = some (.int .i64 0) := cs_cell mR 2
    have f0 := cs_frozen mR 0
    have f1 := cs_frozen mR 1
    have f2 := cs_frozen mR 2
    have g0 := cs_frozen mP 0
    have g1 := cs_frozen mP 1
    have g2 := cs_frozen mP 2
    clear mP mR
    go_wp2
    refine bodyPost_ret (v := pv p q u) (by simp [results, Tryd.results48, go_sem, b0, b1, b2, hPR, hRP]) rfl ?_
    exact ⟨⟨_, _, _, rfl⟩, (((C5.set P _ _ (by omega) (by omega)).set w.heap.size _ _ (by omega) hge).set w.heap.size _ _ (by omega) hge).set w.heap.size _ _ (by omega) hge, (((K5.set P _ _ (by omega)).set w.heap.size _ _ (Nat.le_refl _)).set w.heap.size _ _ (Nat.le_refl _)).set w.heap.size _ _ (Nat.le_refl _)⟩
  have y0 : (z == 0) = false := beq_eq_false_iff_ne.2 z0
  have y1 : (z == 1) = false := beq_eq_false_iff_ne.2 z1
  have y2 : (z == 2) = false := beq_eq_false_iff_ne.2 z2
  clear z0 z1 z2 q0 q1
  have a0 : w3.cell? ⟨P, 0, none⟩ = some (.int .i64 p) := cs_cell mP 0
  have a1 : w3.cell? ⟨P, 1, none⟩ = some (.int .i64 q) := cs_cell mP 1
  have a2 : w3.cell? ⟨P, 2, none⟩ = some (.int .i64 g) := cs_cell mP 2
  have b0 : w3.cell? ⟨w.heap.size, 0, none⟩ = some (.int .i64 0) := cs_cell mR 0
  have b1 : w3.cell? ⟨w.heap.size, 1, none⟩ = some (.int .i64 0) := cs_cell mR 1
  have b2 : w3.cell? ⟨w.heap.size, 2, none⟩ = some (.int .i64 0) := cs_cell mR 2
  have f0 := cs_frozen mR 0
  have f1 := cs_frozen mR 1
  have f2 := cs_frozen mR 2
  have g0 := cs_frozen mP 0
  have g1 := cs_frozen mP 1
  have g2 := cs_frozen mP 2
  clear mP mR
  go_wp2
  refine bodyPost_ret (v := pv p q g) (by simp [results, Tryd.results48, go_sem, b0, b1, b2, hPR, hRP]) rfl ?_
  exact ⟨⟨_, _, _, rfl⟩, ((C3.set w.heap.size _ _ (by omega) hge).set w.heap.size _ _ (by omega) hge).set w.heap.size _ _ (by omega) hge, ((K3.set w.heap.size _ _ (Nat.le_refl _)).set w.heap.size _ _ (Nat.le_refl _)).set w.heap.size _ _ (Nat.le_refl _)⟩

end Cur
end Go.Proofs.YtllmmelnkkmfoabDoor

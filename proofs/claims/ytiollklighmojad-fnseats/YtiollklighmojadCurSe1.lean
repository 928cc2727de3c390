/- Draws for the laws of seats: a train with seats that runs every day. -/
import Derived.Test.YtiollklighmojadCurTnB
import Derived.Test.YtiollklighmojadSeTake
import Derived.Test.YtiollklighmojadSeSeats
namespace Go.Proofs.Ytiollklighmojad
namespace Se
open Go.ChangeShapes Go.WideShapes Go.ChangeAt Go.RowKit
open Tn (Hd St trV trB Stops scells own_kb own_other)
open Pk (new_below join_below cell_at heap_new frozen_at lt_of kept heap_old info_of own_form own_below Room)
open Cur (Is Moved Bytes Kb new_any once_any below_any pickInt_any rowOf_new)
set_option linter.unusedSimpArgs false
set_option linter.unusedVariables false

set_option maxRecDepth 100000 in
set_option maxHeartbeats 6000000 in
theorem train8_any {W0 : World} {a : Option Addr} {n cap c : Nat} {w : World} (C : Is W0 a n cap c w) :
    Calls Try.prog 112 #[.pointer (some ⟨c, 0, none⟩)] w fun e w' => (∃ (h : Hd) (l : List St) (va : Option Addr) (vc : Nat), e = .returned (trV h va l.length vc) ∧ (1 ≤ h.id ∧ h.id ≤ 3) ∧ (1 ≤ h.co ∧ h.co ≤ 2 ∧ 1 ≤ h.se ∧ h.se ≤ 3) ∧ w'.ownsRow w.heap.size 37 3 (.slice va l.length vc) l.length (scells l) ∧ 2 ≤ l.length ∧ l.length ≤ 5) ∧ Is W0 a n cap c w' ∧ Kb c w w' := by
  have mR0 := heap_new w (trB ⟨0, 0, 0, 0⟩ none 0 0 26)
  have C0 := C.alloc (trB ⟨0, 0, 0, 0⟩ none 0 0 26)
  have hcw := C.lt
  have hW0 : W0.heap.size ≤ w.heap.size := C.below.size
  have K0 : Kb c w (w.alloc (trB ⟨0, 0, 0, 0⟩ none 0 0 26)) := (Kb.refl c w).alloc _
  have hRc : w.heap.size ≠ c := by omega
  go_enter Try.func112, Try.ntmps112
  go_wp2_with fail
  refine (below_any C0 _).mono ?_
  rintro e w1 ⟨⟨x1, rfl, hx1, hy1⟩, C1, M1⟩
  have hx2 := hy1 (by omega)
  have mR1 := (M1.block _ hRc).trans mR0
  have K1 := K0.trans (Kb.moved M1)
  clear C0 mR0 K0 M1 hy1
  go_wp2_with fail
  refine (Tn.train_bd C1 (1 + x1)).mono ?_
  rintro e w2 ⟨⟨h, l, va, vc, rfl, hid, O2, hl1, hl2, hbd⟩, C2, K2⟩
  obtain ⟨id, dy, co, se⟩ := h
  simp only at hid hbd
  have hi1 : 1 ≤ id := by omega
  have hi2 : id ≤ 3 := by omega
  have K12 := K1.trans K2
  have mR2 := K2.at hRc mR1
  have hRB : w.heap.size < w2.heap.size := lt_of mR2
  have O2 := own_wider O2 K1.size
  clear C1 K1 K2 mR1 hid hx1 hx2
  rcases hbd with ⟨rfl, rfl⟩ | hbd
  · have oR := Pk.own_ne' O2 mR2 (by decide)
    have z0 := cell_at mR2 0
    have y0 := frozen_at mR2 0
    have z1 := cell_at mR2 1
    have y1 := frozen_at mR2 1
    have z2 := cell_at mR2 2
    have y2 := frozen_at mR2 2
    have z3 := cell_at mR2 3
    have y3 := frozen_at mR2 3
    have z4 := cell_at mR2 4
    have y4 := frozen_at mR2 4
    simp only [List.getElem?_toArray, List.getElem?_cons_succ, List.getElem?_cons_zero] at z0 z1 z2 z3 z4
    have mF := heap_old (Tn.h_set (i := 4) (Tn.h_set (i := 3) (Tn.h_set (i := 2) (Tn.h_set (i := 1) (Tn.h_set (i := 0) mR2 (.int .i64 id)) (.int .i64 127)) (.int .i64 1)) (.int .i64 2)) (.slice va l.length vc)) (trB ⟨id, 127, 1, 2⟩ va l.length vc 26)
    have V0 : Hid (((((((w2.setCell ⟨w.heap.size, 0, none⟩ (.int .i64 id)).setCell ⟨w.heap.size, 1, none⟩ (.int .i64 127)).setCell ⟨w.heap.size, 2, none⟩ (.int .i64 1)).setCell ⟨w.heap.size, 3, none⟩ (.int .i64 2)).setCell ⟨w.heap.size, 4, none⟩ (.slice va l.length vc)).alloc (trB ⟨id, 127, 1, 2⟩ va l.length vc 26)).cell? ⟨w.heap.size, 0, none⟩ = some (.int .i64 id)) := (cell_at mF 0).trans rfl
    have V1 : Hid (((((((w2.setCell ⟨w.heap.size, 0, none⟩ (.int .i64 id)).setCell ⟨w.heap.size, 1, none⟩ (.int .i64 127)).setCell ⟨w.heap.size, 2, none⟩ (.int .i64 1)).setCell ⟨w.heap.size, 3, none⟩ (.int .i64 2)).setCell ⟨w.heap.size, 4, none⟩ (.slice va l.length vc)).alloc (trB ⟨id, 127, 1, 2⟩ va l.length vc 26)).cell? ⟨w.heap.size, 1, none⟩ = some (.int .i64 127)) := (cell_at mF 1).trans rfl
    have V2 : Hid (((((((w2.setCell ⟨w.heap.size, 0, none⟩ (.int .i64 id)).setCell ⟨w.heap.size, 1, none⟩ (.int .i64 127)).setCell ⟨w.heap.size, 2, none⟩ (.int .i64 1)).setCell ⟨w.heap.size, 3, none⟩ (.int .i64 2)).setCell ⟨w.heap.size, 4, none⟩ (.slice va l.length vc)).alloc (trB ⟨id, 127, 1, 2⟩ va l.length vc 26)).cell? ⟨w.heap.size, 2, none⟩ = some (.int .i64 1)) := (cell_at mF 2).trans rfl
    have V3 : Hid (((((((w2.setCell ⟨w.heap.size, 0, none⟩ (.int .i64 id)).setCell ⟨w.heap.size, 1, none⟩ (.int .i64 127)).setCell ⟨w.heap.size, 2, none⟩ (.int .i64 1)).setCell ⟨w.heap.size, 3, none⟩ (.int .i64 2)).setCell ⟨w.heap.size, 4, none⟩ (.slice va l.length vc)).alloc (trB ⟨id, 127, 1, 2⟩ va l.length vc 26)).cell? ⟨w.heap.size, 3, none⟩ = some (.int .i64 2)) := (cell_at mF 3).trans rfl
    have V4 : Hid (((((((w2.setCell ⟨w.heap.size, 0, none⟩ (.int .i64 id)).setCell ⟨w.heap.size, 1, none⟩ (.int .i64 127)).setCell ⟨w.heap.size, 2, none⟩ (.int .i64 1)).setCell ⟨w.heap.size, 3, none⟩ (.int .i64 2)).setCell ⟨w.heap.size, 4, none⟩ (.slice va l.length vc)).alloc (trB ⟨id, 127, 1, 2⟩ va l.length vc 26)).cell? ⟨w.heap.size, 4, none⟩ = some (.slice va l.length vc)) := (cell_at mF 4).trans rfl
    have HOF : Hid (World.ownsRow _ _ _ _ _ _ _) := own_below (own_other (own_other (own_other (own_other (own_other O2 oR 0 (.int .i64 id)) oR 1 (.int .i64 127)) oR 2 (.int .i64 1)) oR 3 (.int .i64 2)) oR 4 (.slice va l.length vc)) (new_below _ (trB ⟨id, 127, 1, 2⟩ va l.length vc 26)) (Nat.le_refl _)
    have HCF : Hid (Is _ _ _ _ _ _) := (((((C2.set w.heap.size 0 (.int .i64 id) hRc hW0).set w.heap.size 1 (.int .i64 127) hRc hW0).set w.heap.size 2 (.int .i64 1) hRc hW0).set w.heap.size 3 (.int .i64 2) hRc hW0).set w.heap.size 4 (.slice va l.length vc) hRc hW0).alloc (trB ⟨id, 127, 1, 2⟩ va l.length vc 26)
    have HKF : Hid (Kb _ _ _) := (((((K12.set w.heap.size 0 (.int .i64 id) (Nat.le_refl _)).set w.heap.size 1 (.int .i64 127) (Nat.le_refl _)).set w.heap.size 2 (.int .i64 1) (Nat.le_refl _)).set w.heap.size 3 (.int .i64 2) (Nat.le_refl _)).set w.heap.size 4 (.slice va l.length vc) (Nat.le_refl _)).alloc (trB ⟨id, 127, 1, 2⟩ va l.length vc 26)
    clear mF
    clear C2 K12 mR2 O2 oR
    go_wp2
    have v0 := V0.out
    have v1 := V1.out
    have v2 := V2.out
    have v3 := V3.out
    have v4 := V4.out
    clear z0 z1 z2 z3 z4 y0 y1 y2 y3 y4
    refine bodyPost_ret (v := trV ⟨id, 127, 1, 2⟩ va l.length vc) (by simp [results, Try.results112, go_sem, v0, v1, v2, v3, v4]) rfl ?_
    refine ⟨⟨⟨id, 127, 1, 2⟩, l, va, vc, rfl, ⟨hi1, hi2⟩, ⟨show (1 : Int) ≤ 1 by omega, show (1 : Int) ≤ 2 by omega, show (1 : Int) ≤ 2 by omega, show (2 : Int) ≤ 3 by omega⟩, ?_, hl1, hl2⟩, ?_, ?_⟩
    · with_reducible exact HOF.out
    · with_reducible exact HCF.out
    · with_reducible exact HKF.out
  · have hc0 : (co == 0) = false := beq_eq_false_iff_ne.2 (by omega)
    have oR := Pk.own_ne' O2 mR2 (by decide)
    have z0 := cell_at mR2 0
    have y0 := frozen_at mR2 0
    have z1 := cell_at mR2 1
    have y1 := frozen_at mR2 1
    have z2 := cell_at mR2 2
    have y2 := frozen_at mR2 2
    have z3 := cell_at mR2 3
    have y3 := frozen_at mR2 3
    have z4 := cell_at mR2 4
    have y4 := frozen_at mR2 4
    simp only [List.getElem?_toArray, List.getElem?_cons_succ, List.getElem?_cons_zero] at z0 z1 z2 z3 z4
    have mF := heap_old (Tn.h_set (i := 4) (Tn.h_set (i := 3) (Tn.h_set (i := 2) (Tn.h_set (i := 1) (Tn.h_set (i := 0) mR2 (.int .i64 id)) (.int .i64 127)) (.int .i64 co)) (.int .i64 se)) (.slice va l.length vc)) (trB ⟨id, 127, co, se⟩ va l.length vc 26)
    have V0 : Hid (((((((w2.setCell ⟨w.heap.size, 0, none⟩ (.int .i64 id)).setCell ⟨w.heap.size, 1, none⟩ (.int .i64 127)).setCell ⟨w.heap.size, 2, none⟩ (.int .i64 co)).setCell ⟨w.heap.size, 3, none⟩ (.int .i64 se)).setCell ⟨w.heap.size, 4, none⟩ (.slice va l.length vc)).alloc (trB ⟨id, 127, co, se⟩ va l.length vc 26)).cell? ⟨w.heap.size, 0, none⟩ = some (.int .i64 id)) := (cell_at mF 0).trans rfl
    have V1 : Hid (((((((w2.setCell ⟨w.heap.size, 0, none⟩ (.int .i64 id)).setCell ⟨w.heap.size, 1, none⟩ (.int .i64 127)).setCell ⟨w.heap.size, 2, none⟩ (.int .i64 co)).setCell ⟨w.heap.size, 3, none⟩ (.int .i64 se)).setCell ⟨w.heap.size, 4, none⟩ (.slice va l.length vc)).alloc (trB ⟨id, 127, co, se⟩ va l.length vc 26)).cell? ⟨w.heap.size, 1, none⟩ = some (.int .i64 127)) := (cell_at mF 1).trans rfl
    have V2 : Hid (((((((w2.setCell ⟨w.heap.size, 0, none⟩ (.int .i64 id)).setCell ⟨w.heap.size, 1, none⟩ (.int .i64 127)).setCell ⟨w.heap.size, 2, none⟩ (.int .i64 co)).setCell ⟨w.heap.size, 3, none⟩ (.int .i64 se)).setCell ⟨w.heap.size, 4, none⟩ (.slice va l.length vc)).alloc (trB ⟨id, 127, co, se⟩ va l.length vc 26)).cell? ⟨w.heap.size, 2, none⟩ = some (.int .i64 co)) := (cell_at mF 2).trans rfl
    have V3 : Hid (((((((w2.setCell ⟨w.heap.size, 0, none⟩ (.int .i64 id)).setCell ⟨w.heap.size, 1, none⟩ (.int .i64 127)).setCell ⟨w.heap.size, 2, none⟩ (.int .i64 co)).setCell ⟨w.heap.size, 3, none⟩ (.int .i64 se)).setCell ⟨w.heap.size, 4, none⟩ (.slice va l.length vc)).alloc (trB ⟨id, 127, co, se⟩ va l.length vc 26)).cell? ⟨w.heap.size, 3, none⟩ = some (.int .i64 se)) := (cell_at mF 3).trans rfl
    have V4 : Hid (((((((w2.setCell ⟨w.heap.size, 0, none⟩ (.int .i64 id)).setCell ⟨w.heap.size, 1, none⟩ (.int .i64 127)).setCell ⟨w.heap.size, 2, none⟩ (.int .i64 co)).setCell ⟨w.heap.size, 3, none⟩ (.int .i64 se)).setCell ⟨w.heap.size, 4, none⟩ (.slice va l.length vc)).alloc (trB ⟨id, 127, co, se⟩ va l.length vc 26)).cell? ⟨w.heap.size, 4, none⟩ = some (.slice va l.length vc)) := (cell_at mF 4).trans rfl
    have HOF : Hid (World.ownsRow _ _ _ _ _ _ _) := own_below (own_other (own_other (own_other (own_other (own_other O2 oR 0 (.int .i64 id)) oR 1 (.int .i64 127)) oR 2 (.int .i64 co)) oR 3 (.int .i64 se)) oR 4 (.slice va l.length vc)) (new_below _ (trB ⟨id, 127, co, se⟩ va l.length vc 26)) (Nat.le_refl _)
    have HCF : Hid (Is _ _ _ _ _ _) := (((((C2.set w.heap.size 0 (.int .i64 id) hRc hW0).set w.heap.size 1 (.int .i64 127) hRc hW0).set w.heap.size 2 (.int .i64 co) hRc hW0).set w.heap.size 3 (.int .i64 se) hRc hW0).set w.heap.size 4 (.slice va l.length vc) hRc hW0).alloc (trB ⟨id, 127, co, se⟩ va l.length vc 26)
    have HKF : Hid (Kb _ _ _) := (((((K12.set w.heap.size 0 (.int .i64 id) (Nat.le_refl _)).set w.heap.size 1 (.int .i64 127) (Nat.le_refl _)).set w.heap.size 2 (.int .i64 co) (Nat.le_refl _)).set w.heap.size 3 (.int .i64 se) (Nat.le_refl _)).set w.heap.size 4 (.slice va l.length vc) (Nat.le_refl _)).alloc (trB ⟨id, 127, co, se⟩ va l.length vc 26)
    clear mF
    clear C2 K12 mR2 O2 oR
    go_wp2
    have v0 := V0.out
    have v1 := V1.out
    have v2 := V2.out
    have v3 := V3.out
    have v4 := V4.out
    clear z0 z1 z2 z3 z4 y0 y1 y2 y3 y4
    refine bodyPost_ret (v := trV ⟨id, 127, co, se⟩ va l.length vc) (by simp [results, Try.results112, go_sem, v0, v1, v2, v3, v4]) rfl ?_
    refine ⟨⟨⟨id, 127, co, se⟩, l, va, vc, rfl, ⟨hi1, hi2⟩, hbd, ?_, hl1, hl2⟩, ?_, ?_⟩
    · with_reducible exact HOF.out
    · with_reducible exact HCF.out
    · with_reducible exact HKF.out


end Se
end Go.Proofs.Ytiollklighmojad

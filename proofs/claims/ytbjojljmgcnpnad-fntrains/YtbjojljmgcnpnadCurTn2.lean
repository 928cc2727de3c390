/- Draws for the laws of trains: a train that may be spoilt. -/
import Derived.Test.YtbjojljmgcnpnadCurTn
namespace Go.Proofs.Ytbjojljmgcnpnad
namespace Tn
open Go.ChangeShapes Go.WideShapes Go.ChangeAt Go.RowKit
open Pk (new_below join_below cell_at heap_new frozen_at lt_of kept heap_old info_of own_form own_below Room)
open Cur (Is Moved Bytes Kb new_any once_any below_any pickInt_any rowOf_new)
set_option linter.unusedSimpArgs false
set_option linter.unusedVariables false

/-- A number stored anywhere into a row of stops leaves a row of stops. -/
theorem Stops.any {w : World} {g j : Nat} {z : Int} {l : List St} (h : Stops w (some ⟨g, 0, none⟩) l) : ∃ l' : List St, l'.length = l.length ∧ Stops (w.setCell ⟨g, j, none⟩ (.int .i64 z)) (some ⟨g, 0, none⟩) l' := by
  rcases h with h | ⟨b, o, e, hb, hc⟩
  · exact ⟨[], by rw [h], Or.inl rfl⟩
  · simp only [Option.some.injEq, Addr.mk.injEq, and_true] at e
    obtain ⟨rfl, rfl⟩ := e
    refine ⟨(List.range l.length).map fun i => ⟨if i * 3 = j then z else (l.getD i z0).st, if i * 3 + 1 = j then z else (l.getD i z0).ar, if i * 3 + 2 = j then z else (l.getD i z0).dp⟩, by simp, Or.inr ⟨g, 0, rfl, by rw [World.size_setCell]; exact hb, fun i hi => ?_⟩⟩
    simp at hi
    obtain ⟨c0, c1, c2⟩ := hc i hi
    rw [Nat.zero_add] at c0 c1 c2
    rw [Nat.zero_add, set_cell c0, set_cell c1, set_cell c2]
    simp only [List.getElem_map, List.getElem_range]
    rw [getD_at l i hi]
    refine ⟨?_, ?_, ?_⟩
    · by_cases h : i * 3 = j <;> simp [h]
    · by_cases h : i * 3 + 1 = j <;> simp [h]
    · by_cases h : i * 3 + 2 = j <;> simp [h]

theorem Stops.first {w : World} {a : Option Addr} {l : List St} (h : Stops w a l) : Stops w a (l.take 1) := by
  rcases h with h | ⟨b, o, e, hb, hc⟩
  · exact Or.inl (by rw [h]; rfl)
  · refine Or.inr ⟨b, o, e, hb, fun i hi => ?_⟩
    have hi2 : i < l.length := by simp at hi; omega
    rw [List.getElem_take]
    exact hc i hi2

theorem Stops.moved {c : Nat} {w w1 : World} {g : Nat} {l : List St} (h : Stops w (some ⟨g, 0, none⟩) l) (M : Moved c w w1) (hg : g ≠ c) : Stops w1 (some ⟨g, 0, none⟩) l :=
  h.away M.size (fun p hp => M.cell hp) hg

theorem station_any {W0 : World} {a : Option Addr} {n cap c : Nat} {w : World} (C : Is W0 a n cap c w) :
    Calls Try.prog 25 #[.pointer (some ⟨c, 0, none⟩)] w fun e w' => (∃ x : Int, e = .returned (.int .i64 x)) ∧ Is W0 a n cap c w' ∧ Moved c w w' := by
  go_enter Try.func25, Try.ntmps25
  go_wp2_with fail
  refine (below_any C _).mono ?_
  rintro e w1 ⟨⟨x, rfl, hx0, hx1⟩, C1, M1⟩
  have hx2 := hx1 (by omega)
  go_wp2
  go_ret
  exact ⟨⟨_, rfl⟩, C1, M1⟩

set_option maxRecDepth 100000 in
set_option maxHeartbeats 8000000 in
theorem spoilt_any {W0 : World} {a : Option Addr} {n cap c : Nat} {w : World} (C : Is W0 a n cap c w) :
    Calls Try.prog 24 #[.pointer (some ⟨c, 0, none⟩)] w fun e w' => (∃ (h : Hd) (l : List St) (va : Option Addr) (vc : Nat), e = .returned (trV h va l.length vc) ∧ Stops w' va l ∧ l.length ≤ 5 ∧ (∀ b o, va = some ⟨b, o, none⟩ → w.heap.size ≤ b)) ∧ Is W0 a n cap c w' ∧ Kb c w w' := by
  have mR0 := heap_new w (Tn.trB ⟨0, 0, 0, 0⟩ none 0 0 26)
  have C0 := C.alloc (Tn.trB ⟨0, 0, 0, 0⟩ none 0 0 26)
  have hcw := C.lt
  have hW0 : W0.heap.size ≤ w.heap.size := C.below.size
  have K0 : Kb c w (w.alloc (Tn.trB ⟨0, 0, 0, 0⟩ none 0 0 26)) := (Kb.refl c w).alloc _
  have hRc : w.heap.size ≠ c := by omega
  go_enter Try.func24, Try.ntmps24
  go_wp2_with fail
  refine (below_any C0 _).mono ?_
  rintro e w1 ⟨⟨x1, rfl, hx1, hy1⟩, C1, M1⟩
  have hx2 := hy1 (by omega)
  have mR1 := (M1.block _ hRc).trans mR0
  have K1 := K0.trans (Kb.moved M1)
  have hR1 : w.heap.size < w1.heap.size := lt_of mR1
  clear hy1 M1 C0 mR0 K0 C
  go_wp2_with fail
  refine (train_any C1 _).mono ?_
  rintro e w2 ⟨⟨hh, l, va, vc, rfl, -, O2, hl2, hl5⟩, C2, KT⟩
  have mR2 := KT.at hRc mR1
  have K2 := K1.trans KT
  obtain ⟨g, rfl, hg1, hg2⟩ : ∃ g, va = some ⟨g, 0, none⟩ ∧ w1.heap.size ≤ g ∧ g < w2.heap.size := by
    obtain ⟨g, cp, he, h1, h2, -⟩ := own_stop O2 0 (by omega) l[0] (List.getElem?_eq_getElem (by omega))
    simp only [Value.slice.injEq] at he
    exact ⟨g, he.1, h1, h2⟩
  have S2 := stops_own O2
  have hgc : g ≠ c := by omega
  have hgR : g ≠ w.heap.size := by omega
  have Fz : ∀ o, w2.frozen? ⟨g, o, none⟩ = false := by
    obtain ⟨g', cp, he, -, -, -, -, -, hf⟩ := own_stop O2 0 (by omega) l[0] (List.getElem?_eq_getElem (by omega))
    simp only [Value.slice.injEq, Option.some.injEq, Addr.mk.injEq] at he
    rw [he.1.1]
    exact hf
  have hvc : l.length ≤ vc := by
    obtain ⟨-, h9⟩ := O2
    rcases h9 with ⟨h9, -⟩ | ⟨g', cp, cur, h9, -, -, h8, -⟩
    · cases h9
    · simp only [Value.slice.injEq] at h9
      omega
  have hgW : W0.heap.size ≤ g := by omega
  obtain ⟨h0, h1, h2, h3⟩ := hh
  clear C1 mR1 K1 KT O2 hx1 hx2
  have NB := new_below w2 (trB ⟨h0, h1, h2, h3⟩ (some ⟨g, 0, none⟩) l.length vc 26)
  have C3 := C2.alloc (trB ⟨h0, h1, h2, h3⟩ (some ⟨g, 0, none⟩) l.length vc 26)
  have mB3 := heap_new w2 (trB ⟨h0, h1, h2, h3⟩ (some ⟨g, 0, none⟩) l.length vc 26)
  have mR3 := heap_old mR2 (trB ⟨h0, h1, h2, h3⟩ (some ⟨g, 0, none⟩) l.length vc 26)
  have K3 := K2.alloc (trB ⟨h0, h1, h2, h3⟩ (some ⟨g, 0, none⟩) l.length vc 26)
  have S3 := S2.on NB
  have Fz3 : ∀ o, (w2.alloc (trB ⟨h0, h1, h2, h3⟩ (some ⟨g, 0, none⟩) l.length vc 26)).frozen? ⟨g, o, none⟩ = false := fun o => (NB.frozen (p := ⟨g, o, none⟩) hg2).trans (Fz o)
  have hBc : w2.heap.size ≠ c := by have := C2.lt; omega
  have hBW : W0.heap.size ≤ w2.heap.size := by omega
  have hgB : g ≠ w2.heap.size := by omega
  have hRB : w.heap.size < w2.heap.size := by omega
  clear C2 mR2 K2 S2 Fz NB
  go_wp2_with fail
  refine (below_any C3 _).mono ?_
  rintro e w4 ⟨⟨x, rfl, hx0, hxx⟩, C4, M4⟩
  have hx14 := hxx (by omega)
  have mB4 := (M4.block _ hBc).trans mB3
  have mR4 := (M4.block _ hRc).trans mR3
  have K4 := K3.trans (Kb.moved M4)
  have S4 := S3.moved M4 hgc
  have Fz4 : ∀ o, w4.frozen? ⟨g, o, none⟩ = false := fun o => (M4.frozen (p := ⟨g, o, none⟩) hgc).trans (Fz3 o)
  clear C3 M4 mB3 mR3 K3 S3 Fz3 hxx
  generalize w2.heap.size = B at *
  by_cases e0 : x = 0
  · have t0 : (x == 0) = true := beq_iff_eq.2 e0
    clear e0
    have NX := new_below w4 (.cells #[.int .i64 0, .int .i64 9999, .int .i64 10000] 3)
    have CP := C4.alloc (.cells #[.int .i64 0, .int .i64 9999, .int .i64 10000] 3)
    have mBP := kept NX (lt_of mB4) mB4
    have mRP := kept NX (lt_of mR4) mR4
    have SP := S4.on NX
    have KP := K4.alloc (.cells #[.int .i64 0, .int .i64 9999, .int .i64 10000] 3)
    have hc4 := C4.lt
    have RP := rowOf_new (fun _ => True) w4 [0, 9999, 10000] 3 (fun _ _ => trivial)
    clear C4 mB4 mR4 S4 K4 NX Fz4
    go_wp2_with fail
    refine (pickInt_any CP (fun _ => True) w4.heap.size 3 3 (by omega) (by omega) (by omega) RP).mono ?_
    rintro e w5 ⟨⟨q, rfl, -⟩, C5, M5⟩
    have mB5 := (M5.block _ hBc).trans mBP
    have mR5 := (M5.block _ hRc).trans mRP
    have S5 := SP.moved M5 hgc
    have K5 := KP.trans (Kb.moved M5)
    have CF := C5.set B 0 (.int .i64 q) hBc hBW
    have mBF := h_set (i := 0) mB5 (.int .i64 q)
    have mRF := h_other (i := 0) mR5 (by omega : w.heap.size ≠ B) (.int .i64 q)
    have SF := S5.away (World.size_setCell w5 ⟨B, 0, none⟩ (.int .i64 q)) (fun p hp => cell_other hp) hgB
    have KF := K5.set B 0 (.int .i64 q) (by omega)
    have a0 : w5.cell? ⟨B, 0, none⟩ = some (.int .i64 h0) := cell_at mB5 0
    have a1 : w5.frozen? ⟨B, 0, none⟩ = false := frozen_at mB5 0
    clear CP mBP mRP SP KP RP C5 M5 mB5 mR5 S5 K5
    have b0 : (w5.setCell ⟨B, 0, none⟩ (.int .i64 q)).cell? ⟨B, 0, none⟩ = some (.int .i64 (q)) := cell_at mBF 0
    have b1 : (w5.setCell ⟨B, 0, none⟩ (.int .i64 q)).cell? ⟨B, 1, none⟩ = some (.int .i64 (h1)) := cell_at mBF 1
    have b2 : (w5.setCell ⟨B, 0, none⟩ (.int .i64 q)).cell? ⟨B, 2, none⟩ = some (.int .i64 (h2)) := cell_at mBF 2
    have b3 : (w5.setCell ⟨B, 0, none⟩ (.int .i64 q)).cell? ⟨B, 3, none⟩ = some (.int .i64 (h3)) := cell_at mBF 3
    have b4 : (w5.setCell ⟨B, 0, none⟩ (.int .i64 q)).cell? ⟨B, 4, none⟩ = some (.slice (some ⟨g, 0, none⟩) l.length vc) := cell_at mBF 4
    have z0 : (w5.setCell ⟨B, 0, none⟩ (.int .i64 q)).cell? ⟨w.heap.size, 0, none⟩ = some (.int .i64 0) := cell_at mRF 0
    have z1 : (w5.setCell ⟨B, 0, none⟩ (.int .i64 q)).cell? ⟨w.heap.size, 1, none⟩ = some (.int .i64 0) := cell_at mRF 1
    have z2 : (w5.setCell ⟨B, 0, none⟩ (.int .i64 q)).cell? ⟨w.heap.size, 2, none⟩ = some (.int .i64 0) := cell_at mRF 2
    have z3 : (w5.setCell ⟨B, 0, none⟩ (.int .i64 q)).cell? ⟨w.heap.size, 3, none⟩ = some (.int .i64 0) := cell_at mRF 3
    have z4 : (w5.setCell ⟨B, 0, none⟩ (.int .i64 q)).cell? ⟨w.heap.size, 4, none⟩ = some (.slice none 0 0) := cell_at mRF 4
    have y0 : (w5.setCell ⟨B, 0, none⟩ (.int .i64 q)).frozen? ⟨w.heap.size, 0, none⟩ = false := frozen_at mRF 0
    have y1 : (w5.setCell ⟨B, 0, none⟩ (.int .i64 q)).frozen? ⟨w.heap.size, 1, none⟩ = false := frozen_at mRF 1
    have y2 : (w5.setCell ⟨B, 0, none⟩ (.int .i64 q)).frozen? ⟨w.heap.size, 2, none⟩ = false := frozen_at mRF 2
    have y3 : (w5.setCell ⟨B, 0, none⟩ (.int .i64 q)).frozen? ⟨w.heap.size, 3, none⟩ = false := frozen_at mRF 3
    have y4 : (w5.setCell ⟨B, 0, none⟩ (.int .i64 q)).frozen? ⟨w.heap.size, 4, none⟩ = false := frozen_at mRF 4
    have HCF : Hid (∀ i u, _) := fun i u => ((((CF.set w.heap.size 0 (.int .i64 (q)) hRc hW0).set w.heap.size 1 (.int .i64 (h1)) hRc hW0).set w.heap.size 2 (.int .i64 (h2)) hRc hW0).set w.heap.size 3 (.int .i64 (h3)) hRc hW0).set w.heap.size i u hRc hW0
    have HKF : Hid (∀ i u, _) := fun i u => ((((KF.set w.heap.size 0 (.int .i64 (q)) (Nat.le_refl _)).set w.heap.size 1 (.int .i64 (h1)) (Nat.le_refl _)).set w.heap.size 2 (.int .i64 (h2)) (Nat.le_refl _)).set w.heap.size 3 (.int .i64 (h3)) (Nat.le_refl _)).set w.heap.size i u (Nat.le_refl _)
    have HSF : Hid (∀ W, (∀ p : Addr, p.block ≠ w.heap.size → W.cell? p = (w5.setCell ⟨B, 0, none⟩ (.int .i64 q)).cell? p) → W.heap.size = (w5.setCell ⟨B, 0, none⟩ (.int .i64 q)).heap.size → Stops W (some ⟨g, 0, none⟩) (l)) := fun W hc hz => SF.away hz hc hgR
    clear CF KF mRF mBF SF
    go_wp2
    refine bodyPost_ret (v := trV ⟨q, h1, h2, h3⟩ (some ⟨g, 0, none⟩) l.length vc) (by simp [results, Try.results24, go_sem, z0, z1, z2, z3, z4]) rfl ?_
    refine ⟨⟨⟨q, h1, h2, h3⟩, l, some ⟨g, 0, none⟩, vc, rfl, HSF.out _ (fun p hp => by rw [cell_other hp, cell_other hp, cell_other hp, cell_other hp, cell_other hp]) (by simp), hl5, fun b o e => by simp only [Option.some.injEq, Addr.mk.injEq, and_true] at e; omega⟩, HCF.out 4 _, HKF.out 4 _⟩
  have t0 : (x == 0) = false := beq_eq_false_iff_ne.2 e0
  clear e0
  by_cases e1 : x = 1
  · have t1 : (x == 1) = true := beq_iff_eq.2 e1
    clear e1
    have NX := new_below w4 (.cells #[.int .i64 0, .int .i64 128, .int .i64 127] 3)
    have CP := C4.alloc (.cells #[.int .i64 0, .int .i64 128, .int .i64 127] 3)
    have mBP := kept NX (lt_of mB4) mB4
    have mRP := kept NX (lt_of mR4) mR4
    have SP := S4.on NX
    have KP := K4.alloc (.cells #[.int .i64 0, .int .i64 128, .int .i64 127] 3)
    have hc4 := C4.lt
    have RP := rowOf_new (fun _ => True) w4 [0, 128, 127] 3 (fun _ _ => trivial)
    clear C4 mB4 mR4 S4 K4 NX Fz4
    go_wp2_with fail
    refine (pickInt_any CP (fun _ => True) w4.heap.size 3 3 (by omega) (by omega) (by omega) RP).mono ?_
    rintro e w5 ⟨⟨q, rfl, -⟩, C5, M5⟩
    have mB5 := (M5.block _ hBc).trans mBP
    have mR5 := (M5.block _ hRc).trans mRP
    have S5 := SP.moved M5 hgc
    have K5 := KP.trans (Kb.moved M5)
    have CF := C5.set B 1 (.int .i64 q) hBc hBW
    have mBF := h_set (i := 1) mB5 (.int .i64 q)
    have mRF := h_other (i := 1) mR5 (by omega : w.heap.size ≠ B) (.int .i64 q)
    have SF := S5.away (World.size_setCell w5 ⟨B, 1, none⟩ (.int .i64 q)) (fun p hp => cell_other hp) hgB
    have KF := K5.set B 1 (.int .i64 q) (by omega)
    have a0 : w5.cell? ⟨B, 1, none⟩ = some (.int .i64 h1) := cell_at mB5 1
    have a1 : w5.frozen? ⟨B, 1, none⟩ = false := frozen_at mB5 1
    clear CP mBP mRP SP KP RP C5 M5 mB5 mR5 S5 K5
    have b0 : (w5.setCell ⟨B, 1, none⟩ (.int .i64 q)).cell? ⟨B, 0, none⟩ = some (.int .i64 (h0)) := cell_at mBF 0
    have b1 : (w5.setCell ⟨B, 1, none⟩ (.int .i64 q)).cell? ⟨B, 1, none⟩ = some (.int .i64 (q)) := cell_at mBF 1
    have b2 : (w5.setCell ⟨B, 1, none⟩ (.int .i64 q)).cell? ⟨B, 2, none⟩ = some (.int .i64 (h2)) := cell_at mBF 2
    have b3 : (w5.setCell ⟨B, 1, none⟩ (.int .i64 q)).cell? ⟨B, 3, none⟩ = some (.int .i64 (h3)) := cell_at mBF 3
    have b4 : (w5.setCell ⟨B, 1, none⟩ (.int .i64 q)).cell? ⟨B, 4, none⟩ = some (.slice (some ⟨g, 0, none⟩) l.length vc) := cell_at mBF 4
    have z0 : (w5.setCell ⟨B, 1, none⟩ (.int .i64 q)).cell? ⟨w.heap.size, 0, none⟩ = some (.int .i64 0) := cell_at mRF 0
    have z1 : (w5.setCell ⟨B, 1, none⟩ (.int .i64 q)).cell? ⟨w.heap.size, 1, none⟩ = some (.int .i64 0) := cell_at mRF 1
    have z2 : (w5.setCell ⟨B, 1, none⟩ (.int .i64 q)).cell? ⟨w.heap.size, 2, none⟩ = some (.int .i64 0) := cell_at mRF 2
    have z3 : (w5.setCell ⟨B, 1, none⟩ (.int .i64 q)).cell? ⟨w.heap.size, 3, none⟩ = some (.int .i64 0) := cell_at mRF 3
    have z4 : (w5.setCell ⟨B, 1, none⟩ (.int .i64 q)).cell? ⟨w.heap.size, 4, none⟩ = some (.slice none 0 0) := cell_at mRF 4
    have y0 : (w5.setCell ⟨B, 1, none⟩ (.int .i64 q)).frozen? ⟨w.heap.size, 0, none⟩ = false := frozen_at mRF 0
    have y1 : (w5.setCell ⟨B, 1, none⟩ (.int .i64 q)).frozen? ⟨w.heap.size, 1, none⟩ = false := frozen_at mRF 1
    have y2 : (w5.setCell ⟨B, 1, none⟩ (.int .i64 q)).frozen? ⟨w.heap.size, 2, none⟩ = false := frozen_at mRF 2
    have y3 : (w5.setCell ⟨B, 1, none⟩ (.int .i64 q)).frozen? ⟨w.heap.size, 3, none⟩ = false := frozen_at mRF 3
    have y4 : (w5.setCell ⟨B, 1, none⟩ (.int .i64 q)).frozen? ⟨w.heap.size, 4, none⟩ = false := frozen_at mRF 4
    have HCF : Hid (∀ i u, _) := fun i u => ((((CF.set w.heap.size 0 (.int .i64 (h0)) hRc hW0).set w.heap.size 1 (.int .i64 (q)) hRc hW0).set w.heap.size 2 (.int .i64 (h2)) hRc hW0).set w.heap.size 3 (.int .i64 (h3)) hRc hW0).set w.heap.size i u hRc hW0
    have HKF : Hid (∀ i u, _) := fun i u => ((((KF.set w.heap.size 0 (.int .i64 (h0)) (Nat.le_refl _)).set w.heap.size 1 (.int .i64 (q)) (Nat.le_refl _)).set w.heap.size 2 (.int .i64 (h2)) (Nat.le_refl _)).set w.heap.size 3 (.int .i64 (h3)) (Nat.le_refl _)).set w.heap.size i u (Nat.le_refl _)
    have HSF : Hid (∀ W, (∀ p : Addr, p.block ≠ w.heap.size → W.cell? p = (w5.setCell ⟨B, 1, none⟩ (.int .i64 q)).cell? p) → W.heap.size = (w5.setCell ⟨B, 1, none⟩ (.int .i64 q)).heap.size → Stops W (some ⟨g, 0, none⟩) (l)) := fun W hc hz => SF.away hz hc hgR
    clear CF KF mRF mBF SF
    go_wp2
    refine bodyPost_ret (v := trV ⟨h0, q, h2, h3⟩ (some ⟨g, 0, none⟩) l.length vc) (by simp [results, Try.results24, go_sem, z0, z1, z2, z3, z4]) rfl ?_
    refine ⟨⟨⟨h0, q, h2, h3⟩, l, some ⟨g, 0, none⟩, vc, rfl, HSF.out _ (fun p hp => by rw [cell_other hp, cell_other hp, cell_other hp, cell_other hp, cell_other hp]) (by simp), hl5, fun b o e => by simp only [Option.some.injEq, Addr.mk.injEq, and_true] at e; omega⟩, HCF.out 4 _, HKF.out 4 _⟩
  have t1 : (x == 1) = false := beq_eq_false_iff_ne.2 e1
  clear e1
  by_cases e2 : x = 2
  · have t2 : (x == 2) = true := beq_iff_eq.2 e2
    clear e2
    have NX := new_below w4 (.cells #[.int .i64 0, .int .i64 90, .int .i64 91] 3)
    have CP := C4.alloc (.cells #[.int .i64 0, .int .i64 90, .int .i64 91] 3)
    have mBP := kept NX (lt_of mB4) mB4
    have mRP := kept NX (lt_of mR4) mR4
    have SP := S4.on NX
    have KP := K4.alloc (.cells #[.int .i64 0, .int .i64 90, .int .i64 91] 3)
    have hc4 := C4.lt
    have RP := rowOf_new (fun _ => True) w4 [0, 90, 91] 3 (fun _ _ => trivial)
    clear C4 mB4 mR4 S4 K4 NX Fz4
    go_wp2_with fail
    refine (pickInt_any CP (fun _ => True) w4.heap.size 3 3 (by omega) (by omega) (by omega) RP).mono ?_
    rintro e w5 ⟨⟨q, rfl, -⟩, C5, M5⟩
    have mB5 := (M5.block _ hBc).trans mBP
    have mR5 := (M5.block _ hRc).trans mRP
    have S5 := SP.moved M5 hgc
    have K5 := KP.trans (Kb.moved M5)
    have CF := C5.set B 3 (.int .i64 q) hBc hBW
    have mBF := h_set (i := 3) mB5 (.int .i64 q)
    have mRF := h_other (i := 3) mR5 (by omega : w.heap.size ≠ B) (.int .i64 q)
    have SF := S5.away (World.size_setCell w5 ⟨B, 3, none⟩ (.int .i64 q)) (fun p hp => cell_other hp) hgB
    have KF := K5.set B 3 (.int .i64 q) (by omega)
    have a0 : w5.cell? ⟨B, 3, none⟩ = some (.int .i64 h3) := cell_at mB5 3
    have a1 : w5.frozen? ⟨B, 3, none⟩ = false := frozen_at mB5 3
    clear CP mBP mRP SP KP RP C5 M5 mB5 mR5 S5 K5
    have b0 : (w5.setCell ⟨B, 3, none⟩ (.int .i64 q)).cell? ⟨B, 0, none⟩ = some (.int .i64 (h0)) := cell_at mBF 0
    have b1 : (w5.setCell ⟨B, 3, none⟩ (.int .i64 q)).cell? ⟨B, 1, none⟩ = some (.int .i64 (h1)) := cell_at mBF 1
    have b2 : (w5.setCell ⟨B, 3, none⟩ (.int .i64 q)).cell? ⟨B, 2, none⟩ = some (.int .i64 (h2)) := cell_at mBF 2
    have b3 : (w5.setCell ⟨B, 3, none⟩ (.int .i64 q)).cell? ⟨B, 3, none⟩ = some (.int .i64 (q)) := cell_at mBF 3
    have b4 : (w5.setCell ⟨B, 3, none⟩ (.int .i64 q)).cell? ⟨B, 4, none⟩ = some (.slice (some ⟨g, 0, none⟩) l.length vc) := cell_at mBF 4
    have z0 : (w5.setCell ⟨B, 3, none⟩ (.int .i64 q)).cell? ⟨w.heap.size, 0, none⟩ = some (.int .i64 0) := cell_at mRF 0
    have z1 : (w5.setCell ⟨B, 3, none⟩ (.int .i64 q)).cell? ⟨w.heap.size, 1, none⟩ = some (.int .i64 0) := cell_at mRF 1
    have z2 : (w5.setCell ⟨B, 3, none⟩ (.int .i64 q)).cell? ⟨w.heap.size, 2, none⟩ = some (.int .i64 0) := cell_at mRF 2
    have z3 : (w5.setCell ⟨B, 3, none⟩ (.int .i64 q)).cell? ⟨w.heap.size, 3, none⟩ = some (.int .i64 0) := cell_at mRF 3
    have z4 : (w5.setCell ⟨B, 3, none⟩ (.int .i64 q)).cell? ⟨w.heap.size, 4, none⟩ = some (.slice none 0 0) := cell_at mRF 4
    have y0 : (w5.setCell ⟨B, 3, none⟩ (.int .i64 q)).frozen? ⟨w.heap.size, 0, none⟩ = false := frozen_at mRF 0
    have y1 : (w5.setCell ⟨B, 3, none⟩ (.int .i64 q)).frozen? ⟨w.heap.size, 1, none⟩ = false := frozen_at mRF 1
    have y2 : (w5.setCell ⟨B, 3, none⟩ (.int .i64 q)).frozen? ⟨w.heap.size, 2, none⟩ = false := frozen_at mRF 2
    have y3 : (w5.setCell ⟨B, 3, none⟩ (.int .i64 q)).frozen? ⟨w.heap.size, 3, none⟩ = false := frozen_at mRF 3
    have y4 : (w5.setCell ⟨B, 3, none⟩ (.int .i64 q)).frozen? ⟨w.heap.size, 4, none⟩ = false := frozen_at mRF 4
    have HCF : Hid (∀ i u, _) := fun i u => ((((CF.set w.heap.size 0 (.int .i64 (h0)) hRc hW0).set w.heap.size 1 (.int .i64 (h1)) hRc hW0).set w.heap.size 2 (.int .i64 (h2)) hRc hW0).set w.heap.size 3 (.int .i64 (q)) hRc hW0).set w.heap.size i u hRc hW0
    have HKF : Hid (∀ i u, _) := fun i u => ((((KF.set w.heap.size 0 (.int .i64 (h0)) (Nat.le_refl _)).set w.heap.size 1 (.int .i64 (h1)) (Nat.le_refl _)).set w.heap.size 2 (.int .i64 (h2)) (Nat.le_refl _)).set w.heap.size 3 (.int .i64 (q)) (Nat.le_refl _)).set w.heap.size i u (Nat.le_refl _)
    have HSF : Hid (∀ W, (∀ p : Addr, p.block ≠ w.heap.size → W.cell? p = (w5.setCell ⟨B, 3, none⟩ (.int .i64 q)).cell? p) → W.heap.size = (w5.setCell ⟨B, 3, none⟩ (.int .i64 q)).heap.size → Stops W (some ⟨g, 0, none⟩) (l)) := fun W hc hz => SF.away hz hc hgR
    clear CF KF mRF mBF SF
    go_wp2
    refine bodyPost_ret (v := trV ⟨h0, h1, h2, q⟩ (some ⟨g, 0, none⟩) l.length vc) (by simp [results, Try.results24, go_sem, z0, z1, z2, z3, z4]) rfl ?_
    refine ⟨⟨⟨h0, h1, h2, q⟩, l, some ⟨g, 0, none⟩, vc, rfl, HSF.out _ (fun p hp => by rw [cell_other hp, cell_other hp, cell_other hp, cell_other hp, cell_other hp]) (by simp), hl5, fun b o e => by simp only [Option.some.injEq, Addr.mk.injEq, and_true] at e; omega⟩, HCF.out 4 _, HKF.out 4 _⟩
  have t2 : (x == 2) = false := beq_eq_false_iff_ne.2 e2
  clear e2
  by_cases e3 : x = 3
  · have t3 : (x == 3) = true := beq_iff_eq.2 e3
    clear e3
    obtain ⟨x0', o0', he0, -, p0, p1, p2⟩ := S4.at 0 (by omega)
    simp only [Option.some.injEq, Addr.mk.injEq, and_true] at he0
    obtain ⟨rfl, rfl⟩ := he0
    obtain ⟨x1', o1', he1, -, r0, r1, r2⟩ := S4.at 1 (by omega)
    simp only [Option.some.injEq, Addr.mk.injEq, and_true] at he1
    obtain ⟨rfl, rfl⟩ := he1
    have cs : w4.cell? ⟨g, 2, none⟩ = some (.int .i64 l[0].dp) := p2
    have cd : w4.cell? ⟨g, 4, none⟩ = some (.int .i64 l[1].ar) := r1
    have fd := Fz4 4
    have a4 : w4.cell? ⟨B, 4, none⟩ = some (.slice (some ⟨g, 0, none⟩) l.length vc) := cell_at mB4 4
    clear p0 p1 p2 r0 r1 r2
    generalize l[0].dp = sv at *
    generalize l[1].ar = dv at *
    obtain ⟨l9, hl9, SF0⟩ := S4.any (j := 4) (z := sv)
    have ck : (w4.setCell ⟨g, 4, none⟩ (.int .i64 sv)).cell? ⟨g, 2, none⟩ = some (.int .i64 sv) := by rw [set_cell cs, if_neg (by omega)]
    have ck2 : (w4.setCell ⟨g, 4, none⟩ (.int .i64 sv)).drew.cell? ⟨g, 2, none⟩ = some (.int .i64 sv) := ck
    have i1 : (0 : Int) < (l.length : Int) := by omega
    have i2 : (1 : Int) < (l.length : Int) := by omega
    have i3 : 0 < l.length := by omega
    have i4 : 1 < l.length := by omega
    have hBg : B ≠ g := fun h => hgB h.symm
    have CF0 := (C4.set g 4 (.int .i64 sv) hgc hgW).drewN 1
    have KF0 := (K4.set g 4 (.int .i64 sv) (by omega)).drew
    have mRF0 := h_other (i := 4) mR4 (by omega : w.heap.size ≠ g) (.int .i64 sv)
    have mBF0 := h_other (i := 4) mB4 hBg (.int .i64 sv)
    have HL9 : Hid (l.length = l9.length) := hl9.symm
    have hl95 : l9.length ≤ 5 := by omega
    clear hl9 C4 K4 mR4 mB4 S4
    go_wp2
    go_region_held3 (fun w' => w'.cell? ⟨B, 4, none⟩ = some (.slice (some ⟨g, 0, none⟩) l.length vc) ∧ w'.cell? ⟨g, 2, none⟩ = some (.int .i64 sv)) (go_keep) (fail)
    all_goals
      have CF : Is W0 a n cap c (w4.setCell ⟨g, 4, none⟩ (.int .i64 sv)).drew := CF0
      have KF : Kb c w (w4.setCell ⟨g, 4, none⟩ (.int .i64 sv)).drew := KF0
      have mRF : (w4.setCell ⟨g, 4, none⟩ (.int .i64 sv)).drew.heap[w.heap.size]? = _ := mRF0
      have mBF : (w4.setCell ⟨g, 4, none⟩ (.int .i64 sv)).drew.heap[B]? = _ := mBF0
      have SF : Stops (w4.setCell ⟨g, 4, none⟩ (.int .i64 sv)).drew (some ⟨g, 0, none⟩) l9 := SF0
      clear CF0 KF0 mRF0 mBF0 SF0 cs cd fd a4 ck ck2
      generalize (w4.setCell ⟨g, 4, none⟩ (.int .i64 sv)).drew = wf at *
      have b0 : wf.cell? ⟨B, 0, none⟩ = some (.int .i64 (h0)) := cell_at mBF 0
      have b1 : wf.cell? ⟨B, 1, none⟩ = some (.int .i64 (h1)) := cell_at mBF 1
      have b2 : wf.cell? ⟨B, 2, none⟩ = some (.int .i64 (h2)) := cell_at mBF 2
      have b3 : wf.cell? ⟨B, 3, none⟩ = some (.int .i64 (h3)) := cell_at mBF 3
      have b4 : wf.cell? ⟨B, 4, none⟩ = some (.slice (some ⟨g, 0, none⟩) l.length vc) := cell_at mBF 4
      have z0 : wf.cell? ⟨w.heap.size, 0, none⟩ = some (.int .i64 0) := cell_at mRF 0
      have z1 : wf.cell? ⟨w.heap.size, 1, none⟩ = some (.int .i64 0) := cell_at mRF 1
      have z2 : wf.cell? ⟨w.heap.size, 2, none⟩ = some (.int .i64 0) := cell_at mRF 2
      have z3 : wf.cell? ⟨w.heap.size, 3, none⟩ = some (.int .i64 0) := cell_at mRF 3
      have z4 : wf.cell? ⟨w.heap.size, 4, none⟩ = some (.slice none 0 0) := cell_at mRF 4
      have y0 : wf.frozen? ⟨w.heap.size, 0, none⟩ = false := frozen_at mRF 0
      have y1 : wf.frozen? ⟨w.heap.size, 1, none⟩ = false := frozen_at mRF 1
      have y2 : wf.frozen? ⟨w.heap.size, 2, none⟩ = false := frozen_at mRF 2
      have y3 : wf.frozen? ⟨w.heap.size, 3, none⟩ = false := frozen_at mRF 3
      have y4 : wf.frozen? ⟨w.heap.size, 4, none⟩ = false := frozen_at mRF 4
      have HCF : Hid (∀ i u, _) := fun i u => ((((CF.set w.heap.size 0 (.int .i64 (h0)) hRc hW0).set w.heap.size 1 (.int .i64 (h1)) hRc hW0).set w.heap.size 2 (.int .i64 (h2)) hRc hW0).set w.heap.size 3 (.int .i64 (h3)) hRc hW0).set w.heap.size i u hRc hW0
      have HKF : Hid (∀ i u, _) := fun i u => ((((KF.set w.heap.size 0 (.int .i64 (h0)) (Nat.le_refl _)).set w.heap.size 1 (.int .i64 (h1)) (Nat.le_refl _)).set w.heap.size 2 (.int .i64 (h2)) (Nat.le_refl _)).set w.heap.size 3 (.int .i64 (h3)) (Nat.le_refl _)).set w.heap.size i u (Nat.le_refl _)
      have HSF : Hid (∀ W, (∀ p : Addr, p.block ≠ w.heap.size → W.cell? p = wf.cell? p) → W.heap.size = wf.heap.size → Stops W (some ⟨g, 0, none⟩) (l9)) := fun W hc hz => SF.away hz hc hgR
      clear CF KF mRF mBF SF
      go_wp2
      refine bodyPost_ret (v := trV ⟨h0, h1, h2, h3⟩ (some ⟨g, 0, none⟩) l.length vc) (by simp [results, Try.results24, go_sem, z0, z1, z2, z3, z4]) rfl ?_
      refine ⟨⟨⟨h0, h1, h2, h3⟩, l9, some ⟨g, 0, none⟩, vc, by rw [HL9.out], HSF.out _ (fun p hp => by rw [cell_other hp, cell_other hp, cell_other hp, cell_other hp, cell_other hp]) (by simp), hl95, fun b o e => by simp only [Option.some.injEq, Addr.mk.injEq, and_true] at e; omega⟩, HCF.out 4 _, HKF.out 4 _⟩
  have t3 : (x == 3) = false := beq_eq_false_iff_ne.2 e3
  clear e3
  by_cases e4 : x = 4
  · have t4 : (x == 4) = true := beq_iff_eq.2 e4
    clear e4
    obtain ⟨x0', o0', he0, -, p0, p1, p2⟩ := S4.at 0 (by omega)
    simp only [Option.some.injEq, Addr.mk.injEq, and_true] at he0
    obtain ⟨rfl, rfl⟩ := he0
    obtain ⟨x1', o1', he1, -, r0, r1, r2⟩ := S4.at 1 (by omega)
    simp only [Option.some.injEq, Addr.mk.injEq, and_true] at he1
    obtain ⟨rfl, rfl⟩ := he1
    have cs : w4.cell? ⟨g, 0, none⟩ = some (.int .i64 l[0].st) := p0
    have cd : w4.cell? ⟨g, 3, none⟩ = some (.int .i64 l[1].st) := r0
    have fd := Fz4 3
    have a4 : w4.cell? ⟨B, 4, none⟩ = some (.slice (some ⟨g, 0, none⟩) l.length vc) := cell_at mB4 4
    clear p0 p1 p2 r0 r1 r2
    generalize l[0].st = sv at *
    generalize l[1].st = dv at *
    obtain ⟨l9, hl9, SF0⟩ := S4.any (j := 3) (z := sv)
    have ck : (w4.setCell ⟨g, 3, none⟩ (.int .i64 sv)).cell? ⟨g, 0, none⟩ = some (.int .i64 sv) := by rw [set_cell cs, if_neg (by omega)]
    have ck2 : (w4.setCell ⟨g, 3, none⟩ (.int .i64 sv)).drew.cell? ⟨g, 0, none⟩ = some (.int .i64 sv) := ck
    have i1 : (0 : Int) < (l.length : Int) := by omega
    have i2 : (1 : Int) < (l.length : Int) := by omega
    have i3 : 0 < l.length := by omega
    have i4 : 1 < l.length := by omega
    have hBg : B ≠ g := fun h => hgB h.symm
    have CF0 := (C4.set g 3 (.int .i64 sv) hgc hgW).drewN 1
    have KF0 := (K4.set g 3 (.int .i64 sv) (by omega)).drew
    have mRF0 := h_other (i := 3) mR4 (by omega : w.heap.size ≠ g) (.int .i64 sv)
    have mBF0 := h_other (i := 3) mB4 hBg (.int .i64 sv)
    have HL9 : Hid (l.length = l9.length) := hl9.symm
    have hl95 : l9.length ≤ 5 := by omega
    clear hl9 C4 K4 mR4 mB4 S4
    go_wp2
    go_region_held3 (fun w' => w'.cell? ⟨B, 4, none⟩ = some (.slice (some ⟨g, 0, none⟩) l.length vc) ∧ w'.cell? ⟨g, 0, none⟩ = some (.int .i64 sv)) (go_keep) (fail)
    all_goals
      have CF : Is W0 a n cap c (w4.setCell ⟨g, 3, none⟩ (.int .i64 sv)).drew := CF0
      have KF : Kb c w (w4.setCell ⟨g, 3, none⟩ (.int .i64 sv)).drew := KF0
      have mRF : (w4.setCell ⟨g, 3, none⟩ (.int .i64 sv)).drew.heap[w.heap.size]? = _ := mRF0
      have mBF : (w4.setCell ⟨g, 3, none⟩ (.int .i64 sv)).drew.heap[B]? = _ := mBF0
      have SF : Stops (w4.setCell ⟨g, 3, none⟩ (.int .i64 sv)).drew (some ⟨g, 0, none⟩) l9 := SF0
      clear CF0 KF0 mRF0 mBF0 SF0 cs cd fd a4 ck ck2
      generalize (w4.setCell ⟨g, 3, none⟩ (.int .i64 sv)).drew = wf at *
      have b0 : wf.cell? ⟨B, 0, none⟩ = some (.int .i64 (h0)) := cell_at mBF 0
      have b1 : wf.cell? ⟨B, 1, none⟩ = some (.int .i64 (h1)) := cell_at mBF 1
      have b2 : wf.cell? ⟨B, 2, none⟩ = some (.int .i64 (h2)) := cell_at mBF 2
      have b3 : wf.cell? ⟨B, 3, none⟩ = some (.int .i64 (h3)) := cell_at mBF 3
      have b4 : wf.cell? ⟨B, 4, none⟩ = some (.slice (some ⟨g, 0, none⟩) l.length vc) := cell_at mBF 4
      have z0 : wf.cell? ⟨w.heap.size, 0, none⟩ = some (.int .i64 0) := cell_at mRF 0
      have z1 : wf.cell? ⟨w.heap.size, 1, none⟩ = some (.int .i64 0) := cell_at mRF 1
      have z2 : wf.cell? ⟨w.heap.size, 2, none⟩ = some (.int .i64 0) := cell_at mRF 2
      have z3 : wf.cell? ⟨w.heap.size, 3, none⟩ = some (.int .i64 0) := cell_at mRF 3
      have z4 : wf.cell? ⟨w.heap.size, 4, none⟩ = some (.slice none 0 0) := cell_at mRF 4
      have y0 : wf.frozen? ⟨w.heap.size, 0, none⟩ = false := frozen_at mRF 0
      have y1 : wf.frozen? ⟨w.heap.size, 1, none⟩ = false := frozen_at mRF 1
      have y2 : wf.frozen? ⟨w.heap.size, 2, none⟩ = false := frozen_at mRF 2
      have y3 : wf.frozen? ⟨w.heap.size, 3, none⟩ = false := frozen_at mRF 3
      have y4 : wf.frozen? ⟨w.heap.size, 4, none⟩ = false := frozen_at mRF 4
      have HCF : Hid (∀ i u, _) := fun i u => ((((CF.set w.heap.size 0 (.int .i64 (h0)) hRc hW0).set w.heap.size 1 (.int .i64 (h1)) hRc hW0).set w.heap.size 2 (.int .i64 (h2)) hRc hW0).set w.heap.size 3 (.int .i64 (h3)) hRc hW0).set w.heap.size i u hRc hW0
      have HKF : Hid (∀ i u, _) := fun i u => ((((KF.set w.heap.size 0 (.int .i64 (h0)) (Nat.le_refl _)).set w.heap.size 1 (.int .i64 (h1)) (Nat.le_refl _)).set w.heap.size 2 (.int .i64 (h2)) (Nat.le_refl _)).set w.heap.size 3 (.int .i64 (h3)) (Nat.le_refl _)).set w.heap.size i u (Nat.le_refl _)
      have HSF : Hid (∀ W, (∀ p : Addr, p.block ≠ w.heap.size → W.cell? p = wf.cell? p) → W.heap.size = wf.heap.size → Stops W (some ⟨g, 0, none⟩) (l9)) := fun W hc hz => SF.away hz hc hgR
      clear CF KF mRF mBF SF
      go_wp2
      refine bodyPost_ret (v := trV ⟨h0, h1, h2, h3⟩ (some ⟨g, 0, none⟩) l.length vc) (by simp [results, Try.results24, go_sem, z0, z1, z2, z3, z4]) rfl ?_
      refine ⟨⟨⟨h0, h1, h2, h3⟩, l9, some ⟨g, 0, none⟩, vc, by rw [HL9.out], HSF.out _ (fun p hp => by rw [cell_other hp, cell_other hp, cell_other hp, cell_other hp, cell_other hp]) (by simp), hl95, fun b o e => by simp only [Option.some.injEq, Addr.mk.injEq, and_true] at e; omega⟩, HCF.out 4 _, HKF.out 4 _⟩
  have t4 : (x == 4) = false := beq_eq_false_iff_ne.2 e4
  clear e4
  by_cases e5 : x = 5
  · have t5 : (x == 5) = true := beq_iff_eq.2 e5
    clear e5
    obtain ⟨x0', o0', he0, -, p0, p1, p2⟩ := S4.at 0 (by omega)
    simp only [Option.some.injEq, Addr.mk.injEq, and_true] at he0
    obtain ⟨rfl, rfl⟩ := he0
    have NX := new_below w4 (.cells #[.int .i64 (-1), .int .i64 4000, .int .i64 4001] 3)
    have CP := C4.alloc (.cells #[.int .i64 (-1), .int .i64 4000, .int .i64 4001] 3)
    have mBP := kept NX (lt_of mB4) mB4
    have mRP := kept NX (lt_of mR4) mR4
    have SP := S4.on NX
    have KP := K4.alloc (.cells #[.int .i64 (-1), .int .i64 4000, .int .i64 4001] 3)
    have hc4 := C4.lt
    have RP := rowOf_new (fun _ => True) w4 [-1, 4000, 4001] 3 (fun _ _ => trivial)
    have gl : g < w4.heap.size := by
      rcases S4 with h | ⟨b9, o9, h9, h8, -⟩
      · rw [h] at hl2; simp at hl2
      · simp only [Option.some.injEq, Addr.mk.injEq] at h9; omega
    have FzP : (w4.alloc (.cells #[.int .i64 (-1), .int .i64 4000, .int .i64 4001] 3)).frozen? ⟨g, 2, none⟩ = false := (NX.frozen (p := ⟨g, 2, none⟩) gl).trans (Fz4 2)
    have a4 : w4.cell? ⟨B, 4, none⟩ = some (.slice (some ⟨g, 0, none⟩) l.length vc) := cell_at mB4 4
    have HPK : Hid (∀ wx, Is W0 a n cap c wx → Cur.RowOf (fun _ => True) wx w4.heap.size 3 → Calls Try.prog 29 #[.pointer (some ⟨c, 0, none⟩), .slice (some ⟨w4.heap.size, 0, none⟩) 3 3] wx fun e w' => (∃ x : Int, e = .returned (.int .i64 x) ∧ True) ∧ Is W0 a n cap c w' ∧ Moved c wx w') := fun wx h R => pickInt_any h (fun _ => True) w4.heap.size 3 3 (by omega) (by omega) (by omega) R
    have i1 : (0 : Int) < (l.length : Int) := by omega
    have i3 : 0 < l.length := by omega
    have hBg : B ≠ g := fun h => hgB h.symm
    have hB4 : B ≠ w4.heap.size := by have := lt_of mB4; omega
    clear C4 mB4 mR4 S4 K4 NX Fz4 p0 p1 p2
    go_wp2
    go_region_held3 (fun w' => w'.cell? ⟨B, 4, none⟩ = some (.slice (some ⟨g, 0, none⟩) l.length vc)) (go_keep) (first
      | (go_at_call 29; refine (HPK.out _ ?_ ?_).mono ?_; (first | exact CP | exact CP.drewN 1); (exact RP); rintro e w5 ⟨⟨q, rfl, -⟩, C5, M5⟩; have mB5 : w5.heap[B]? = _ := (M5.block _ hBc).trans mBP; have mR5 : w5.heap[w.heap.size]? = _ := (M5.block _ hRc).trans mRP; have S5 : Stops w5 (some ⟨g, 0, none⟩) l := SP.moved ⟨M5.size, M5.block⟩ hgc; have K5 : Kb c w w5 := KP.trans (Kb.moved ⟨M5.size, M5.block⟩); have fz5 : w5.frozen? ⟨g, 2, none⟩ = false := (M5.frozen (p := ⟨g, 2, none⟩) hgc).trans FzP; have b45 : w5.cell? ⟨B, 4, none⟩ = some (.slice (some ⟨g, 0, none⟩) l.length vc) := cell_at mB5 4; obtain ⟨c0', c1', hc9, -, u0, u1, u2⟩ := S5.at 0 i3; simp only [Option.some.injEq, Addr.mk.injEq, and_true] at hc9; obtain ⟨rfl, rfl⟩ := hc9; have cd5 : w5.cell? ⟨g, 2, none⟩ = some (.int .i64 l[0].dp) := u2; clear u0 u1 u2))
    all_goals
      obtain ⟨l9, hl9, SF⟩ := S5.any (j := 2) (z := q)
      have HL9 : Hid (l.length = l9.length) := hl9.symm
      have hl95 : l9.length ≤ 5 := by omega
      have CF := C5.set g 2 (.int .i64 q) hgc hgW
      have KF := K5.set g 2 (.int .i64 q) (by omega)
      have mRF := h_other (i := 2) mR5 (by omega : w.heap.size ≠ g) (.int .i64 q)
      have mBF := h_other (i := 2) mB5 hBg (.int .i64 q)
      clear hl9 C5 M5 mB5 mR5 S5 K5 fz5 b45 cd5 CP mBP mRP SP KP RP FzP a4
      generalize w5.setCell ⟨g, 2, none⟩ (.int .i64 q) = wf at *
      have b0 : wf.cell? ⟨B, 0, none⟩ = some (.int .i64 (h0)) := cell_at mBF 0
      have b1 : wf.cell? ⟨B, 1, none⟩ = some (.int .i64 (h1)) := cell_at mBF 1
      have b2 : wf.cell? ⟨B, 2, none⟩ = some (.int .i64 (h2)) := cell_at mBF 2
      have b3 : wf.cell? ⟨B, 3, none⟩ = some (.int .i64 (h3)) := cell_at mBF 3
      have b4 : wf.cell? ⟨B, 4, none⟩ = some (.slice (some ⟨g, 0, none⟩) l.length vc) := cell_at mBF 4
      have z0 : wf.cell? ⟨w.heap.size, 0, none⟩ = some (.int .i64 0) := cell_at mRF 0
      have z1 : wf.cell? ⟨w.heap.size, 1, none⟩ = some (.int .i64 0) := cell_at mRF 1
      have z2 : wf.cell? ⟨w.heap.size, 2, none⟩ = some (.int .i64 0) := cell_at mRF 2
      have z3 : wf.cell? ⟨w.heap.size, 3, none⟩ = some (.int .i64 0) := cell_at mRF 3
      have z4 : wf.cell? ⟨w.heap.size, 4, none⟩ = some (.slice none 0 0) := cell_at mRF 4
      have y0 : wf.frozen? ⟨w.heap.size, 0, none⟩ = false := frozen_at mRF 0
      have y1 : wf.frozen? ⟨w.heap.size, 1, none⟩ = false := frozen_at mRF 1
      have y2 : wf.frozen? ⟨w.heap.size, 2, none⟩ = false := frozen_at mRF 2
      have y3 : wf.frozen? ⟨w.heap.size, 3, none⟩ = false := frozen_at mRF 3
      have y4 : wf.frozen? ⟨w.heap.size, 4, none⟩ = false := frozen_at mRF 4
      have HCF : Hid (∀ i u, _) := fun i u => ((((CF.set w.heap.size 0 (.int .i64 (h0)) hRc hW0).set w.heap.size 1 (.int .i64 (h1)) hRc hW0).set w.heap.size 2 (.int .i64 (h2)) hRc hW0).set w.heap.size 3 (.int .i64 (h3)) hRc hW0).set w.heap.size i u hRc hW0
      have HKF : Hid (∀ i u, _) := fun i u => ((((KF.set w.heap.size 0 (.int .i64 (h0)) (Nat.le_refl _)).set w.heap.size 1 (.int .i64 (h1)) (Nat.le_refl _)).set w.heap.size 2 (.int .i64 (h2)) (Nat.le_refl _)).set w.heap.size 3 (.int .i64 (h3)) (Nat.le_refl _)).set w.heap.size i u (Nat.le_refl _)
      have HSF : Hid (∀ W, (∀ p : Addr, p.block ≠ w.heap.size → W.cell? p = wf.cell? p) → W.heap.size = wf.heap.size → Stops W (some ⟨g, 0, none⟩) (l9)) := fun W hc hz => SF.away hz hc hgR
      clear CF KF mRF mBF SF
      go_wp2
      refine bodyPost_ret (v := trV ⟨h0, h1, h2, h3⟩ (some ⟨g, 0, none⟩) l.length vc) (by simp [results, Try.results24, go_sem, z0, z1, z2, z3, z4]) rfl ?_
      refine ⟨⟨⟨h0, h1, h2, h3⟩, l9, some ⟨g, 0, none⟩, vc, by rw [HL9.out], HSF.out _ (fun p hp => by rw [cell_other hp, cell_other hp, cell_other hp, cell_other hp, cell_other hp]) (by simp), hl95, fun b o e => by simp only [Option.some.injEq, Addr.mk.injEq, and_true] at e; omega⟩, HCF.out 4 _, HKF.out 4 _⟩
  have t5 : (x == 5) = false := beq_eq_false_iff_ne.2 e5
  clear e5
  by_cases e6 : x = 6
  · have t6 : (x == 6) = true := beq_iff_eq.2 e6
    clear e6
    have hl1 : (l.take 1).length = 1 := by simp; omega
    have HL1 : Hid (_) := hl1
    clear hl1
    have a4 : w4.cell? ⟨B, 4, none⟩ = some (.slice (some ⟨g, 0, none⟩) l.length vc) := cell_at mB4 4
    have a5 : w4.frozen? ⟨B, 4, none⟩ = false := frozen_at mB4 4
    have i1 : (1 : Int) ≤ (vc : Int) := by omega
    have i2 : 1 ≤ vc := by omega
    have CF := C4.set B 4 (.slice (some ⟨g, 0, none⟩) 1 vc) hBc hBW
    have mBF := h_set (i := 4) mB4 (.slice (some ⟨g, 0, none⟩) 1 vc)
    have mRF := h_other (i := 4) mR4 (by omega : w.heap.size ≠ B) (.slice (some ⟨g, 0, none⟩) 1 vc)
    have SF := Stops.first (S4.away (World.size_setCell w4 ⟨B, 4, none⟩ (.slice (some ⟨g, 0, none⟩) 1 vc)) (fun p hp => cell_other hp) hgB)
    have KF := K4.set B 4 (.slice (some ⟨g, 0, none⟩) 1 vc) (by omega)
    clear C4 K4 mR4 mB4 S4 Fz4
    have b0 : (w4.setCell ⟨B, 4, none⟩ (.slice (some ⟨g, 0, none⟩) 1 vc)).cell? ⟨B, 0, none⟩ = some (.int .i64 (h0)) := cell_at mBF 0
    have b1 : (w4.setCell ⟨B, 4, none⟩ (.slice (some ⟨g, 0, none⟩) 1 vc)).cell? ⟨B, 1, none⟩ = some (.int .i64 (h1)) := cell_at mBF 1
    have b2 : (w4.setCell ⟨B, 4, none⟩ (.slice (some ⟨g, 0, none⟩) 1 vc)).cell? ⟨B, 2, none⟩ = some (.int .i64 (h2)) := cell_at mBF 2
    have b3 : (w4.setCell ⟨B, 4, none⟩ (.slice (some ⟨g, 0, none⟩) 1 vc)).cell? ⟨B, 3, none⟩ = some (.int .i64 (h3)) := cell_at mBF 3
    have b4 : (w4.setCell ⟨B, 4, none⟩ (.slice (some ⟨g, 0, none⟩) 1 vc)).cell? ⟨B, 4, none⟩ = some (.slice (some ⟨g, 0, none⟩) 1 vc) := cell_at mBF 4
    have z0 : (w4.setCell ⟨B, 4, none⟩ (.slice (some ⟨g, 0, none⟩) 1 vc)).cell? ⟨w.heap.size, 0, none⟩ = some (.int .i64 0) := cell_at mRF 0
    have z1 : (w4.setCell ⟨B, 4, none⟩ (.slice (some ⟨g, 0, none⟩) 1 vc)).cell? ⟨w.heap.size, 1, none⟩ = some (.int .i64 0) := cell_at mRF 1
    have z2 : (w4.setCell ⟨B, 4, none⟩ (.slice (some ⟨g, 0, none⟩) 1 vc)).cell? ⟨w.heap.size, 2, none⟩ = some (.int .i64 0) := cell_at mRF 2
    have z3 : (w4.setCell ⟨B, 4, none⟩ (.slice (some ⟨g, 0, none⟩) 1 vc)).cell? ⟨w.heap.size, 3, none⟩ = some (.int .i64 0) := cell_at mRF 3
    have z4 : (w4.setCell ⟨B, 4, none⟩ (.slice (some ⟨g, 0, none⟩) 1 vc)).cell? ⟨w.heap.size, 4, none⟩ = some (.slice none 0 0) := cell_at mRF 4
    have y0 : (w4.setCell ⟨B, 4, none⟩ (.slice (some ⟨g, 0, none⟩) 1 vc)).frozen? ⟨w.heap.size, 0, none⟩ = false := frozen_at mRF 0
    have y1 : (w4.setCell ⟨B, 4, none⟩ (.slice (some ⟨g, 0, none⟩) 1 vc)).frozen? ⟨w.heap.size, 1, none⟩ = false := frozen_at mRF 1
    have y2 : (w4.setCell ⟨B, 4, none⟩ (.slice (some ⟨g, 0, none⟩) 1 vc)).frozen? ⟨w.heap.size, 2, none⟩ = false := frozen_at mRF 2
    have y3 : (w4.setCell ⟨B, 4, none⟩ (.slice (some ⟨g, 0, none⟩) 1 vc)).frozen? ⟨w.heap.size, 3, none⟩ = false := frozen_at mRF 3
    have y4 : (w4.setCell ⟨B, 4, none⟩ (.slice (some ⟨g, 0, none⟩) 1 vc)).frozen? ⟨w.heap.size, 4, none⟩ = false := frozen_at mRF 4
    have HCF : Hid (∀ i u, _) := fun i u => ((((CF.set w.heap.size 0 (.int .i64 (h0)) hRc hW0).set w.heap.size 1 (.int .i64 (h1)) hRc hW0).set w.heap.size 2 (.int .i64 (h2)) hRc hW0).set w.heap.size 3 (.int .i64 (h3)) hRc hW0).set w.heap.size i u hRc hW0
    have HKF : Hid (∀ i u, _) := fun i u => ((((KF.set w.heap.size 0 (.int .i64 (h0)) (Nat.le_refl _)).set w.heap.size 1 (.int .i64 (h1)) (Nat.le_refl _)).set w.heap.size 2 (.int .i64 (h2)) (Nat.le_refl _)).set w.heap.size 3 (.int .i64 (h3)) (Nat.le_refl _)).set w.heap.size i u (Nat.le_refl _)
    have HSF : Hid (∀ W, (∀ p : Addr, p.block ≠ w.heap.size → W.cell? p = (w4.setCell ⟨B, 4, none⟩ (.slice (some ⟨g, 0, none⟩) 1 vc)).cell? p) → W.heap.size = (w4.setCell ⟨B, 4, none⟩ (.slice (some ⟨g, 0, none⟩) 1 vc)).heap.size → Stops W (some ⟨g, 0, none⟩) (l.take 1)) := fun W hc hz => SF.away hz hc hgR
    clear CF KF mRF mBF SF
    go_wp2
    refine bodyPost_ret (v := trV ⟨h0, h1, h2, h3⟩ (some ⟨g, 0, none⟩) 1 vc) (by simp [results, Try.results24, go_sem, z0, z1, z2, z3, z4]) rfl ?_
    refine ⟨⟨⟨h0, h1, h2, h3⟩, l.take 1, some ⟨g, 0, none⟩, vc, by rw [HL1.out], HSF.out _ (fun p hp => by rw [cell_other hp, cell_other hp, cell_other hp, cell_other hp, cell_other hp]) (by simp), by rw [HL1.out]; omega, fun b o e => by simp only [Option.some.injEq, Addr.mk.injEq, and_true] at e; omega⟩, HCF.out 4 _, HKF.out 4 _⟩
  have t6 : (x == 6) = false := beq_eq_false_iff_ne.2 e6
  clear e6
  have CF := C4
  have KF := K4
  have mRF := mR4
  have mBF := mB4
  have SF := S4
  clear C4 K4 mR4 mB4 S4 Fz4
  have b0 : w4.cell? ⟨B, 0, none⟩ = some (.int .i64 (h0)) := cell_at mBF 0
  have b1 : w4.cell? ⟨B, 1, none⟩ = some (.int .i64 (h1)) := cell_at mBF 1
  have b2 : w4.cell? ⟨B, 2, none⟩ = some (.int .i64 (h2)) := cell_at mBF 2
  have b3 : w4.cell? ⟨B, 3, none⟩ = some (.int .i64 (h3)) := cell_at mBF 3
  have b4 : w4.cell? ⟨B, 4, none⟩ = some (.slice (some ⟨g, 0, none⟩) l.length vc) := cell_at mBF 4
  have z0 : w4.cell? ⟨w.heap.size, 0, none⟩ = some (.int .i64 0) := cell_at mRF 0
  have z1 : w4.cell? ⟨w.heap.size, 1, none⟩ = some (.int .i64 0) := cell_at mRF 1
  have z2 : w4.cell? ⟨w.heap.size, 2, none⟩ = some (.int .i64 0) := cell_at mRF 2
  have z3 : w4.cell? ⟨w.heap.size, 3, none⟩ = some (.int .i64 0) := cell_at mRF 3
  have z4 : w4.cell? ⟨w.heap.size, 4, none⟩ = some (.slice none 0 0) := cell_at mRF 4
  have y0 : w4.frozen? ⟨w.heap.size, 0, none⟩ = false := frozen_at mRF 0
  have y1 : w4.frozen? ⟨w.heap.size, 1, none⟩ = false := frozen_at mRF 1
  have y2 : w4.frozen? ⟨w.heap.size, 2, none⟩ = false := frozen_at mRF 2
  have y3 : w4.frozen? ⟨w.heap.size, 3, none⟩ = false := frozen_at mRF 3
  have y4 : w4.frozen? ⟨w.heap.size, 4, none⟩ = false := frozen_at mRF 4
  have HCF : Hid (∀ i u, _) := fun i u => ((((CF.set w.heap.size 0 (.int .i64 (h0)) hRc hW0).set w.heap.size 1 (.int .i64 (h1)) hRc hW0).set w.heap.size 2 (.int .i64 (h2)) hRc hW0).set w.heap.size 3 (.int .i64 (h3)) hRc hW0).set w.heap.size i u hRc hW0
  have HKF : Hid (∀ i u, _) := fun i u => ((((KF.set w.heap.size 0 (.int .i64 (h0)) (Nat.le_refl _)).set w.heap.size 1 (.int .i64 (h1)) (Nat.le_refl _)).set w.heap.size 2 (.int .i64 (h2)) (Nat.le_refl _)).set w.heap.size 3 (.int .i64 (h3)) (Nat.le_refl _)).set w.heap.size i u (Nat.le_refl _)
  have HSF : Hid (∀ W, (∀ p : Addr, p.block ≠ w.heap.size → W.cell? p = w4.cell? p) → W.heap.size = w4.heap.size → Stops W (some ⟨g, 0, none⟩) (l)) := fun W hc hz => SF.away hz hc hgR
  clear CF KF mRF mBF SF
  go_wp2
  refine bodyPost_ret (v := trV ⟨h0, h1, h2, h3⟩ (some ⟨g, 0, none⟩) l.length vc) (by simp [results, Try.results24, go_sem, z0, z1, z2, z3, z4]) rfl ?_
  refine ⟨⟨⟨h0, h1, h2, h3⟩, l, some ⟨g, 0, none⟩, vc, rfl, HSF.out _ (fun p hp => by rw [cell_other hp, cell_other hp, cell_other hp, cell_other hp, cell_other hp]) (by simp), hl5, fun b o e => by simp only [Option.some.injEq, Addr.mk.injEq, and_true] at e; omega⟩, HCF.out 4 _, HKF.out 4 _⟩

end Tn
end Go.Proofs.Ytbjojljmgcnpnad

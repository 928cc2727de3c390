/- HandUpdate of the model. -/
import Derived.Test.YtlgolnddhfadeabHnUpd
namespace Go.Proofs.Ytlgolnddhfadeab
namespace Hn
open Go.ChangeShapes Go.WideShapes Go.ChangeAt Go.RowKit Go.Joins
open Pk (new_below join_below cell_at heap_new frozen_at lt_of kept heap_old Drawn info_of Room own_form own_below)
set_option linter.unusedSimpArgs false
set_option linter.unusedVariables false

/-- Nine cells of a block are written. -/
def put9 (w : World) (P : Nat) (v0 v1 v2 v3 v4 v5 v6 v7 v8 : Value) : World := ((((((((w.setCell ⟨P, 0, none⟩ v0).setCell ⟨P, 1, none⟩ v1).setCell ⟨P, 2, none⟩ v2).setCell ⟨P, 3, none⟩ v3).setCell ⟨P, 4, none⟩ v4).setCell ⟨P, 5, none⟩ v5).setCell ⟨P, 6, none⟩ v6).setCell ⟨P, 7, none⟩ v7).setCell ⟨P, 8, none⟩ v8

theorem put9_heap {w : World} {P : Nat} {a0 a1 a2 a3 a4 a5 a6 a7 a8 : Value} {t : TypeId} (h : w.heap[P]? = some (.cells #[a0, a1, a2, a3, a4, a5, a6, a7, a8] t (0, 0))) (v0 v1 v2 v3 v4 v5 v6 v7 v8 : Value) : (put9 w P v0 v1 v2 v3 v4 v5 v6 v7 v8).heap[P]? = some (.cells #[v0, v1, v2, v3, v4, v5, v6, v7, v8] t (0, 0)) := by
  unfold put9 World.setCell
  simp [Array.getElem?_modify, h]

theorem put9_other {w : World} {P k : Nat} (hk : k ≠ P) (v0 v1 v2 v3 v4 v5 v6 v7 v8 : Value) : (put9 w P v0 v1 v2 v3 v4 v5 v6 v7 v8).heap[k]? = w.heap[k]? := by
  unfold put9
  rw [Below.heap_setCell _ _ _ _ hk, Below.heap_setCell _ _ _ _ hk, Below.heap_setCell _ _ _ _ hk, Below.heap_setCell _ _ _ _ hk, Below.heap_setCell _ _ _ _ hk, Below.heap_setCell _ _ _ _ hk, Below.heap_setCell _ _ _ _ hk, Below.heap_setCell _ _ _ _ hk, Below.heap_setCell _ _ _ _ hk]

theorem put9_size (w : World) (P : Nat) (v0 v1 v2 v3 v4 v5 v6 v7 v8 : Value) : (put9 w P v0 v1 v2 v3 v4 v5 v6 v7 v8).heap.size = w.heap.size := by
  unfold put9
  rw [World.size_setCell, World.size_setCell, World.size_setCell, World.size_setCell, World.size_setCell, World.size_setCell, World.size_setCell, World.size_setCell, World.size_setCell]

theorem put9_below {B P : Nat} {a w : World} (h : Below B a w) (hP : B ≤ P) (v0 v1 v2 v3 v4 v5 v6 v7 v8 : Value) : Below B a (put9 w P v0 v1 v2 v3 v4 v5 v6 v7 v8) :=
  ((((((((h.setCell (p := ⟨P, 0, none⟩) hP _).setCell (p := ⟨P, 1, none⟩) hP _).setCell (p := ⟨P, 2, none⟩) hP _).setCell (p := ⟨P, 3, none⟩) hP _).setCell (p := ⟨P, 4, none⟩) hP _).setCell (p := ⟨P, 5, none⟩) hP _).setCell (p := ⟨P, 6, none⟩) hP _).setCell (p := ⟨P, 7, none⟩) hP _).setCell (p := ⟨P, 8, none⟩) hP _

set_option maxRecDepth 100000 in
set_option maxHeartbeats 1000000 in
theorem specUpd_val (x : Pl) (o : Hnd) (ver : Int) (b u : Nat) (l : List Int) (cap : Nat) (w : World) (hz : o.ol.length ≤ 1048576) (hz2 : o.sl.length ≤ 1048576) (hz3 : l.length ≤ 1048576) (I : In w x o) (fl : Flat x) (J : Ints w (some ⟨b, u, none⟩) l) :
    Calls Try.prog 5 #[hnV x o, .int .i64 ver, .slice (some ⟨b, u, none⟩) l.length cap] w fun e w' => ∃ y, e = .returned (.tuple #[hnV y (updO (updB o ver l) o ver l), .bool (updB o ver l)]) ∧ Copied w.heap.size w' y (updO (updB o ver l) o ver l) ∧ Below w.heap.size w w' := by
  have HZ3 : Hid (l.length ≤ 1048576) := hz3
  obtain ⟨k0, k1, hs⟩ := two_blocks w (hnB x o 32) (.cells #[.int .i64 0, .int .i64 0, .int .i64 0, .int .i64 0, .int .i64 0, .int .i64 0, .int .i64 0, .slice none 0 0, .slice none 0 0] 32)
  have L : Below w.heap.size w ((w.alloc (hnB x o 32)).alloc (.cells #[.int .i64 0, .int .i64 0, .int .i64 0, .int .i64 0, .int .i64 0, .int .i64 0, .int .i64 0, .slice none 0 0, .slice none 0 0] 32)) := join_below (new_below _ _) (new_below _ _)
  have HC : Hid (∀ W : World, In W x o → _) := fun W h => specCopy_val x o W hz hz2 h fl
  have HO : Hid (∀ W : World, Ints W (some ⟨b, u, none⟩) l → _) := fun W h => specOff_val (some ⟨b, u, none⟩) l cap W hz3 h
  have HH : Hid (∀ (y : Pl) (W : World), In W y o → _) := fun y W h => specHand_val y o W hz hz2 h
  clear hz hz2 hz3 fl
  cases h3 : handB o
  · have HV : Hid (updB o ver l = false) := by show _ = _; unfold updB; rw [h3, Bool.false_and]
    rw [h3] at HH
    clear h3
    go_enter Try.func5, Try.ntmps5
    go_wp2_with fail
    refine named fun V0 hV => ?_
    rw [← hV] at k0 k1 L hs
    clear hV
    refine (HC.out _ (I.on L)).mono ?_
    rintro e v1 ⟨y, rfl, C1, L1⟩
    have n0 := kept L1 (lt_of k0) k0
    have n1 := kept L1 (lt_of k1) k1
    have B1 := join_below L L1
    have hg : w.heap.size + 1 + 1 ≤ V0.heap.size := Nat.le_of_eq hs.symm
    have hl1 : V0.heap.size ≤ v1.heap.size := L1.size
    have a0 : v1.cell? ⟨w.heap.size, 0, none⟩ = some (.int .i64 o.dv) := cell_at n0 0
    have a1 : v1.cell? ⟨w.heap.size, 1, none⟩ = some (.int .i64 o.p) := cell_at n0 1
    have a2 : v1.cell? ⟨w.heap.size, 2, none⟩ = some (.int .i64 o.q) := cell_at n0 2
    have a3 : v1.cell? ⟨w.heap.size, 3, none⟩ = some (.int .i64 o.g) := cell_at n0 3
    have a4 : v1.cell? ⟨w.heap.size, 4, none⟩ = some (.int .i64 o.op) := cell_at n0 4
    have a5 : v1.cell? ⟨w.heap.size, 5, none⟩ = some (.int .i64 o.is) := cell_at n0 5
    have a6 : v1.cell? ⟨w.heap.size, 6, none⟩ = some (.int .i64 o.ve) := cell_at n0 6
    have a7 : v1.cell? ⟨w.heap.size, 7, none⟩ = some (.slice x.a o.ol.length x.c) := cell_at n0 7
    have a8 : v1.cell? ⟨w.heap.size, 8, none⟩ = some (.slice x.b o.sl.length x.d) := cell_at n0 8
    have c0 : v1.frozen? ⟨w.heap.size, 0, none⟩ = false := frozen_at n0 0
    have c1 : v1.frozen? ⟨w.heap.size, 1, none⟩ = false := frozen_at n0 1
    have c2 : v1.frozen? ⟨w.heap.size, 2, none⟩ = false := frozen_at n0 2
    have c3 : v1.frozen? ⟨w.heap.size, 3, none⟩ = false := frozen_at n0 3
    have c4 : v1.frozen? ⟨w.heap.size, 4, none⟩ = false := frozen_at n0 4
    have c5 : v1.frozen? ⟨w.heap.size, 5, none⟩ = false := frozen_at n0 5
    have c6 : v1.frozen? ⟨w.heap.size, 6, none⟩ = false := frozen_at n0 6
    have c7 : v1.frozen? ⟨w.heap.size, 7, none⟩ = false := frozen_at n0 7
    have c8 : v1.frozen? ⟨w.heap.size, 8, none⟩ = false := frozen_at n0 8
    obtain ⟨V1, hV⟩ : ∃ V, V = (put9 v1 (w.heap.size) (.int .i64 o.dv) (.int .i64 o.p) (.int .i64 o.q) (.int .i64 o.g) (.int .i64 o.op) (.int .i64 o.is) (.int .i64 o.ve) (.slice y.a o.ol.length y.c) (.slice y.b o.sl.length y.d)) := ⟨_, rfl⟩
    have q0 : V1.heap[w.heap.size]? = some (hnB y o 32) := by rw [hV]; exact put9_heap n0 ..
    have q1 : V1.heap[w.heap.size + 1]? = some (.cells #[.int .i64 0, .int .i64 0, .int .i64 0, .int .i64 0, .int .i64 0, .int .i64 0, .int .i64 0, .slice none 0 0, .slice none 0 0] 32) := by rw [hV, put9_other (by omega)]; exact n1
    have SW : Sw (w.heap.size) (w.heap.size + 1) v1 V1 := by rw [hV]; exact ⟨put9_size .., fun b h1 _ => put9_other h1 ..⟩
    have C2 : Copied V0.heap.size V1 y o := ⟨SW.own C1.off (by omega) (by omega), SW.own C1.seen (by omega) (by omega)⟩
    have B2 : Below w.heap.size w V1 := by rw [hV]; exact put9_below B1 (Nat.le_refl _) ..
    have hl2 : V0.heap.size ≤ V1.heap.size := by rw [SW.size]; exact hl1
    have HV1 : Hid (V1 = (put9 v1 (w.heap.size) (.int .i64 o.dv) (.int .i64 o.p) (.int .i64 o.q) (.int .i64 o.g) (.int .i64 o.op) (.int .i64 o.is) (.int .i64 o.ve) (.slice y.a o.ol.length y.c) (.slice y.b o.sl.length y.d))) := hV
    clear k0 k1 L L1 hs n0 n1 C1 SW hl1 hV
    go_wp2_with fail
    refine named fun V hW => ?_
    obtain rfl : V = V1 := hW.trans HV1.out.symm
    clear hW HV1 B1 a0 a1 a2 a3 a4 a5 a6 a7 a8 c0 c1 c2 c3 c4 c5 c6 c7 c8
    refine (HH.out y _ C2.in).mono ?_
    rintro e v2 ⟨rfl, L2⟩
    have m0 := kept L2 (lt_of q0) q0
    have m1 := kept L2 (lt_of q1) q1
    have C3 := C2.on L2
    have B3 := join_below B2 L2
    have hl3 : V0.heap.size ≤ v2.heap.size := Nat.le_trans hl2 L2.size
    clear q0 q1 C2 B2 L2 hl2
    have e0 : v2.cell? ⟨w.heap.size + 1, 0, none⟩ = some (.int .i64 0) := cell_at m1 0
    have e1 : v2.cell? ⟨w.heap.size + 1, 1, none⟩ = some (.int .i64 0) := cell_at m1 1
    have e2 : v2.cell? ⟨w.heap.size + 1, 2, none⟩ = some (.int .i64 0) := cell_at m1 2
    have e3 : v2.cell? ⟨w.heap.size + 1, 3, none⟩ = some (.int .i64 0) := cell_at m1 3
    have e4 : v2.cell? ⟨w.heap.size + 1, 4, none⟩ = some (.int .i64 0) := cell_at m1 4
    have e5 : v2.cell? ⟨w.heap.size + 1, 5, none⟩ = some (.int .i64 0) := cell_at m1 5
    have e6 : v2.cell? ⟨w.heap.size + 1, 6, none⟩ = some (.int .i64 0) := cell_at m1 6
    have e7 : v2.cell? ⟨w.heap.size + 1, 7, none⟩ = some (.slice none 0 0) := cell_at m1 7
    have e8 : v2.cell? ⟨w.heap.size + 1, 8, none⟩ = some (.slice none 0 0) := cell_at m1 8
    have f0 : v2.frozen? ⟨w.heap.size + 1, 0, none⟩ = false := frozen_at m1 0
    have f1 : v2.frozen? ⟨w.heap.size + 1, 1, none⟩ = false := frozen_at m1 1
    have f2 : v2.frozen? ⟨w.heap.size + 1, 2, none⟩ = false := frozen_at m1 2
    have f3 : v2.frozen? ⟨w.heap.size + 1, 3, none⟩ = false := frozen_at m1 3
    have f4 : v2.frozen? ⟨w.heap.size + 1, 4, none⟩ = false := frozen_at m1 4
    have f5 : v2.frozen? ⟨w.heap.size + 1, 5, none⟩ = false := frozen_at m1 5
    have f6 : v2.frozen? ⟨w.heap.size + 1, 6, none⟩ = false := frozen_at m1 6
    have f7 : v2.frozen? ⟨w.heap.size + 1, 7, none⟩ = false := frozen_at m1 7
    have f8 : v2.frozen? ⟨w.heap.size + 1, 8, none⟩ = false := frozen_at m1 8
    have a0 : v2.cell? ⟨w.heap.size, 0, none⟩ = some (.int .i64 o.dv) := cell_at m0 0
    have a1 : v2.cell? ⟨w.heap.size, 1, none⟩ = some (.int .i64 o.p) := cell_at m0 1
    have a2 : v2.cell? ⟨w.heap.size, 2, none⟩ = some (.int .i64 o.q) := cell_at m0 2
    have a3 : v2.cell? ⟨w.heap.size, 3, none⟩ = some (.int .i64 o.g) := cell_at m0 3
    have a4 : v2.cell? ⟨w.heap.size, 4, none⟩ = some (.int .i64 o.op) := cell_at m0 4
    have a5 : v2.cell? ⟨w.heap.size, 5, none⟩ = some (.int .i64 o.is) := cell_at m0 5
    have a6 : v2.cell? ⟨w.heap.size, 6, none⟩ = some (.int .i64 o.ve) := cell_at m0 6
    have a7 : v2.cell? ⟨w.heap.size, 7, none⟩ = some (.slice y.a o.ol.length y.c) := cell_at m0 7
    have a8 : v2.cell? ⟨w.heap.size, 8, none⟩ = some (.slice y.b o.sl.length y.d) := cell_at m0 8
    have BE := B3
    have HFIN : Hid (∀ W, Sw (w.heap.size + 1) (w.heap.size) v2 W → Copied w.heap.size W y (updO false o ver l)) := fun W s => ⟨own_lower (s.own C3.off (by omega) (by omega)) (by omega), own_lower (s.own C3.seen (by omega) (by omega)) (by omega)⟩
    have HB : Hid (∀ W, Below w.heap.size v2 W → Below w.heap.size w W) := fun W l => BE.trans l
    clear BE hg I J HC HO HH B3 C3 m0 m1 hl3
    go_wp2
    refine bodyPost_ret (v := .tuple #[hnV y (o), .bool false]) (by simp [results, Try.results5, go_sem, e0, e1, e2, e3, e4, e5, e6, e7, e8]) rfl ?_
    refine ⟨y, by rw [HV.out] <;> rfl, ?_, HB.out _ ?_⟩
    · rw [HV.out]
      refine HFIN.out _ ?_
      (repeat' (first | with_reducible exact Sw.refl _ _ _ | with_reducible apply Sw.one | with_reducible apply Sw.two))
    · (repeat' (first | apply Below.setCell | exact Below.refl _ _)) <;> first | (simp; done) | (simp; omega)
  · rw [h3] at HH
    by_cases h1 : o.ve < ver
    · cases h2 : offB l
      · have HV : Hid (updB o ver l = false) := by show _ = _; unfold updB; rw [h2, Bool.and_false, Bool.and_false]
        rw [h2] at HO
        clear h2 h3
        have d1 : decide (ver ≤ o.ve) = false := decide_eq_false (by omega)
        go_enter Try.func5, Try.ntmps5
        go_wp2_with fail
        refine named fun V0 hV => ?_
        rw [← hV] at k0 k1 L hs
        clear hV
        refine (HC.out _ (I.on L)).mono ?_
        rintro e v1 ⟨y, rfl, C1, L1⟩
        have n0 := kept L1 (lt_of k0) k0
        have n1 := kept L1 (lt_of k1) k1
        have B1 := join_below L L1
        have hg : w.heap.size + 1 + 1 ≤ V0.heap.size := Nat.le_of_eq hs.symm
        have hl1 : V0.heap.size ≤ v1.heap.size := L1.size
        have a0 : v1.cell? ⟨w.heap.size, 0, none⟩ = some (.int .i64 o.dv) := cell_at n0 0
        have a1 : v1.cell? ⟨w.heap.size, 1, none⟩ = some (.int .i64 o.p) := cell_at n0 1
        have a2 : v1.cell? ⟨w.heap.size, 2, none⟩ = some (.int .i64 o.q) := cell_at n0 2
        have a3 : v1.cell? ⟨w.heap.size, 3, none⟩ = some (.int .i64 o.g) := cell_at n0 3
        have a4 : v1.cell? ⟨w.heap.size, 4, none⟩ = some (.int .i64 o.op) := cell_at n0 4
        have a5 : v1.cell? ⟨w.heap.size, 5, none⟩ = some (.int .i64 o.is) := cell_at n0 5
        have a6 : v1.cell? ⟨w.heap.size, 6, none⟩ = some (.int .i64 o.ve) := cell_at n0 6
        have a7 : v1.cell? ⟨w.heap.size, 7, none⟩ = some (.slice x.a o.ol.length x.c) := cell_at n0 7
        have a8 : v1.cell? ⟨w.heap.size, 8, none⟩ = some (.slice x.b o.sl.length x.d) := cell_at n0 8
        have c0 : v1.frozen? ⟨w.heap.size, 0, none⟩ = false := frozen_at n0 0
        have c1 : v1.frozen? ⟨w.heap.size, 1, none⟩ = false := frozen_at n0 1
        have c2 : v1.frozen? ⟨w.heap.size, 2, none⟩ = false := frozen_at n0 2
        have c3 : v1.frozen? ⟨w.heap.size, 3, none⟩ = false := frozen_at n0 3
        have c4 : v1.frozen? ⟨w.heap.size, 4, none⟩ = false := frozen_at n0 4
        have c5 : v1.frozen? ⟨w.heap.size, 5, none⟩ = false := frozen_at n0 5
        have c6 : v1.frozen? ⟨w.heap.size, 6, none⟩ = false := frozen_at n0 6
        have c7 : v1.frozen? ⟨w.heap.size, 7, none⟩ = false := frozen_at n0 7
        have c8 : v1.frozen? ⟨w.heap.size, 8, none⟩ = false := frozen_at n0 8
        obtain ⟨V1, hV⟩ : ∃ V, V = (put9 v1 (w.heap.size) (.int .i64 o.dv) (.int .i64 o.p) (.int .i64 o.q) (.int .i64 o.g) (.int .i64 o.op) (.int .i64 o.is) (.int .i64 o.ve) (.slice y.a o.ol.length y.c) (.slice y.b o.sl.length y.d)) := ⟨_, rfl⟩
        have q0 : V1.heap[w.heap.size]? = some (hnB y o 32) := by rw [hV]; exact put9_heap n0 ..
        have q1 : V1.heap[w.heap.size + 1]? = some (.cells #[.int .i64 0, .int .i64 0, .int .i64 0, .int .i64 0, .int .i64 0, .int .i64 0, .int .i64 0, .slice none 0 0, .slice none 0 0] 32) := by rw [hV, put9_other (by omega)]; exact n1
        have SW : Sw (w.heap.size) (w.heap.size + 1) v1 V1 := by rw [hV]; exact ⟨put9_size .., fun b h1 _ => put9_other h1 ..⟩
        have C2 : Copied V0.heap.size V1 y o := ⟨SW.own C1.off (by omega) (by omega), SW.own C1.seen (by omega) (by omega)⟩
        have B2 : Below w.heap.size w V1 := by rw [hV]; exact put9_below B1 (Nat.le_refl _) ..
        have hl2 : V0.heap.size ≤ V1.heap.size := by rw [SW.size]; exact hl1
        have HV1 : Hid (V1 = (put9 v1 (w.heap.size) (.int .i64 o.dv) (.int .i64 o.p) (.int .i64 o.q) (.int .i64 o.g) (.int .i64 o.op) (.int .i64 o.is) (.int .i64 o.ve) (.slice y.a o.ol.length y.c) (.slice y.b o.sl.length y.d))) := hV
        clear k0 k1 L L1 hs n0 n1 C1 SW hl1 hV
        go_wp2_with fail
        refine named fun V hW => ?_
        obtain rfl : V = V1 := hW.trans HV1.out.symm
        clear hW HV1 B1 a0 a1 a2 a3 a4 a5 a6 a7 a8 c0 c1 c2 c3 c4 c5 c6 c7 c8
        refine (HH.out y _ C2.in).mono ?_
        rintro e v2 ⟨rfl, L2⟩
        have m0 := kept L2 (lt_of q0) q0
        have m1 := kept L2 (lt_of q1) q1
        have C3 := C2.on L2
        have B3 := join_below B2 L2
        have hl3 : V0.heap.size ≤ v2.heap.size := Nat.le_trans hl2 L2.size
        clear q0 q1 C2 B2 L2 hl2
        have a6 : v2.cell? ⟨w.heap.size, 6, none⟩ = some (.int .i64 o.ve) := cell_at m0 6
        have J2 := J.on B3
        go_wp2_with fail
        refine (HO.out _ J2).mono ?_
        rintro e v3 ⟨rfl, D3⟩
        have L3 := D3.below v2.heap.size
        have p0 := kept L3 (lt_of m0) m0
        have p1 := kept L3 (lt_of m1) m1
        have C4 := C3.on L3
        have BE := join_below B3 L3
        have hl4 : V0.heap.size ≤ v3.heap.size := Nat.le_trans hl3 L3.size
        have J3 := J2.on L3
        clear a6 m0 m1 C3 B3 hl3 L3 D3 J2
        have e0 : v3.cell? ⟨w.heap.size + 1, 0, none⟩ = some (.int .i64 0) := cell_at p1 0
        have e1 : v3.cell? ⟨w.heap.size + 1, 1, none⟩ = some (.int .i64 0) := cell_at p1 1
        have e2 : v3.cell? ⟨w.heap.size + 1, 2, none⟩ = some (.int .i64 0) := cell_at p1 2
        have e3 : v3.cell? ⟨w.heap.size + 1, 3, none⟩ = some (.int .i64 0) := cell_at p1 3
        have e4 : v3.cell? ⟨w.heap.size + 1, 4, none⟩ = some (.int .i64 0) := cell_at p1 4
        have e5 : v3.cell? ⟨w.heap.size + 1, 5, none⟩ = some (.int .i64 0) := cell_at p1 5
        have e6 : v3.cell? ⟨w.heap.size + 1, 6, none⟩ = some (.int .i64 0) := cell_at p1 6
        have e7 : v3.cell? ⟨w.heap.size + 1, 7, none⟩ = some (.slice none 0 0) := cell_at p1 7
        have e8 : v3.cell? ⟨w.heap.size + 1, 8, none⟩ = some (.slice none 0 0) := cell_at p1 8
        have f0 : v3.frozen? ⟨w.heap.size + 1, 0, none⟩ = false := frozen_at p1 0
        have f1 : v3.frozen? ⟨w.heap.size + 1, 1, none⟩ = false := frozen_at p1 1
        have f2 : v3.frozen? ⟨w.heap.size + 1, 2, none⟩ = false := frozen_at p1 2
        have f3 : v3.frozen? ⟨w.heap.size + 1, 3, none⟩ = false := frozen_at p1 3
        have f4 : v3.frozen? ⟨w.heap.size + 1, 4, none⟩ = false := frozen_at p1 4
        have f5 : v3.frozen? ⟨w.heap.size + 1, 5, none⟩ = false := frozen_at p1 5
        have f6 : v3.frozen? ⟨w.heap.size + 1, 6, none⟩ = false := frozen_at p1 6
        have f7 : v3.frozen? ⟨w.heap.size + 1, 7, none⟩ = false := frozen_at p1 7
        have f8 : v3.frozen? ⟨w.heap.size + 1, 8, none⟩ = false := frozen_at p1 8
        have a0 : v3.cell? ⟨w.heap.size, 0, none⟩ = some (.int .i64 o.dv) := cell_at p0 0
        have a1 : v3.cell? ⟨w.heap.size, 1, none⟩ = some (.int .i64 o.p) := cell_at p0 1
        have a2 : v3.cell? ⟨w.heap.size, 2, none⟩ = some (.int .i64 o.q) := cell_at p0 2
        have a3 : v3.cell? ⟨w.heap.size, 3, none⟩ = some (.int .i64 o.g) := cell_at p0 3
        have a4 : v3.cell? ⟨w.heap.size, 4, none⟩ = some (.int .i64 o.op) := cell_at p0 4
        have a5 : v3.cell? ⟨w.heap.size, 5, none⟩ = some (.int .i64 o.is) := cell_at p0 5
        have a6 : v3.cell? ⟨w.heap.size, 6, none⟩ = some (.int .i64 o.ve) := cell_at p0 6
        have a7 : v3.cell? ⟨w.heap.size, 7, none⟩ = some (.slice y.a o.ol.length y.c) := cell_at p0 7
        have a8 : v3.cell? ⟨w.heap.size, 8, none⟩ = some (.slice y.b o.sl.length y.d) := cell_at p0 8
        have HFIN : Hid (∀ W, Sw (w.heap.size + 1) (w.heap.size) v3 W → Copied w.heap.size W y (updO false o ver l)) := fun W s => ⟨own_lower (s.own C4.off (by omega) (by omega)) (by omega), own_lower (s.own C4.seen (by omega) (by omega)) (by omega)⟩
        have HB : Hid (∀ W, Below w.heap.size v3 W → Below w.heap.size w W) := fun W l => BE.trans l
        clear BE hg I J HC HO HH C4 p0 p1 hl4 J3
        go_wp2
        refine bodyPost_ret (v := .tuple #[hnV y (o), .bool false]) (by simp [results, Try.results5, go_sem, e0, e1, e2, e3, e4, e5, e6, e7, e8]) rfl ?_
        refine ⟨y, by rw [HV.out] <;> rfl, ?_, HB.out _ ?_⟩
        · rw [HV.out]
          refine HFIN.out _ ?_
          (repeat' (first | with_reducible exact Sw.refl _ _ _ | with_reducible apply Sw.one | with_reducible apply Sw.two))
        · (repeat' (first | apply Below.setCell | exact Below.refl _ _)) <;> first | (simp; done) | (simp; omega)
      · have HV : Hid (updB o ver l = true) := by show _ = _; unfold updB; rw [h2, h3, decide_eq_true h1]; rfl
        rw [h2] at HO
        clear h2 h3
        have d1 : decide (ver ≤ o.ve) = false := decide_eq_false (by omega)
        go_enter Try.func5, Try.ntmps5
        go_wp2_with fail
        refine named fun V0 hV => ?_
        rw [← hV] at k0 k1 L hs
        clear hV
        refine (HC.out _ (I.on L)).mono ?_
        rintro e v1 ⟨y, rfl, C1, L1⟩
        have n0 := kept L1 (lt_of k0) k0
        have n1 := kept L1 (lt_of k1) k1
        have B1 := join_below L L1
        have hg : w.heap.size + 1 + 1 ≤ V0.heap.size := Nat.le_of_eq hs.symm
        have hl1 : V0.heap.size ≤ v1.heap.size := L1.size
        have a0 : v1.cell? ⟨w.heap.size, 0, none⟩ = some (.int .i64 o.dv) := cell_at n0 0
        have a1 : v1.cell? ⟨w.heap.size, 1, none⟩ = some (.int .i64 o.p) := cell_at n0 1
        have a2 : v1.cell? ⟨w.heap.size, 2, none⟩ = some (.int .i64 o.q) := cell_at n0 2
        have a3 : v1.cell? ⟨w.heap.size, 3, none⟩ = some (.int .i64 o.g) := cell_at n0 3
        have a4 : v1.cell? ⟨w.heap.size, 4, none⟩ = some (.int .i64 o.op) := cell_at n0 4
        have a5 : v1.cell? ⟨w.heap.size, 5, none⟩ = some (.int .i64 o.is) := cell_at n0 5
        have a6 : v1.cell? ⟨w.heap.size, 6, none⟩ = some (.int .i64 o.ve) := cell_at n0 6
        have a7 : v1.cell? ⟨w.heap.size, 7, none⟩ = some (.slice x.a o.ol.length x.c) := cell_at n0 7
        have a8 : v1.cell? ⟨w.heap.size, 8, none⟩ = some (.slice x.b o.sl.length x.d) := cell_at n0 8
        have c0 : v1.frozen? ⟨w.heap.size, 0, none⟩ = false := frozen_at n0 0
        have c1 : v1.frozen? ⟨w.heap.size, 1, none⟩ = false := frozen_at n0 1
        have c2 : v1.frozen? ⟨w.heap.size, 2, none⟩ = false := frozen_at n0 2
        have c3 : v1.frozen? ⟨w.heap.size, 3, none⟩ = false := frozen_at n0 3
        have c4 : v1.frozen? ⟨w.heap.size, 4, none⟩ = false := frozen_at n0 4
        have c5 : v1.frozen? ⟨w.heap.size, 5, none⟩ = false := frozen_at n0 5
        have c6 : v1.frozen? ⟨w.heap.size, 6, none⟩ = false := frozen_at n0 6
        have c7 : v1.frozen? ⟨w.heap.size, 7, none⟩ = false := frozen_at n0 7
        have c8 : v1.frozen? ⟨w.heap.size, 8, none⟩ = false := frozen_at n0 8
        obtain ⟨V1, hV⟩ : ∃ V, V = (put9 v1 (w.heap.size) (.int .i64 o.dv) (.int .i64 o.p) (.int .i64 o.q) (.int .i64 o.g) (.int .i64 o.op) (.int .i64 o.is) (.int .i64 o.ve) (.slice y.a o.ol.length y.c) (.slice y.b o.sl.length y.d)) := ⟨_, rfl⟩
        have q0 : V1.heap[w.heap.size]? = some (hnB y o 32) := by rw [hV]; exact put9_heap n0 ..
        have q1 : V1.heap[w.heap.size + 1]? = some (.cells #[.int .i64 0, .int .i64 0, .int .i64 0, .int .i64 0, .int .i64 0, .int .i64 0, .int .i64 0, .slice none 0 0, .slice none 0 0] 32) := by rw [hV, put9_other (by omega)]; exact n1
        have SW : Sw (w.heap.size) (w.heap.size + 1) v1 V1 := by rw [hV]; exact ⟨put9_size .., fun b h1 _ => put9_other h1 ..⟩
        have C2 : Copied V0.heap.size V1 y o := ⟨SW.own C1.off (by omega) (by omega), SW.own C1.seen (by omega) (by omega)⟩
        have B2 : Below w.heap.size w V1 := by rw [hV]; exact put9_below B1 (Nat.le_refl _) ..
        have hl2 : V0.heap.size ≤ V1.heap.size := by rw [SW.size]; exact hl1
        have HV1 : Hid (V1 = (put9 v1 (w.heap.size) (.int .i64 o.dv) (.int .i64 o.p) (.int .i64 o.q) (.int .i64 o.g) (.int .i64 o.op) (.int .i64 o.is) (.int .i64 o.ve) (.slice y.a o.ol.length y.c) (.slice y.b o.sl.length y.d))) := hV
        clear k0 k1 L L1 hs n0 n1 C1 SW hl1 hV
        go_wp2_with fail
        refine named fun V hW => ?_
        obtain rfl : V = V1 := hW.trans HV1.out.symm
        clear hW HV1 B1 a0 a1 a2 a3 a4 a5 a6 a7 a8 c0 c1 c2 c3 c4 c5 c6 c7 c8
        refine (HH.out y _ C2.in).mono ?_
        rintro e v2 ⟨rfl, L2⟩
        have m0 := kept L2 (lt_of q0) q0
        have m1 := kept L2 (lt_of q1) q1
        have C3 := C2.on L2
        have B3 := join_below B2 L2
        have hl3 : V0.heap.size ≤ v2.heap.size := Nat.le_trans hl2 L2.size
        clear q0 q1 C2 B2 L2 hl2
        have a6 : v2.cell? ⟨w.heap.size, 6, none⟩ = some (.int .i64 o.ve) := cell_at m0 6
        have J2 := J.on B3
        go_wp2_with fail
        refine (HO.out _ J2).mono ?_
        rintro e v3 ⟨rfl, D3⟩
        have L3 := D3.below v2.heap.size
        have p0 := kept L3 (lt_of m0) m0
        have p1 := kept L3 (lt_of m1) m1
        have C4 := C3.on L3
        have BE := join_below B3 L3
        have hl4 : V0.heap.size ≤ v3.heap.size := Nat.le_trans hl3 L3.size
        have J3 := J2.on L3
        clear a6 m0 m1 C3 B3 hl3 L3 D3 J2
        have r0 : (v3.setCell ⟨w.heap.size, 6, none⟩ (.int .i64 ver)).heap[w.heap.size]? = some (.cells #[.int .i64 o.dv, .int .i64 o.p, .int .i64 o.q, .int .i64 o.g, .int .i64 o.op, .int .i64 o.is, .int .i64 ver, .slice y.a o.ol.length y.c, .slice y.b o.sl.length y.d] 32) := h_set (i := 6) p0 _
        have r1 : (v3.setCell ⟨w.heap.size, 6, none⟩ (.int .i64 ver)).heap[w.heap.size + 1]? = some (.cells #[.int .i64 0, .int .i64 0, .int .i64 0, .int .i64 0, .int .i64 0, .int .i64 0, .int .i64 0, .slice none 0 0, .slice none 0 0] 32) := h_other (i := 6) p1 (by omega) _
        have SW6 : Sw (w.heap.size) (w.heap.size + 1) v3 (v3.setCell ⟨w.heap.size, 6, none⟩ (.int .i64 ver)) := (Sw.refl _ _ _).one _
        have O5 := SW6.own C4.seen (by omega) (by omega)
        have B5 : Below w.heap.size w (v3.setCell ⟨w.heap.size, 6, none⟩ (.int .i64 ver)) := BE.setCell (Nat.le_refl _) _
        have J5 : Ints (v3.setCell ⟨w.heap.size, 6, none⟩ (.int .i64 ver)) (some ⟨b, u, none⟩) l := J.on B5
        have hl5 : V0.heap.size ≤ (v3.setCell ⟨w.heap.size, 6, none⟩ (.int .i64 ver)).heap.size := by rw [SW6.size]; exact hl4
        obtain ⟨i0, hi, hy0, hy1, hy2⟩ := info_of intInfo
        have ON := nil_row (v3.setCell ⟨w.heap.size, 6, none⟩ (.int .i64 ver)) 3 1
        have NN := new_below (v3.setCell ⟨w.heap.size, 6, none⟩ (.int .i64 ver)) (.cells #[] 3)
        have e9 : (v3.setCell ⟨w.heap.size, 6, none⟩ (.int .i64 ver)).heap.size = v3.heap.size := World.size_setCell ..
        rw [e9] at ON
        have HG : Hid (_) := ints_get (J5.on NN)
        have HC5 : Hid (v3.heap.size ≤ ((v3.setCell ⟨w.heap.size, 6, none⟩ (.int .i64 ver)).alloc (.cells #[] 3)).heap.size) := by show _ ≤ _; rw [← e9]; exact NN.size
        clear e9
        have c6 : v3.frozen? ⟨w.heap.size, 6, none⟩ = false := frozen_at p0 6
        have b6 : v3.cell? ⟨w.heap.size, 6, none⟩ = some (.int .i64 o.ve) := cell_at p0 6
        go_wp2_with (at_builtin; refine wpList_append_own_at _ rfl _ _ 24 rfl v3.heap.size 3 i0 (.int .i64 0) 1 8 Try.underlying24 hi hy0 hy1 hy2 rfl (by decide) _ _ _ rfl ON ⟨b, u, none⟩ l.length cap (icells l) rfl ?d0 ?d1 ?d2 ?d3 ?d4 ?d5 ?_)
        case d0 => exact icells_length l
        case d1 => exact HG.out
        case d2 => exact icells_one l
        case d3 => have := HZ3.out; unfold maxLen; omega
        case d4 => have := HZ3.out; omega
        case d5 => exact HC5.out
        intro v' v5 O6 G6 _ _
        have L6 : Below (v3.setCell ⟨w.heap.size, 6, none⟩ (.int .i64 ver)).heap.size (v3.setCell ⟨w.heap.size, 6, none⟩ (.int .i64 ver)) v5 := NN.grown G6 NN.size (fun j hj => by rw [World.size_setCell]; exact (ON.lt j hj).1)
        try rw [Nat.zero_add, List.nil_append] at O6
        obtain ⟨va, vc, rfl, -⟩ := own_form O6
        clear ON NN HG HC5 G6 hi hy0 hy1 hy2 c6 b6
        have s0 := kept L6 (lt_of r0) r0
        have s1 := kept L6 (lt_of r1) r1
        have O7 := own_below O5 L6 (Nat.le_refl _)
        have B6 := join_below B5 L6
        clear SW6 O5 r0 r1 B5 J5 L6 p0 p1 C4 BE J3 hl5
        have e0 : v5.cell? ⟨w.heap.size + 1, 0, none⟩ = some (.int .i64 0) := cell_at s1 0
        have e1 : v5.cell? ⟨w.heap.size + 1, 1, none⟩ = some (.int .i64 0) := cell_at s1 1
        have e2 : v5.cell? ⟨w.heap.size + 1, 2, none⟩ = some (.int .i64 0) := cell_at s1 2
        have e3 : v5.cell? ⟨w.heap.size + 1, 3, none⟩ = some (.int .i64 0) := cell_at s1 3
        have e4 : v5.cell? ⟨w.heap.size + 1, 4, none⟩ = some (.int .i64 0) := cell_at s1 4
        have e5 : v5.cell? ⟨w.heap.size + 1, 5, none⟩ = some (.int .i64 0) := cell_at s1 5
        have e6 : v5.cell? ⟨w.heap.size + 1, 6, none⟩ = some (.int .i64 0) := cell_at s1 6
        have e7 : v5.cell? ⟨w.heap.size + 1, 7, none⟩ = some (.slice none 0 0) := cell_at s1 7
        have e8 : v5.cell? ⟨w.heap.size + 1, 8, none⟩ = some (.slice none 0 0) := cell_at s1 8
        have f0 : v5.frozen? ⟨w.heap.size + 1, 0, none⟩ = false := frozen_at s1 0
        have f1 : v5.frozen? ⟨w.heap.size + 1, 1, none⟩ = false := frozen_at s1 1
        have f2 : v5.frozen? ⟨w.heap.size + 1, 2, none⟩ = false := frozen_at s1 2
        have f3 : v5.frozen? ⟨w.heap.size + 1, 3, none⟩ = false := frozen_at s1 3
        have f4 : v5.frozen? ⟨w.heap.size + 1, 4, none⟩ = false := frozen_at s1 4
        have f5 : v5.frozen? ⟨w.heap.size + 1, 5, none⟩ = false := frozen_at s1 5
        have f6 : v5.frozen? ⟨w.heap.size + 1, 6, none⟩ = false := frozen_at s1 6
        have f7 : v5.frozen? ⟨w.heap.size + 1, 7, none⟩ = false := frozen_at s1 7
        have f8 : v5.frozen? ⟨w.heap.size + 1, 8, none⟩ = false := frozen_at s1 8
        have a0 : v5.cell? ⟨w.heap.size, 0, none⟩ = some (.int .i64 o.dv) := cell_at s0 0
        have a1 : v5.cell? ⟨w.heap.size, 1, none⟩ = some (.int .i64 o.p) := cell_at s0 1
        have a2 : v5.cell? ⟨w.heap.size, 2, none⟩ = some (.int .i64 o.q) := cell_at s0 2
        have a3 : v5.cell? ⟨w.heap.size, 3, none⟩ = some (.int .i64 o.g) := cell_at s0 3
        have a4 : v5.cell? ⟨w.heap.size, 4, none⟩ = some (.int .i64 o.op) := cell_at s0 4
        have a5 : v5.cell? ⟨w.heap.size, 5, none⟩ = some (.int .i64 o.is) := cell_at s0 5
        have a6 : v5.cell? ⟨w.heap.size, 6, none⟩ = some (.int .i64 ver) := cell_at s0 6
        have a7 : v5.cell? ⟨w.heap.size, 7, none⟩ = some (.slice y.a o.ol.length y.c) := cell_at s0 7
        have a8 : v5.cell? ⟨w.heap.size, 8, none⟩ = some (.slice y.b o.sl.length y.d) := cell_at s0 8
        have c7 : v5.frozen? ⟨w.heap.size, 7, none⟩ = false := frozen_at s0 7
        have BE := B6
        have HFIN : Hid (∀ W, Sw (w.heap.size + 1) (w.heap.size) v5 W → Copied w.heap.size W ⟨va, vc, y.b, y.d⟩ (updO true o ver l)) := fun W s => ⟨own_lower (s.own O6 (by omega) (by omega)) (by omega), own_lower (s.own O7 (by omega) (by omega)) (by omega)⟩
        have HB : Hid (∀ W, Below w.heap.size v5 W → Below w.heap.size w W) := fun W l => BE.trans l
        clear BE hg I J HC HO HH O6 O7 s0 s1 B6 hl4
        go_wp2
        refine bodyPost_ret (v := .tuple #[hnV ⟨va, vc, y.b, y.d⟩ ({ o with ve := ver, ol := l }), .bool true]) (by simp [results, Try.results5, go_sem, e0, e1, e2, e3, e4, e5, e6, e7, e8]) rfl ?_
        refine ⟨⟨va, vc, y.b, y.d⟩, by rw [HV.out] <;> rfl, ?_, HB.out _ ?_⟩
        · rw [HV.out]
          refine HFIN.out _ ?_
          (repeat' (first | with_reducible exact Sw.refl _ _ _ | with_reducible apply Sw.one | with_reducible apply Sw.two))
        · (repeat' (first | apply Below.setCell | exact Below.refl _ _)) <;> first | (simp; done) | (simp; omega)
    · have HV : Hid (updB o ver l = false) := by show _ = _; unfold updB; rw [decide_eq_false h1, Bool.false_and, Bool.and_false]
      clear h3
      have d1 : decide (ver ≤ o.ve) = true := decide_eq_true (by omega)
      go_enter Try.func5, Try.ntmps5
      go_wp2_with fail
      refine named fun V0 hV => ?_
      rw [← hV] at k0 k1 L hs
      clear hV
      refine (HC.out _ (I.on L)).mono ?_
      rintro e v1 ⟨y, rfl, C1, L1⟩
      have n0 := kept L1 (lt_of k0) k0
      have n1 := kept L1 (lt_of k1) k1
      have B1 := join_below L L1
      have hg : w.heap.size + 1 + 1 ≤ V0.heap.size := Nat.le_of_eq hs.symm
      have hl1 : V0.heap.size ≤ v1.heap.size := L1.size
      have a0 : v1.cell? ⟨w.heap.size, 0, none⟩ = some (.int .i64 o.dv) := cell_at n0 0
      have a1 : v1.cell? ⟨w.heap.size, 1, none⟩ = some (.int .i64 o.p) := cell_at n0 1
      have a2 : v1.cell? ⟨w.heap.size, 2, none⟩ = some (.int .i64 o.q) := cell_at n0 2
      have a3 : v1.cell? ⟨w.heap.size, 3, none⟩ = some (.int .i64 o.g) := cell_at n0 3
      have a4 : v1.cell? ⟨w.heap.size, 4, none⟩ = some (.int .i64 o.op) := cell_at n0 4
      have a5 : v1.cell? ⟨w.heap.size, 5, none⟩ = some (.int .i64 o.is) := cell_at n0 5
      have a6 : v1.cell? ⟨w.heap.size, 6, none⟩ = some (.int .i64 o.ve) := cell_at n0 6
      have a7 : v1.cell? ⟨w.heap.size, 7, none⟩ = some (.slice x.a o.ol.length x.c) := cell_at n0 7
      have a8 : v1.cell? ⟨w.heap.size, 8, none⟩ = some (.slice x.b o.sl.length x.d) := cell_at n0 8
      have c0 : v1.frozen? ⟨w.heap.size, 0, none⟩ = false := frozen_at n0 0
      have c1 : v1.frozen? ⟨w.heap.size, 1, none⟩ = false := frozen_at n0 1
      have c2 : v1.frozen? ⟨w.heap.size, 2, none⟩ = false := frozen_at n0 2
      have c3 : v1.frozen? ⟨w.heap.size, 3, none⟩ = false := frozen_at n0 3
      have c4 : v1.frozen? ⟨w.heap.size, 4, none⟩ = false := frozen_at n0 4
      have c5 : v1.frozen? ⟨w.heap.size, 5, none⟩ = false := frozen_at n0 5
      have c6 : v1.frozen? ⟨w.heap.size, 6, none⟩ = false := frozen_at n0 6
      have c7 : v1.frozen? ⟨w.heap.size, 7, none⟩ = false := frozen_at n0 7
      have c8 : v1.frozen? ⟨w.heap.size, 8, none⟩ = false := frozen_at n0 8
      obtain ⟨V1, hV⟩ : ∃ V, V = (put9 v1 (w.heap.size) (.int .i64 o.dv) (.int .i64 o.p) (.int .i64 o.q) (.int .i64 o.g) (.int .i64 o.op) (.int .i64 o.is) (.int .i64 o.ve) (.slice y.a o.ol.length y.c) (.slice y.b o.sl.length y.d)) := ⟨_, rfl⟩
      have q0 : V1.heap[w.heap.size]? = some (hnB y o 32) := by rw [hV]; exact put9_heap n0 ..
      have q1 : V1.heap[w.heap.size + 1]? = some (.cells #[.int .i64 0, .int .i64 0, .int .i64 0, .int .i64 0, .int .i64 0, .int .i64 0, .int .i64 0, .slice none 0 0, .slice none 0 0] 32) := by rw [hV, put9_other (by omega)]; exact n1
      have SW : Sw (w.heap.size) (w.heap.size + 1) v1 V1 := by rw [hV]; exact ⟨put9_size .., fun b h1 _ => put9_other h1 ..⟩
      have C2 : Copied V0.heap.size V1 y o := ⟨SW.own C1.off (by omega) (by omega), SW.own C1.seen (by omega) (by omega)⟩
      have B2 : Below w.heap.size w V1 := by rw [hV]; exact put9_below B1 (Nat.le_refl _) ..
      have hl2 : V0.heap.size ≤ V1.heap.size := by rw [SW.size]; exact hl1
      have HV1 : Hid (V1 = (put9 v1 (w.heap.size) (.int .i64 o.dv) (.int .i64 o.p) (.int .i64 o.q) (.int .i64 o.g) (.int .i64 o.op) (.int .i64 o.is) (.int .i64 o.ve) (.slice y.a o.ol.length y.c) (.slice y.b o.sl.length y.d))) := hV
      clear k0 k1 L L1 hs n0 n1 C1 SW hl1 hV
      go_wp2_with fail
      refine named fun V hW => ?_
      obtain rfl : V = V1 := hW.trans HV1.out.symm
      clear hW HV1 B1 a0 a1 a2 a3 a4 a5 a6 a7 a8 c0 c1 c2 c3 c4 c5 c6 c7 c8
      refine (HH.out y _ C2.in).mono ?_
      rintro e v2 ⟨rfl, L2⟩
      have m0 := kept L2 (lt_of q0) q0
      have m1 := kept L2 (lt_of q1) q1
      have C3 := C2.on L2
      have B3 := join_below B2 L2
      have hl3 : V0.heap.size ≤ v2.heap.size := Nat.le_trans hl2 L2.size
      clear q0 q1 C2 B2 L2 hl2
      have e0 : v2.cell? ⟨w.heap.size + 1, 0, none⟩ = some (.int .i64 0) := cell_at m1 0
      have e1 : v2.cell? ⟨w.heap.size + 1, 1, none⟩ = some (.int .i64 0) := cell_at m1 1
      have e2 : v2.cell? ⟨w.heap.size + 1, 2, none⟩ = some (.int .i64 0) := cell_at m1 2
      have e3 : v2.cell? ⟨w.heap.size + 1, 3, none⟩ = some (.int .i64 0) := cell_at m1 3
      have e4 : v2.cell? ⟨w.heap.size + 1, 4, none⟩ = some (.int .i64 0) := cell_at m1 4
      have e5 : v2.cell? ⟨w.heap.size + 1, 5, none⟩ = some (.int .i64 0) := cell_at m1 5
      have e6 : v2.cell? ⟨w.heap.size + 1, 6, none⟩ = some (.int .i64 0) := cell_at m1 6
      have e7 : v2.cell? ⟨w.heap.size + 1, 7, none⟩ = some (.slice none 0 0) := cell_at m1 7
      have e8 : v2.cell? ⟨w.heap.size + 1, 8, none⟩ = some (.slice none 0 0) := cell_at m1 8
      have f0 : v2.frozen? ⟨w.heap.size + 1, 0, none⟩ = false := frozen_at m1 0
      have f1 : v2.frozen? ⟨w.heap.size + 1, 1, none⟩ = false := frozen_at m1 1
      have f2 : v2.frozen? ⟨w.heap.size + 1, 2, none⟩ = false := frozen_at m1 2
      have f3 : v2.frozen? ⟨w.heap.size + 1, 3, none⟩ = false := frozen_at m1 3
      have f4 : v2.frozen? ⟨w.heap.size + 1, 4, none⟩ = false := frozen_at m1 4
      have f5 : v2.frozen? ⟨w.heap.size + 1, 5, none⟩ = false := frozen_at m1 5
      have f6 : v2.frozen? ⟨w.heap.size + 1, 6, none⟩ = false := frozen_at m1 6
      have f7 : v2.frozen? ⟨w.heap.size + 1, 7, none⟩ = false := frozen_at m1 7
      have f8 : v2.frozen? ⟨w.heap.size + 1, 8, none⟩ = false := frozen_at m1 8
      have a0 : v2.cell? ⟨w.heap.size, 0, none⟩ = some (.int .i64 o.dv) := cell_at m0 0
      have a1 : v2.cell? ⟨w.heap.size, 1, none⟩ = some (.int .i64 o.p) := cell_at m0 1
      have a2 : v2.cell? ⟨w.heap.size, 2, none⟩ = some (.int .i64 o.q) := cell_at m0 2
      have a3 : v2.cell? ⟨w.heap.size, 3, none⟩ = some (.int .i64 o.g) := cell_at m0 3
      have a4 : v2.cell? ⟨w.heap.size, 4, none⟩ = some (.int .i64 o.op) := cell_at m0 4
      have a5 : v2.cell? ⟨w.heap.size, 5, none⟩ = some (.int .i64 o.is) := cell_at m0 5
      have a6 : v2.cell? ⟨w.heap.size, 6, none⟩ = some (.int .i64 o.ve) := cell_at m0 6
      have a7 : v2.cell? ⟨w.heap.size, 7, none⟩ = some (.slice y.a o.ol.length y.c) := cell_at m0 7
      have a8 : v2.cell? ⟨w.heap.size, 8, none⟩ = some (.slice y.b o.sl.length y.d) := cell_at m0 8
      have BE := B3
      have HFIN : Hid (∀ W, Sw (w.heap.size + 1) (w.heap.size) v2 W → Copied w.heap.size W y (updO false o ver l)) := fun W s => ⟨own_lower (s.own C3.off (by omega) (by omega)) (by omega), own_lower (s.own C3.seen (by omega) (by omega)) (by omega)⟩
      have HB : Hid (∀ W, Below w.heap.size v2 W → Below w.heap.size w W) := fun W l => BE.trans l
      clear BE hg I J HC HO HH B3 C3 m0 m1 hl3
      go_wp2
      refine bodyPost_ret (v := .tuple #[hnV y (o), .bool false]) (by simp [results, Try.results5, go_sem, e0, e1, e2, e3, e4, e5, e6, e7, e8]) rfl ?_
      refine ⟨y, by rw [HV.out] <;> rfl, ?_, HB.out _ ?_⟩
      · rw [HV.out]
        refine HFIN.out _ ?_
        (repeat' (first | with_reducible exact Sw.refl _ _ _ | with_reducible apply Sw.one | with_reducible apply Sw.two))
      · (repeat' (first | apply Below.setCell | exact Below.refl _ _)) <;> first | (simp; done) | (simp; omega)

end Hn
end Go.Proofs.Ytlgolnddhfadeab

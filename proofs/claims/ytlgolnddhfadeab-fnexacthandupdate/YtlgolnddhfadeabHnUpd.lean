/- HandUpdate of program and model. -/
import Derived.Test.YtlgolnddhfadeabHnCp
import Derived.Test.YtlgolnddhfadeabHnOkS
namespace Go.Proofs.Ytlgolnddhfadeab
namespace Hn
open Go.ChangeShapes Go.WideShapes Go.ChangeAt Go.RowKit Go.Joins
open Pk (new_below join_below cell_at heap_new frozen_at lt_of kept heap_old Drawn info_of Room own_form own_below)
set_option linter.unusedSimpArgs false
set_option linter.unusedVariables false

/-- Whether a list is taken, and the device then. -/
def updB (o : Hnd) (ver : Int) (l : List Int) : Bool := handB o && (decide (o.ve < ver) && offB l)
def updO (b : Bool) (o : Hnd) (ver : Int) (l : List Int) : Hnd := if b = true then { o with ve := ver, ol := l } else o

theorem upd_no (o : Hnd) (ver : Int) (l : List Int) : updO false o ver l = o := rfl
theorem upd_yes (o : Hnd) (ver : Int) (l : List Int) : updO true o ver l = { o with ve := ver, ol := l } := rfl

theorem own_keep {lo e size n P : Nat} {v w : World} {u : Value} {xs : List Value} (h : v.ownsRow lo e size u n xs) (hP : P < lo) (hk : ∀ b, b < v.heap.size → b ≠ P → w.heap[b]? = v.heap[b]?) : w.ownsRow lo e size u n xs := by
  obtain ⟨k1, k2⟩ := h
  refine ⟨k1, ?_⟩
  rcases k2 with k2 | ⟨g, cap, cur, hv, hg, hh, hr⟩
  · exact Or.inl k2
  · refine Or.inr ⟨g, cap, cur, hv, hg, ?_, hr⟩
    rw [hk g (lt_of hh) (by omega)]
    exact hh

theorem Copied.lower {lo lo' : Nat} {w : World} {y : Pl} {o : Hnd} (h : Copied lo w y o) (hl : lo' ≤ lo) : Copied lo' w y o := ⟨own_lower h.off hl, own_lower h.seen hl⟩

theorem Copied.keep {lo P : Nat} {v w : World} {y : Pl} {o : Hnd} (h : Copied lo v y o) (hP : P < lo) (hk : ∀ b, b < v.heap.size → b ≠ P → w.heap[b]? = v.heap[b]?) : Copied lo w y o := ⟨own_keep h.off hP hk, own_keep h.seen hP hk⟩

theorem Sw.keep {P Q B : Nat} {v u w : World} (s : Sw P Q u w) (L : Below B v u) (hB : v.heap.size ≤ B) (hQ : v.heap.size ≤ Q) : ∀ b, b < v.heap.size → b ≠ P → w.heap[b]? = v.heap[b]? := fun b h1 h2 => (s.block b h2 (by omega)).trans (L.block b (by omega))

set_option maxRecDepth 100000 in
set_option maxHeartbeats 8000000 in
theorem implUpd_val (x : Pl) (o : Hnd) (ver : Int) (b u : Nat) (l : List Int) (cap : Nat) (w : World) (hz : o.ol.length ≤ 1048576) (hz2 : o.sl.length ≤ 1048576) (hz3 : l.length ≤ 1048576) (I : In w x o) (fl : Flat x) (J : Ints w (some ⟨b, u, none⟩) l) :
    Calls Try.prog 8 #[hnV x o, .int .i64 ver, .slice (some ⟨b, u, none⟩) l.length cap] w fun e w' => ∃ y, e = .returned (.tuple #[hnV y (updO (updB o ver l) o ver l), .bool (updB o ver l)]) ∧ Copied w.heap.size w' y (updO (updB o ver l) o ver l) ∧ Below w.heap.size w w' := by
  have HZ3 : Hid (l.length ≤ 1048576) := hz3
  obtain ⟨k0, k1, hs⟩ := two_blocks w (hnB x o 32) (.cells #[.int .i64 0, .int .i64 0, .int .i64 0, .int .i64 0, .int .i64 0, .int .i64 0, .int .i64 0, .slice none 0 0, .slice none 0 0] 32)
  have L : Below w.heap.size w ((w.alloc (hnB x o 32)).alloc (.cells #[.int .i64 0, .int .i64 0, .int .i64 0, .int .i64 0, .int .i64 0, .int .i64 0, .int .i64 0, .slice none 0 0, .slice none 0 0] 32)) := join_below (new_below _ _) (new_below _ _)
  have HC : Hid (∀ W : World, In W x o → _) := fun W h => implCopy_val x o W hz hz2 h fl
  have HO : Hid (∀ W : World, Ints W (some ⟨b, u, none⟩) l → _) := fun W h => implOff_val (some ⟨b, u, none⟩) l cap W hz3 h
  have HH : Hid (∀ W : World, In W x o → _) := fun W h => implHand_val x o W hz hz2 h
  clear hz hz2 hz3 fl
  by_cases h1 : o.ve < ver
  · cases h2 : offB l
    · have HV : Hid (updB o ver l = false) := by show _ = _; unfold updB; rw [h2, Bool.and_false, Bool.and_false]
      rw [h2] at HO
      clear h2
      have d1 : decide (ver ≤ o.ve) = false := decide_eq_false (by omega)
      go_enter Try.func8, Try.ntmps8
      go_wp2_with fail
      refine named fun V0 hV => ?_
      rw [← hV] at k0 k1 L hs
      clear hV
      refine (HC.out _ (I.on L)).mono ?_
      rintro e v1 ⟨y, rfl, C1, L1⟩
      have n0 := kept L1 (lt_of k0) k0
      have n1 := kept L1 (lt_of k1) k1
      have B1 := join_below L L1
      have hg : w.heap.size + 1 + 1 ≤ V0.heap.size := Nat.le_of_eq hs.symm
      have hl1 : V0.heap.size ≤ v1.heap.size := L1.size
      have NQ := new_below v1 (hnB y o 32)
      have q2 := heap_new v1 (hnB y o 32)
      have q0 := heap_old n0 (hnB y o 32)
      have q1 := heap_old n1 (hnB y o 32)
      have B2 := join_below B1 NQ
      clear k0 k1 L L1 hs n0 n1
      have a6 : (v1.alloc (hnB y o 32)).cell? ⟨w.heap.size, 6, none⟩ = some (.int .i64 o.ve) := cell_at q0 6
      have JV := J.on B2
      have IV := I.on B2
      go_wp2_with fail
      refine (HO.out _ JV).mono ?_
      rintro e v2 ⟨rfl, rfl⟩
      have e0 : (v1.alloc (hnB y o 32)).cell? ⟨w.heap.size + 1, 0, none⟩ = some (.int .i64 0) := cell_at q1 0
      have e1 : (v1.alloc (hnB y o 32)).cell? ⟨w.heap.size + 1, 1, none⟩ = some (.int .i64 0) := cell_at q1 1
      have e2 : (v1.alloc (hnB y o 32)).cell? ⟨w.heap.size + 1, 2, none⟩ = some (.int .i64 0) := cell_at q1 2
      have e3 : (v1.alloc (hnB y o 32)).cell? ⟨w.heap.size + 1, 3, none⟩ = some (.int .i64 0) := cell_at q1 3
      have e4 : (v1.alloc (hnB y o 32)).cell? ⟨w.heap.size + 1, 4, none⟩ = some (.int .i64 0) := cell_at q1 4
      have e5 : (v1.alloc (hnB y o 32)).cell? ⟨w.heap.size + 1, 5, none⟩ = some (.int .i64 0) := cell_at q1 5
      have e6 : (v1.alloc (hnB y o 32)).cell? ⟨w.heap.size + 1, 6, none⟩ = some (.int .i64 0) := cell_at q1 6
      have e7 : (v1.alloc (hnB y o 32)).cell? ⟨w.heap.size + 1, 7, none⟩ = some (.slice none 0 0) := cell_at q1 7
      have e8 : (v1.alloc (hnB y o 32)).cell? ⟨w.heap.size + 1, 8, none⟩ = some (.slice none 0 0) := cell_at q1 8
      have f0 : (v1.alloc (hnB y o 32)).frozen? ⟨w.heap.size + 1, 0, none⟩ = false := frozen_at q1 0
      have f1 : (v1.alloc (hnB y o 32)).frozen? ⟨w.heap.size + 1, 1, none⟩ = false := frozen_at q1 1
      have f2 : (v1.alloc (hnB y o 32)).frozen? ⟨w.heap.size + 1, 2, none⟩ = false := frozen_at q1 2
      have f3 : (v1.alloc (hnB y o 32)).frozen? ⟨w.heap.size + 1, 3, none⟩ = false := frozen_at q1 3
      have f4 : (v1.alloc (hnB y o 32)).frozen? ⟨w.heap.size + 1, 4, none⟩ = false := frozen_at q1 4
      have f5 : (v1.alloc (hnB y o 32)).frozen? ⟨w.heap.size + 1, 5, none⟩ = false := frozen_at q1 5
      have f6 : (v1.alloc (hnB y o 32)).frozen? ⟨w.heap.size + 1, 6, none⟩ = false := frozen_at q1 6
      have f7 : (v1.alloc (hnB y o 32)).frozen? ⟨w.heap.size + 1, 7, none⟩ = false := frozen_at q1 7
      have f8 : (v1.alloc (hnB y o 32)).frozen? ⟨w.heap.size + 1, 8, none⟩ = false := frozen_at q1 8
      have HFIN : Hid (∀ W, Sw (w.heap.size + 1) v1.heap.size (v1.alloc (hnB y o 32)) W → Copied w.heap.size W y (updO false o ver l)) := fun W s => (C1.keep (P := w.heap.size + 1) (by omega) (s.keep NQ (Nat.le_refl _) (Nat.le_refl _))).lower (by omega)
      have HB : Hid (∀ W, Below w.heap.size (v1.alloc (hnB y o 32)) W → Below w.heap.size w W) := fun W l => B2.trans l
      clear q0 q1 q2 B1 B2 NQ C1 hg hl1 I J JV IV HC HO HH
      go_wp2
      refine bodyPost_ret (v := .tuple #[hnV y (o), .bool false]) (by simp [results, Try.results8, go_sem, e0, e1, e2, e3, e4, e5, e6, e7, e8]) rfl ?_
      refine ⟨y, by rw [HV.out] <;> rfl, ?_, HB.out _ ?_⟩
      · rw [HV.out]
        refine HFIN.out _ ?_
        (repeat' (first | with_reducible exact Sw.refl _ _ _ | with_reducible apply Sw.one | with_reducible apply Sw.two))
      · (repeat' (first | apply Below.setCell | exact Below.refl _ _)) <;> first | (simp; done) | (simp; omega)
    · rw [h2] at HO
      cases h3 : handB o
      · have HV : Hid (updB o ver l = false) := by show _ = _; unfold updB; rw [h3, Bool.false_and]
        rw [h3] at HH
        clear h2 h3
        have d1 : decide (ver ≤ o.ve) = false := decide_eq_false (by omega)
        go_enter Try.func8, Try.ntmps8
        go_wp2_with fail
        refine named fun V0 hV => ?_
        rw [← hV] at k0 k1 L hs
        clear hV
        refine (HC.out _ (I.on L)).mono ?_
        rintro e v1 ⟨y, rfl, C1, L1⟩
        have n0 := kept L1 (lt_of k0) k0
        have n1 := kept L1 (lt_of k1) k1
        have B1 := join_below L L1
        have hg : w.heap.size + 1 + 1 ≤ V0.heap.size := Nat.le_of_eq hs.symm
        have hl1 : V0.heap.size ≤ v1.heap.size := L1.size
        have NQ := new_below v1 (hnB y o 32)
        have q2 := heap_new v1 (hnB y o 32)
        have q0 := heap_old n0 (hnB y o 32)
        have q1 := heap_old n1 (hnB y o 32)
        have B2 := join_below B1 NQ
        clear k0 k1 L L1 hs n0 n1
        have a6 : (v1.alloc (hnB y o 32)).cell? ⟨w.heap.size, 6, none⟩ = some (.int .i64 o.ve) := cell_at q0 6
        have JV := J.on B2
        have IV := I.on B2
        go_wp2_with fail
        refine (HO.out _ JV).mono ?_
        rintro e v2 ⟨rfl, rfl⟩
        clear a6
        have a0 : (v1.alloc (hnB y o 32)).cell? ⟨w.heap.size, 0, none⟩ = some (.int .i64 o.dv) := cell_at q0 0
        have a1 : (v1.alloc (hnB y o 32)).cell? ⟨w.heap.size, 1, none⟩ = some (.int .i64 o.p) := cell_at q0 1
        have a2 : (v1.alloc (hnB y o 32)).cell? ⟨w.heap.size, 2, none⟩ = some (.int .i64 o.q) := cell_at q0 2
        have a3 : (v1.alloc (hnB y o 32)).cell? ⟨w.heap.size, 3, none⟩ = some (.int .i64 o.g) := cell_at q0 3
        have a4 : (v1.alloc (hnB y o 32)).cell? ⟨w.heap.size, 4, none⟩ = some (.int .i64 o.op) := cell_at q0 4
        have a5 : (v1.alloc (hnB y o 32)).cell? ⟨w.heap.size, 5, none⟩ = some (.int .i64 o.is) := cell_at q0 5
        have a6 : (v1.alloc (hnB y o 32)).cell? ⟨w.heap.size, 6, none⟩ = some (.int .i64 o.ve) := cell_at q0 6
        have a7 : (v1.alloc (hnB y o 32)).cell? ⟨w.heap.size, 7, none⟩ = some (.slice x.a o.ol.length x.c) := cell_at q0 7
        have a8 : (v1.alloc (hnB y o 32)).cell? ⟨w.heap.size, 8, none⟩ = some (.slice x.b o.sl.length x.d) := cell_at q0 8
        go_wp2_with fail
        refine named fun V1 hV => ?_
        rw [← hV] at q0 q1 q2 B2 NQ JV IV
        clear hV a0 a1 a2 a3 a4 a5 a6 a7 a8
        refine (HH.out _ IV).mono ?_
        rintro e v3 ⟨rfl, L3⟩
        have m1 := kept L3 (lt_of q1) q1
        have m2 := kept L3 (lt_of q2) q2
        have B3 := join_below B2 L3
        have N3 : Below v1.heap.size v1 v3 := join_below NQ L3
        have hlt3 := lt_of m2
        have hq3 : v1.heap.size < v3.heap.size := lt_of m2
        have e0 : v3.cell? ⟨w.heap.size + 1, 0, none⟩ = some (.int .i64 0) := cell_at m1 0
        have e1 : v3.cell? ⟨w.heap.size + 1, 1, none⟩ = some (.int .i64 0) := cell_at m1 1
        have e2 : v3.cell? ⟨w.heap.size + 1, 2, none⟩ = some (.int .i64 0) := cell_at m1 2
        have e3 : v3.cell? ⟨w.heap.size + 1, 3, none⟩ = some (.int .i64 0) := cell_at m1 3
        have e4 : v3.cell? ⟨w.heap.size + 1, 4, none⟩ = some (.int .i64 0) := cell_at m1 4
        have e5 : v3.cell? ⟨w.heap.size + 1, 5, none⟩ = some (.int .i64 0) := cell_at m1 5
        have e6 : v3.cell? ⟨w.heap.size + 1, 6, none⟩ = some (.int .i64 0) := cell_at m1 6
        have e7 : v3.cell? ⟨w.heap.size + 1, 7, none⟩ = some (.slice none 0 0) := cell_at m1 7
        have e8 : v3.cell? ⟨w.heap.size + 1, 8, none⟩ = some (.slice none 0 0) := cell_at m1 8
        have f0 : v3.frozen? ⟨w.heap.size + 1, 0, none⟩ = false := frozen_at m1 0
        have f1 : v3.frozen? ⟨w.heap.size + 1, 1, none⟩ = false := frozen_at m1 1
        have f2 : v3.frozen? ⟨w.heap.size + 1, 2, none⟩ = false := frozen_at m1 2
        have f3 : v3.frozen? ⟨w.heap.size + 1, 3, none⟩ = false := frozen_at m1 3
        have f4 : v3.frozen? ⟨w.heap.size + 1, 4, none⟩ = false := frozen_at m1 4
        have f5 : v3.frozen? ⟨w.heap.size + 1, 5, none⟩ = false := frozen_at m1 5
        have f6 : v3.frozen? ⟨w.heap.size + 1, 6, none⟩ = false := frozen_at m1 6
        have f7 : v3.frozen? ⟨w.heap.size + 1, 7, none⟩ = false := frozen_at m1 7
        have f8 : v3.frozen? ⟨w.heap.size + 1, 8, none⟩ = false := frozen_at m1 8
        have g0 : v3.cell? ⟨v1.heap.size, 0, none⟩ = some (.int .i64 o.dv) := cell_at m2 0
        have g1 : v3.cell? ⟨v1.heap.size, 1, none⟩ = some (.int .i64 o.p) := cell_at m2 1
        have g2 : v3.cell? ⟨v1.heap.size, 2, none⟩ = some (.int .i64 o.q) := cell_at m2 2
        have g3 : v3.cell? ⟨v1.heap.size, 3, none⟩ = some (.int .i64 o.g) := cell_at m2 3
        have g4 : v3.cell? ⟨v1.heap.size, 4, none⟩ = some (.int .i64 o.op) := cell_at m2 4
        have g5 : v3.cell? ⟨v1.heap.size, 5, none⟩ = some (.int .i64 o.is) := cell_at m2 5
        have g6 : v3.cell? ⟨v1.heap.size, 6, none⟩ = some (.int .i64 o.ve) := cell_at m2 6
        have g7 : v3.cell? ⟨v1.heap.size, 7, none⟩ = some (.slice y.a o.ol.length y.c) := cell_at m2 7
        have g8 : v3.cell? ⟨v1.heap.size, 8, none⟩ = some (.slice y.b o.sl.length y.d) := cell_at m2 8
        have HFIN : Hid (∀ W, Sw (w.heap.size + 1) v1.heap.size v3 W → Copied w.heap.size W y (updO false o ver l)) := fun W s => (C1.keep (P := w.heap.size + 1) (by omega) (s.keep N3 (Nat.le_refl _) (Nat.le_refl _))).lower (by omega)
        have HB : Hid (∀ W, Below w.heap.size v3 W → Below w.heap.size w W) := fun W l => B3.trans l
        clear q0 q1 q2 B1 B2 NQ C1 hg hl1 I J JV IV HC HO HH L3 m1 m2 B3 N3
        go_wp2
        refine bodyPost_ret (v := .tuple #[hnV y (o), .bool false]) (by simp [results, Try.results8, go_sem, e0, e1, e2, e3, e4, e5, e6, e7, e8]) rfl ?_
        refine ⟨y, by rw [HV.out] <;> rfl, ?_, HB.out _ ?_⟩
        · rw [HV.out]
          refine HFIN.out _ ?_
          (repeat' (first | with_reducible exact Sw.refl _ _ _ | with_reducible apply Sw.one | with_reducible apply Sw.two))
        · (repeat' (first | apply Below.setCell | exact Below.refl _ _)) <;> first | (simp; done) | (simp; omega)
      · have HV : Hid (updB o ver l = true) := by show _ = _; unfold updB; rw [h2, h3, decide_eq_true h1]; rfl
        rw [h3] at HH
        clear h2 h3
        have d1 : decide (ver ≤ o.ve) = false := decide_eq_false (by omega)
        go_enter Try.func8, Try.ntmps8
        go_wp2_with fail
        refine named fun V0 hV => ?_
        rw [← hV] at k0 k1 L hs
        clear hV
        refine (HC.out _ (I.on L)).mono ?_
        rintro e v1 ⟨y, rfl, C1, L1⟩
        have n0 := kept L1 (lt_of k0) k0
        have n1 := kept L1 (lt_of k1) k1
        have B1 := join_below L L1
        have hg : w.heap.size + 1 + 1 ≤ V0.heap.size := Nat.le_of_eq hs.symm
        have hl1 : V0.heap.size ≤ v1.heap.size := L1.size
        have NQ := new_below v1 (hnB y o 32)
        have q2 := heap_new v1 (hnB y o 32)
        have q0 := heap_old n0 (hnB y o 32)
        have q1 := heap_old n1 (hnB y o 32)
        have B2 := join_below B1 NQ
        clear k0 k1 L L1 hs n0 n1
        have a6 : (v1.alloc (hnB y o 32)).cell? ⟨w.heap.size, 6, none⟩ = some (.int .i64 o.ve) := cell_at q0 6
        have JV := J.on B2
        have IV := I.on B2
        go_wp2_with fail
        refine (HO.out _ JV).mono ?_
        rintro e v2 ⟨rfl, rfl⟩
        clear a6
        have a0 : (v1.alloc (hnB y o 32)).cell? ⟨w.heap.size, 0, none⟩ = some (.int .i64 o.dv) := cell_at q0 0
        have a1 : (v1.alloc (hnB y o 32)).cell? ⟨w.heap.size, 1, none⟩ = some (.int .i64 o.p) := cell_at q0 1
        have a2 : (v1.alloc (hnB y o 32)).cell? ⟨w.heap.size, 2, none⟩ = some (.int .i64 o.q) := cell_at q0 2
        have a3 : (v1.alloc (hnB y o 32)).cell? ⟨w.heap.size, 3, none⟩ = some (.int .i64 o.g) := cell_at q0 3
        have a4 : (v1.alloc (hnB y o 32)).cell? ⟨w.heap.size, 4, none⟩ = some (.int .i64 o.op) := cell_at q0 4
        have a5 : (v1.alloc (hnB y o 32)).cell? ⟨w.heap.size, 5, none⟩ = some (.int .i64 o.is) := cell_at q0 5
        have a6 : (v1.alloc (hnB y o 32)).cell? ⟨w.heap.size, 6, none⟩ = some (.int .i64 o.ve) := cell_at q0 6
        have a7 : (v1.alloc (hnB y o 32)).cell? ⟨w.heap.size, 7, none⟩ = some (.slice x.a o.ol.length x.c) := cell_at q0 7
        have a8 : (v1.alloc (hnB y o 32)).cell? ⟨w.heap.size, 8, none⟩ = some (.slice x.b o.sl.length x.d) := cell_at q0 8
        go_wp2_with fail
        refine named fun V1 hV => ?_
        rw [← hV] at q0 q1 q2 B2 NQ JV IV
        clear hV a0 a1 a2 a3 a4 a5 a6 a7 a8
        refine (HH.out _ IV).mono ?_
        rintro e v3 ⟨rfl, L3⟩
        have m1 := kept L3 (lt_of q1) q1
        have m2 := kept L3 (lt_of q2) q2
        have B3 := join_below B2 L3
        have N3 : Below v1.heap.size v1 v3 := join_below NQ L3
        have hlt3 := lt_of m2
        have J3 := JV.on L3
        go_wp2_with fail
        refine (clone_ints b u l cap v3 HZ3.out J3).mono ?_
        rintro e v4 ⟨v, rfl, O4, L4⟩
        obtain ⟨va, vc, rfl, -⟩ := own_form O4
        have p1 := kept L4 (lt_of m1) m1
        have p2 := kept L4 (lt_of m2) m2
        have B4 := join_below B3 L4
        have N4 : Below v1.heap.size v1 v4 := join_below N3 L4
        have hne : v1.heap.size ≠ w.heap.size + 1 := by omega
        have e0 : v4.cell? ⟨w.heap.size + 1, 0, none⟩ = some (.int .i64 0) := cell_at p1 0
        have e1 : v4.cell? ⟨w.heap.size + 1, 1, none⟩ = some (.int .i64 0) := cell_at p1 1
        have e2 : v4.cell? ⟨w.heap.size + 1, 2, none⟩ = some (.int .i64 0) := cell_at p1 2
        have e3 : v4.cell? ⟨w.heap.size + 1, 3, none⟩ = some (.int .i64 0) := cell_at p1 3
        have e4 : v4.cell? ⟨w.heap.size + 1, 4, none⟩ = some (.int .i64 0) := cell_at p1 4
        have e5 : v4.cell? ⟨w.heap.size + 1, 5, none⟩ = some (.int .i64 0) := cell_at p1 5
        have e6 : v4.cell? ⟨w.heap.size + 1, 6, none⟩ = some (.int .i64 0) := cell_at p1 6
        have e7 : v4.cell? ⟨w.heap.size + 1, 7, none⟩ = some (.slice none 0 0) := cell_at p1 7
        have e8 : v4.cell? ⟨w.heap.size + 1, 8, none⟩ = some (.slice none 0 0) := cell_at p1 8
        have f0 : v4.frozen? ⟨w.heap.size + 1, 0, none⟩ = false := frozen_at p1 0
        have f1 : v4.frozen? ⟨w.heap.size + 1, 1, none⟩ = false := frozen_at p1 1
        have f2 : v4.frozen? ⟨w.heap.size + 1, 2, none⟩ = false := frozen_at p1 2
        have f3 : v4.frozen? ⟨w.heap.size + 1, 3, none⟩ = false := frozen_at p1 3
        have f4 : v4.frozen? ⟨w.heap.size + 1, 4, none⟩ = false := frozen_at p1 4
        have f5 : v4.frozen? ⟨w.heap.size + 1, 5, none⟩ = false := frozen_at p1 5
        have f6 : v4.frozen? ⟨w.heap.size + 1, 6, none⟩ = false := frozen_at p1 6
        have f7 : v4.frozen? ⟨w.heap.size + 1, 7, none⟩ = false := frozen_at p1 7
        have f8 : v4.frozen? ⟨w.heap.size + 1, 8, none⟩ = false := frozen_at p1 8
        have g0 : v4.cell? ⟨v1.heap.size, 0, none⟩ = some (.int .i64 o.dv) := cell_at p2 0
        have g1 : v4.cell? ⟨v1.heap.size, 1, none⟩ = some (.int .i64 o.p) := cell_at p2 1
        have g2 : v4.cell? ⟨v1.heap.size, 2, none⟩ = some (.int .i64 o.q) := cell_at p2 2
        have g3 : v4.cell? ⟨v1.heap.size, 3, none⟩ = some (.int .i64 o.g) := cell_at p2 3
        have g4 : v4.cell? ⟨v1.heap.size, 4, none⟩ = some (.int .i64 o.op) := cell_at p2 4
        have g5 : v4.cell? ⟨v1.heap.size, 5, none⟩ = some (.int .i64 o.is) := cell_at p2 5
        have g6 : v4.cell? ⟨v1.heap.size, 6, none⟩ = some (.int .i64 o.ve) := cell_at p2 6
        have g7 : v4.cell? ⟨v1.heap.size, 7, none⟩ = some (.slice y.a o.ol.length y.c) := cell_at p2 7
        have g8 : v4.cell? ⟨v1.heap.size, 8, none⟩ = some (.slice y.b o.sl.length y.d) := cell_at p2 8
        have h6 : v4.frozen? ⟨v1.heap.size, 6, none⟩ = false := frozen_at p2 6
        have h7 : v4.frozen? ⟨v1.heap.size, 7, none⟩ = false := frozen_at p2 7
        have HFIN : Hid (∀ W, Sw (w.heap.size + 1) v1.heap.size v4 W → Copied w.heap.size W ⟨va, vc, y.b, y.d⟩ (updO true o ver l)) := fun W s => ⟨own_lower (s.own O4 (by omega) (by omega)) (by omega), own_lower (own_keep (P := w.heap.size + 1) C1.seen (by omega) (s.keep N4 (Nat.le_refl _) (Nat.le_refl _))) (by omega)⟩
        have HB : Hid (∀ W, Below w.heap.size v4 W → Below w.heap.size w W) := fun W l => B4.trans l
        have HL : Hid (w.heap.size + 1 + 1 ≤ v1.heap.size) := by show _ ≤ _; omega
        clear q0 q1 q2 B1 B2 NQ C1 hg hl1 I J JV IV HC HO HH L3 m1 m2 B3 N3 J3 O4 L4 p1 p2 B4 N4 hlt3
        go_wp2
        refine bodyPost_ret (v := .tuple #[hnV ⟨va, vc, y.b, y.d⟩ ({ o with ve := ver, ol := l }), .bool true]) (by simp [results, Try.results8, go_sem, e0, e1, e2, e3, e4, e5, e6, e7, e8]) rfl ?_
        refine ⟨⟨va, vc, y.b, y.d⟩, by rw [HV.out] <;> rfl, ?_, HB.out _ ?_⟩
        · rw [HV.out]
          refine HFIN.out _ ?_
          (repeat' (first | with_reducible exact Sw.refl _ _ _ | with_reducible apply Sw.one | with_reducible apply Sw.two))
        · (repeat' (first | apply Below.setCell | exact Below.refl _ _)) <;> first | (simp; done) | (have := HL.out; simp; omega)
  · have HV : Hid (updB o ver l = false) := by show _ = _; unfold updB; rw [decide_eq_false h1, Bool.false_and, Bool.and_false]
    have d1 : decide (ver ≤ o.ve) = true := decide_eq_true (by omega)
    go_enter Try.func8, Try.ntmps8
    go_wp2_with fail
    refine named fun V0 hV => ?_
    rw [← hV] at k0 k1 L hs
    clear hV
    refine (HC.out _ (I.on L)).mono ?_
    rintro e v1 ⟨y, rfl, C1, L1⟩
    have n0 := kept L1 (lt_of k0) k0
    have n1 := kept L1 (lt_of k1) k1
    have B1 := join_below L L1
    have hg : w.heap.size + 1 + 1 ≤ V0.heap.size := Nat.le_of_eq hs.symm
    have hl1 : V0.heap.size ≤ v1.heap.size := L1.size
    have NQ := new_below v1 (hnB y o 32)
    have q2 := heap_new v1 (hnB y o 32)
    have q0 := heap_old n0 (hnB y o 32)
    have q1 := heap_old n1 (hnB y o 32)
    have B2 := join_below B1 NQ
    clear k0 k1 L L1 hs n0 n1
    have a6 : (v1.alloc (hnB y o 32)).cell? ⟨w.heap.size, 6, none⟩ = some (.int .i64 o.ve) := cell_at q0 6
    have e0 : (v1.alloc (hnB y o 32)).cell? ⟨w.heap.size + 1, 0, none⟩ = some (.int .i64 0) := cell_at q1 0
    have e1 : (v1.alloc (hnB y o 32)).cell? ⟨w.heap.size + 1, 1, none⟩ = some (.int .i64 0) := cell_at q1 1
    have e2 : (v1.alloc (hnB y o 32)).cell? ⟨w.heap.size + 1, 2, none⟩ = some (.int .i64 0) := cell_at q1 2
    have e3 : (v1.alloc (hnB y o 32)).cell? ⟨w.heap.size + 1, 3, none⟩ = some (.int .i64 0) := cell_at q1 3
    have e4 : (v1.alloc (hnB y o 32)).cell? ⟨w.heap.size + 1, 4, none⟩ = some (.int .i64 0) := cell_at q1 4
    have e5 : (v1.alloc (hnB y o 32)).cell? ⟨w.heap.size + 1, 5, none⟩ = some (.int .i64 0) := cell_at q1 5
    have e6 : (v1.alloc (hnB y o 32)).cell? ⟨w.heap.size + 1, 6, none⟩ = some (.int .i64 0) := cell_at q1 6
    have e7 : (v1.alloc (hnB y o 32)).cell? ⟨w.heap.size + 1, 7, none⟩ = some (.slice none 0 0) := cell_at q1 7
    have e8 : (v1.alloc (hnB y o 32)).cell? ⟨w.heap.size + 1, 8, none⟩ = some (.slice none 0 0) := cell_at q1 8
    have f0 : (v1.alloc (hnB y o 32)).frozen? ⟨w.heap.size + 1, 0, none⟩ = false := frozen_at q1 0
    have f1 : (v1.alloc (hnB y o 32)).frozen? ⟨w.heap.size + 1, 1, none⟩ = false := frozen_at q1 1
    have f2 : (v1.alloc (hnB y o 32)).frozen? ⟨w.heap.size + 1, 2, none⟩ = false := frozen_at q1 2
    have f3 : (v1.alloc (hnB y o 32)).frozen? ⟨w.heap.size + 1, 3, none⟩ = false := frozen_at q1 3
    have f4 : (v1.alloc (hnB y o 32)).frozen? ⟨w.heap.size + 1, 4, none⟩ = false := frozen_at q1 4
    have f5 : (v1.alloc (hnB y o 32)).frozen? ⟨w.heap.size + 1, 5, none⟩ = false := frozen_at q1 5
    have f6 : (v1.alloc (hnB y o 32)).frozen? ⟨w.heap.size + 1, 6, none⟩ = false := frozen_at q1 6
    have f7 : (v1.alloc (hnB y o 32)).frozen? ⟨w.heap.size + 1, 7, none⟩ = false := frozen_at q1 7
    have f8 : (v1.alloc (hnB y o 32)).frozen? ⟨w.heap.size + 1, 8, none⟩ = false := frozen_at q1 8
    have HFIN : Hid (∀ W, Sw (w.heap.size + 1) v1.heap.size (v1.alloc (hnB y o 32)) W → Copied w.heap.size W y (updO false o ver l)) := fun W s => (C1.keep (P := w.heap.size + 1) (by omega) (s.keep NQ (Nat.le_refl _) (Nat.le_refl _))).lower (by omega)
    have HB : Hid (∀ W, Below w.heap.size (v1.alloc (hnB y o 32)) W → Below w.heap.size w W) := fun W l => B2.trans l
    clear q0 q1 q2 B1 B2 NQ C1 hg hl1 I J HC HO HH
    go_wp2
    refine bodyPost_ret (v := .tuple #[hnV y (o), .bool false]) (by simp [results, Try.results8, go_sem, e0, e1, e2, e3, e4, e5, e6, e7, e8]) rfl ?_
    refine ⟨y, by rw [HV.out] <;> rfl, ?_, HB.out _ ?_⟩
    · rw [HV.out]
      refine HFIN.out _ ?_
      (repeat' (first | with_reducible exact Sw.refl _ _ _ | with_reducible apply Sw.one | with_reducible apply Sw.two))
    · (repeat' (first | apply Below.setCell | exact Below.refl _ _)) <;> first | (simp; done) | (simp; omega)

end Hn
end Go.Proofs.Ytlgolnddhfadeab

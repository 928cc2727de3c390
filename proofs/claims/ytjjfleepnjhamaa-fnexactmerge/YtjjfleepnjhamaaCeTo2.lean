/- A copy of a centre, with its place written out. -/
import Derived.Test.YtjjfleepnjhamaaCeTo
namespace Go.Proofs.Ytjjfleepnjhamaa
namespace Hn
open Go.ChangeShapes Go.WideShapes Go.ChangeAt Go.RowKit Go.Joins
open Pk (new_below join_below cell_at heap_new frozen_at lt_of kept heap_old Drawn info_of Room)
set_option linter.unusedSimpArgs false
set_option linter.unusedVariables false

/-- A copy's place: two blocks, no room to spare. -/
abbrev plO (g1 g2 : Nat) (o : Ctr) : Pl := ⟨some ⟨g1, 0, none⟩, o.ol.length, some ⟨g2, 0, none⟩, o.sl.length⟩

set_option maxRecDepth 100000 in
set_option maxHeartbeats 8000000 in
theorem toCentre_is (x : Pl) (o : Ctr) (w : World) (hz : o.ol.length ≤ 1048576) (hz2 : o.sl.length ≤ 1048576) (I : In w x o) :
    Calls Try.prog 11 #[ceV x o] w fun e w' => ∃ g1 g2, e = .returned (ceV (plO g1 g2 o) o) ∧ Below w.heap.size w w' ∧ In w' (plO g1 g2 o) o ∧ Mine w.heap.size w' (plO g1 g2 o) o g1 g2 ∧ g1 < w'.heap.size ∧ g2 < w'.heap.size := by
  have HZ : Hid (o.ol.length ≤ 1048576 ∧ o.sl.length ≤ 1048576) := ⟨hz, hz2⟩
  obtain ⟨k0, k1, k2⟩ := three_blocks w (ceB x o 25) (.cells #[.int .i64 0, .slice none 0 0, .slice none 0 0] 30) (.cells #[.int .i64 o.ve, .slice none 0 0, .slice none 0 0] 30)
  have L : Below w.heap.size w (((w.alloc (ceB x o 25)).alloc (.cells #[.int .i64 0, .slice none 0 0, .slice none 0 0] 30)).alloc (.cells #[.int .i64 o.ve, .slice none 0 0, .slice none 0 0] 30)) := join_below (join_below (new_below _ _) (new_below _ _)) (new_below _ _)
  have hs : (((w.alloc (ceB x o 25)).alloc (.cells #[.int .i64 0, .slice none 0 0, .slice none 0 0] 30)).alloc (.cells #[.int .i64 o.ve, .slice none 0 0, .slice none 0 0] 30)).heap.size = w.heap.size + 1 + 1 + 1 := (Array.size_push ..).trans (congrArg (· + 1) ((Array.size_push ..).trans (congrArg (· + 1) (Array.size_push ..))))
  clear hz hz2
  go_enter Try.func11, Try.ntmps11
  go_wp2_with fail
  refine named fun W1 hW => ?_
  rw [← hW] at k0 k1 k2 L hs
  clear hW
  refine (toIntS_val x.a o.ol x.c W1 HZ.out.1 (I.off.on L)).mono ?_
  rintro e v1 ⟨rfl, L1, M1, hl1, R1⟩
  have k0 := kept L1 (lt_of k0) k0
  have k1 := kept L1 (lt_of k1) k1
  have k2 := kept L1 (lt_of k2) k2
  have B1 := join_below L L1
  have hg1 : w.heap.size + 1 + 1 + 1 ≤ W1.heap.size := Nat.le_of_eq hs.symm
  clear L1 L hs
  generalize W1.heap.size = g1 at *
  have k1n : (v1.setCell ⟨w.heap.size + 1 + 1, 1, none⟩ (.slice (some ⟨g1, 0, none⟩) o.ol.length o.ol.length)).heap[w.heap.size + 1]? = some (.cells #[.int .i64 0, .slice none 0 0, .slice none 0 0] 30) := h_other (g := w.heap.size + 1 + 1) (i := 1) k1 (by omega) _
  have k2n : (v1.setCell ⟨w.heap.size + 1 + 1, 1, none⟩ (.slice (some ⟨g1, 0, none⟩) o.ol.length o.ol.length)).heap[w.heap.size + 1 + 1]? = some (.cells #[.int .i64 o.ve, .slice (some ⟨g1, 0, none⟩) o.ol.length o.ol.length, .slice none 0 0] 30) := h_set (i := 1) k2 _
  have Bn : Below w.heap.size w (v1.setCell ⟨w.heap.size + 1 + 1, 1, none⟩ (.slice (some ⟨g1, 0, none⟩) o.ol.length o.ol.length)) := B1.setCell (show w.heap.size ≤ w.heap.size + 1 + 1 by omega) _
  have M1n : Ints (v1.setCell ⟨w.heap.size + 1 + 1, 1, none⟩ (.slice (some ⟨g1, 0, none⟩) o.ol.length o.ol.length)) (some ⟨g1, 0, none⟩) o.ol := ints_other M1 (by omega)
  have R1n : Room (v1.setCell ⟨w.heap.size + 1 + 1, 1, none⟩ (.slice (some ⟨g1, 0, none⟩) o.ol.length o.ol.length)) g1 o.ol.length := R1.set _ _ _
  have hn : g1 < (v1.setCell ⟨w.heap.size + 1 + 1, 1, none⟩ (.slice (some ⟨g1, 0, none⟩) o.ol.length o.ol.length)).heap.size := by rw [World.size_setCell]; exact hl1
  have a8 : v1.cell? ⟨w.heap.size, 2, none⟩ = some (.slice x.b o.sl.length x.d) := cell_at k0 2
  have b7 : v1.cell? ⟨w.heap.size + 1 + 1, 1, none⟩ = some (.slice none 0 0) := cell_at k2 1
  have f7 : v1.frozen? ⟨w.heap.size + 1 + 1, 1, none⟩ = false := frozen_at k2 1
  clear k0 k1 k2 M1 R1 hl1
  go_wp2_with fail
  refine named fun W2 hW => ?_
  rw [← hW] at k1n k2n Bn hn M1n R1n
  clear hW a8 b7 f7
  refine (toControlS_val x.b o.sl x.d W2 HZ.out.2 (I.seen.on Bn)).mono ?_
  rintro e v2 ⟨rfl, L2, M2, hl2, R2⟩
  have k1 := kept L2 (lt_of k1n) k1n
  have k2 := kept L2 (lt_of k2n) k2n
  have B2 := join_below Bn L2
  have M1 := M1n.on L2
  have R1 := R1n.on L2 hn
  have hg12 : g1 < W2.heap.size := hn
  generalize W2.heap.size = g2 at *
  clear L2 k1n k2n Bn hn B1 M1n R1n
  have b0 : v2.cell? ⟨w.heap.size + 1 + 1, 0, none⟩ = some (.int .i64 o.ve) := cell_at k2 0
  have c0 : v2.cell? ⟨w.heap.size + 1, 0, none⟩ = some (.int .i64 0) := cell_at k1 0
  have e0 : v2.frozen? ⟨w.heap.size + 1, 0, none⟩ = false := frozen_at k1 0
  have b1 : v2.cell? ⟨w.heap.size + 1 + 1, 1, none⟩ = some (.slice (some ⟨g1, 0, none⟩) o.ol.length o.ol.length) := cell_at k2 1
  have c1 : v2.cell? ⟨w.heap.size + 1, 1, none⟩ = some (.slice none 0 0) := cell_at k1 1
  have e1 : v2.frozen? ⟨w.heap.size + 1, 1, none⟩ = false := frozen_at k1 1
  have b2 : v2.cell? ⟨w.heap.size + 1 + 1, 2, none⟩ = some (.slice none 0 0) := cell_at k2 2
  have c2 : v2.cell? ⟨w.heap.size + 1, 2, none⟩ = some (.slice none 0 0) := cell_at k1 2
  have e2 : v2.frozen? ⟨w.heap.size + 1, 2, none⟩ = false := frozen_at k1 2
  have f2 : v2.frozen? ⟨w.heap.size + 1 + 1, 2, none⟩ = false := frozen_at k2 2
  have HFIN : Hid (∀ W, Sw (w.heap.size + 1 + 1) (w.heap.size + 1) v2 W → In W ⟨some ⟨g1, 0, none⟩, o.ol.length, some ⟨g2, 0, none⟩, o.sl.length⟩ o ∧ Mine w.heap.size W ⟨some ⟨g1, 0, none⟩, o.ol.length, some ⟨g2, 0, none⟩, o.sl.length⟩ o g1 g2 ∧ g1 < W.heap.size ∧ g2 < W.heap.size ∧ True ∧ True) := by
    intro W s
    have q1 : g1 < W.heap.size := by rw [s.size]; omega
    have q2 : g2 < W.heap.size := by rw [s.size]; omega
    exact ⟨⟨s.ints M1 (by omega) (by omega), s.ctls M2 (by omega) (by omega)⟩, ⟨by omega, by omega, by omega, Or.inr ⟨rfl, q1, s.room R1 (by omega) (by omega)⟩, Or.inr ⟨rfl, q2, s.room R2 (by omega) (by omega)⟩⟩, q1, q2, trivial, trivial⟩
  have HB2 : Hid (∀ W, Below w.heap.size v2 W → Below w.heap.size w W) := fun W l => B2.trans l
  clear k1 k2 M1 M2 R1 R2 hl2 B2 I
  go_wp2
  refine bodyPost_ret (v := ceV ⟨some ⟨g1, 0, none⟩, o.ol.length, some ⟨g2, 0, none⟩, o.sl.length⟩ o) (by simp [results, Try.results11, go_sem, c0, c1, c2]) rfl ?_
  refine ⟨g1, g2, rfl, HB2.out _ ?_, (fun h => ⟨h.1, h.2.1, h.2.2.1, h.2.2.2.1⟩) (HFIN.out _ ?_)⟩
  · (repeat' (first | apply Below.setCell | exact Below.refl _ _)) <;> first | (simp; done) | (simp; omega)
  · (repeat' (first | with_reducible exact Sw.refl _ _ _ | with_reducible apply Sw.one | with_reducible apply Sw.two))

/-- The same, the place a letter. -/
theorem toCentre_cap (x : Pl) (o : Ctr) (w : World) (hz : o.ol.length ≤ 1048576) (hz2 : o.sl.length ≤ 1048576) (I : In w x o) :
    Calls Try.prog 11 #[ceV x o] w fun e w' => ∃ y g1 g2, e = .returned (ceV y o) ∧ Below w.heap.size w w' ∧ In w' y o ∧ Mine w.heap.size w' y o g1 g2 ∧ g1 < w'.heap.size ∧ g2 < w'.heap.size ∧ y.a = some ⟨g1, 0, none⟩ ∧ y.b = some ⟨g2, 0, none⟩ ∧ o.ol.length ≤ y.c ∧ o.sl.length ≤ y.d := by
  refine (toCentre_is x o w hz hz2 I).mono ?_
  rintro e w' ⟨g1, g2, he, h1, h2, h3, h4, h5⟩
  exact ⟨_, g1, g2, he, h1, h2, h3, h4, h5, rfl, rfl, Nat.le_refl _, Nat.le_refl _⟩

end Hn
end Go.Proofs.Ytjjfleepnjhamaa

/- The copy of a centre by the model: its lists are no nil. -/
import Derived.Test.YtbmfhdlbbaabgaaCeCp
import Derived.Laws.AppendOwnNone
namespace Go.Proofs.Ytbmfhdlbbaabgaa
namespace Hn
open Go.ChangeShapes Go.WideShapes Go.ChangeAt Go.RowKit Go.Joins
open Pk (new_below join_below cell_at heap_new frozen_at lt_of kept heap_old Drawn info_of Room own_form own_below)
set_option linter.unusedSimpArgs false
set_option linter.unusedVariables false

set_option maxRecDepth 100000 in
set_option maxHeartbeats 4000000 in
theorem specCopy_some (x : Pl) (o : Ctr) (w : World) (hz : o.ol.length ≤ 1048576) (hz2 : o.sl.length ≤ 1048576) (I : In w x o) (fl : Flat x) :
    Calls Try.prog 38 #[ceV x o] w fun e w' => ∃ y, e = .returned (ceV y o) ∧ Copied w.heap.size w' y o ∧ (∃ g, y.a = some ⟨g, 0, none⟩) ∧ (∃ g, y.b = some ⟨g, 0, none⟩) ∧ Below w.heap.size w w' := by
  have HZ : Hid (o.ol.length ≤ 1048576 ∧ o.sl.length ≤ 1048576) := ⟨hz, hz2⟩
  obtain ⟨⟨b1, o1, ea⟩, ⟨b2, o2, eb⟩⟩ := fl
  have I1 : Ints w (some ⟨b1, o1, none⟩) o.ol := by rw [← ea]; exact I.off
  have I2 : Controls w (some ⟨b2, o2, none⟩) o.sl := by rw [← eb]; exact I.seen
  obtain ⟨xa, xc, xb, xd⟩ := x
  simp only at ea eb
  subst ea eb
  obtain ⟨k0, k1, hs⟩ := two_blocks w (ceB ⟨some ⟨b1, o1, none⟩, xc, some ⟨b2, o2, none⟩, xd⟩ o 27) (.cells #[.int .i64 0, .slice none 0 0, .slice none 0 0] 27)
  have L : Below w.heap.size w ((w.alloc (ceB ⟨some ⟨b1, o1, none⟩, xc, some ⟨b2, o2, none⟩, xd⟩ o 27)).alloc (.cells #[.int .i64 0, .slice none 0 0, .slice none 0 0] 27)) := join_below (new_below _ _) (new_below _ _)
  clear hz hz2 I
  go_enter Try.func38, Try.ntmps38
  obtain ⟨i0, hi, hz0, hz1, hz2⟩ := info_of intInfo
  have ON := nil_row ((w.alloc (ceB ⟨some ⟨b1, o1, none⟩, xc, some ⟨b2, o2, none⟩, xd⟩ o 27)).alloc (.cells #[.int .i64 0, .slice none 0 0, .slice none 0 0] 27)) 3 1
  have NN := new_below ((w.alloc (ceB ⟨some ⟨b1, o1, none⟩, xc, some ⟨b2, o2, none⟩, xd⟩ o 27)).alloc (.cells #[.int .i64 0, .slice none 0 0, .slice none 0 0] 27)) (.cells #[] 3)
  rw [hs] at ON
  have HG : Hid (_) := ints_get ((I1.on L).on NN)
  have HC5 : Hid (w.heap.size + 1 + 1 ≤ (((w.alloc (ceB ⟨some ⟨b1, o1, none⟩, xc, some ⟨b2, o2, none⟩, xd⟩ o 27)).alloc (.cells #[.int .i64 0, .slice none 0 0, .slice none 0 0] 27)).alloc (.cells #[] 3)).heap.size) := by show _ ≤ _; rw [← hs]; exact NN.size
  go_wp2_with (at_builtin; refine wpList_append_own_at _ rfl _ _ 24 rfl (w.heap.size + 1 + 1) 3 i0 (.int .i64 0) 1 8 Try.underlying24 hi hz0 hz1 hz2 rfl (by decide) _ _ _ rfl ON ⟨b1, o1, none⟩ o.ol.length xc (icells o.ol) rfl ?c0 ?c1 ?c2 ?c3 ?c4 ?c5 ?_)
  case c0 => exact icells_length o.ol
  case c1 => exact HG.out
  case c2 => exact icells_one o.ol
  case c3 => have := HZ.out.1; unfold maxLen; omega
  case c4 => have := HZ.out.1; omega
  case c5 => exact HC5.out
  intro v' v1 O1 G1 hnil1 _
  have L1 : Below ((w.alloc (ceB ⟨some ⟨b1, o1, none⟩, xc, some ⟨b2, o2, none⟩, xd⟩ o 27)).alloc (.cells #[.int .i64 0, .slice none 0 0, .slice none 0 0] 27)).heap.size ((w.alloc (ceB ⟨some ⟨b1, o1, none⟩, xc, some ⟨b2, o2, none⟩, xd⟩ o 27)).alloc (.cells #[.int .i64 0, .slice none 0 0, .slice none 0 0] 27)) v1 := NN.grown G1 NN.size (fun j hj => by rw [hs]; exact (ON.lt j hj).1)
  try rw [Nat.zero_add, List.nil_append] at O1
  obtain ⟨va, vc, rfl, -⟩ := own_form O1
  have HVA : Hid (∃ g, va = some ⟨g, 0, none⟩) := by
    obtain ⟨-, ⟨h1, -⟩ | ⟨g, cap, cur, h1, -⟩⟩ := O1
    · exact absurd h1 (by first | exact hnil1 | (intro h; have := (hnil1.1 h).1; cases this))
    · simp only [Value.slice.injEq] at h1
      exact ⟨g, h1.1⟩
  clear hnil1
  clear ON NN HG HC5 G1 hi hz0 hz1 hz2
  obtain ⟨W0, hW⟩ : ∃ W, W = ((w.alloc (ceB ⟨some ⟨b1, o1, none⟩, xc, some ⟨b2, o2, none⟩, xd⟩ o 27)).alloc (.cells #[.int .i64 0, .slice none 0 0, .slice none 0 0] 27)) := ⟨_, rfl⟩
  rw [← hW] at k0 k1 L hs L1
  rw [← hs] at O1
  clear hW
  have m0 := kept L1 (lt_of k0) k0
  have m1 := kept L1 (lt_of k1) k1
  have B1 := join_below L L1
  have hg1 : w.heap.size + 1 + 1 ≤ W0.heap.size := Nat.le_of_eq hs.symm
  have hl1 : W0.heap.size ≤ v1.heap.size := L1.size
  clear k0 k1 L L1 hs
  have n0 : (v1.setCell ⟨w.heap.size, 1, none⟩ (.slice va o.ol.length vc)).heap[w.heap.size]? = some (.cells #[.int .i64 o.ve, .slice va o.ol.length vc, .slice (some ⟨b2, o2, none⟩) o.sl.length xd] 27) := h_set (i := 1) m0 _
  have n1 : (v1.setCell ⟨w.heap.size, 1, none⟩ (.slice va o.ol.length vc)).heap[w.heap.size + 1]? = some (.cells #[.int .i64 0, .slice none 0 0, .slice none 0 0] 27) := h_other (i := 1) m1 (by omega) _
  have Bn : Below w.heap.size w (v1.setCell ⟨w.heap.size, 1, none⟩ (.slice va o.ol.length vc)) := B1.setCell (Nat.le_refl _) _
  have O1n : (v1.setCell ⟨w.heap.size, 1, none⟩ (.slice va o.ol.length vc)).ownsRow W0.heap.size 3 1 (.slice va o.ol.length vc) o.ol.length (icells o.ol) := own_free O1 (by omega)
  have J2 : Controls (v1.setCell ⟨w.heap.size, 1, none⟩ (.slice va o.ol.length vc)) (some ⟨b2, o2, none⟩) o.sl := I2.on Bn
  have hn : W0.heap.size ≤ (v1.setCell ⟨w.heap.size, 1, none⟩ (.slice va o.ol.length vc)).heap.size := by rw [World.size_setCell]; exact hl1
  have a7 : v1.cell? ⟨w.heap.size, 1, none⟩ = some (.slice (some ⟨b1, o1, none⟩) o.ol.length xc) := cell_at m0 1
  have a8 : v1.cell? ⟨w.heap.size, 2, none⟩ = some (.slice (some ⟨b2, o2, none⟩) o.sl.length xd) := cell_at m0 2
  have f7 : v1.frozen? ⟨w.heap.size, 1, none⟩ = false := frozen_at m0 1
  clear m0 m1 O1 B1 hl1
  obtain ⟨j0, hj, hy0, hy1, hy2⟩ := info_of info_control
  have ON := nil_row (v1.setCell ⟨w.heap.size, 1, none⟩ (.slice va o.ol.length vc)) 37 6
  have NN := new_below (v1.setCell ⟨w.heap.size, 1, none⟩ (.slice va o.ol.length vc)) (.cells #[] 37)
  have e9 : (v1.setCell ⟨w.heap.size, 1, none⟩ (.slice va o.ol.length vc)).heap.size = v1.heap.size := World.size_setCell ..
  rw [e9] at ON
  have HG : Hid (_) := ctls_get (J2.on NN)
  have HC5 : Hid (v1.heap.size ≤ ((v1.setCell ⟨w.heap.size, 1, none⟩ (.slice va o.ol.length vc)).alloc (.cells #[] 37)).heap.size) := by show _ ≤ _; rw [← e9]; exact NN.size
  clear e9
  have a8s : ((v1.setCell ⟨w.heap.size, 1, none⟩ (.slice va o.ol.length vc)).alloc (.cells #[] 37)).cell? ⟨w.heap.size, 2, none⟩ = some (.slice (some ⟨b2, o2, none⟩) o.sl.length xd) := cell_at (heap_old n0 _) 2
  go_wp2_with (at_builtin; refine wpList_append_own_at _ rfl _ _ 25 rfl v1.heap.size 37 j0 (lgV ⟨0, 0, 0, 0, 0, 0⟩) 6 48 Try.underlying25 hj hy0 hy1 hy2 rfl (by decide) _ _ _ rfl ON ⟨b2, o2, none⟩ o.sl.length xd (ccells o.sl) rfl ?d0 ?d1 ?d2 ?d3 ?d4 ?d5 ?_)
  case d0 => exact ccells_length o.sl
  case d1 => exact HG.out
  case d2 => exact ccells_one o.sl
  case d3 => have := HZ.out.2; unfold maxLen; omega
  case d4 => have := HZ.out.2; omega
  case d5 => exact HC5.out
  intro v' v2 O2 G2 hnil _
  have L2 : Below (v1.setCell ⟨w.heap.size, 1, none⟩ (.slice va o.ol.length vc)).heap.size (v1.setCell ⟨w.heap.size, 1, none⟩ (.slice va o.ol.length vc)) v2 := NN.grown G2 NN.size (fun j hj => by rw [World.size_setCell]; exact (ON.lt j hj).1)
  try rw [Nat.zero_add, List.nil_append] at O2
  obtain ⟨sa, sc, rfl, -⟩ := own_form O2
  have HSA : Hid (∃ g, sa = some ⟨g, 0, none⟩) := by
    obtain ⟨-, ⟨h1, -⟩ | ⟨g, cap, cur, h1, -⟩⟩ := O2
    · exact absurd h1 (by first | exact hnil | (intro h; have := (hnil.1 h).1; cases this))
    · simp only [Value.slice.injEq] at h1
      exact ⟨g, h1.1⟩
  clear hnil
  clear ON NN HG HC5 G2 hj hy0 hy1 hy2 a7 a8 f7 a8s
  have e9 : (v1.setCell ⟨w.heap.size, 1, none⟩ (.slice va o.ol.length vc)).heap.size = v1.heap.size := World.size_setCell ..
  rw [← e9] at O2
  obtain ⟨W1, hW⟩ : ∃ W, W = (v1.setCell ⟨w.heap.size, 1, none⟩ (.slice va o.ol.length vc)) := ⟨_, rfl⟩
  rw [← hW] at n0 n1 Bn O1n J2 hn L2 O2
  clear hW e9
  have m0 := kept L2 (lt_of n0) n0
  have m1 := kept L2 (lt_of n1) n1
  have B2 := join_below Bn L2
  have O1 := own_below O1n L2 (Nat.le_refl _)
  have hlo : w.heap.size + 1 + 1 ≤ W1.heap.size := Nat.le_trans hg1 hn
  have d6 : v2.cell? ⟨w.heap.size, 0, none⟩ = some (.int .i64 o.ve) := cell_at m0 0
  have d7 : v2.cell? ⟨w.heap.size, 1, none⟩ = some (.slice va o.ol.length vc) := cell_at m0 1
  have d8 : v2.cell? ⟨w.heap.size, 2, none⟩ = some (.slice (some ⟨b2, o2, none⟩) o.sl.length xd) := cell_at m0 2
  have e6 : v2.cell? ⟨w.heap.size + 1, 0, none⟩ = some (.int .i64 0) := cell_at m1 0
  have e7 : v2.cell? ⟨w.heap.size + 1, 1, none⟩ = some (.slice none 0 0) := cell_at m1 1
  have e8 : v2.cell? ⟨w.heap.size + 1, 2, none⟩ = some (.slice none 0 0) := cell_at m1 2
  have g8 : v2.frozen? ⟨w.heap.size, 2, none⟩ = false := frozen_at m0 2
  have f6 : v2.frozen? ⟨w.heap.size + 1, 0, none⟩ = false := frozen_at m1 0
  have f7 : v2.frozen? ⟨w.heap.size + 1, 1, none⟩ = false := frozen_at m1 1
  have f8 : v2.frozen? ⟨w.heap.size + 1, 2, none⟩ = false := frozen_at m1 2
  have HFIN : Hid (∀ W, Sw (w.heap.size) (w.heap.size + 1) v2 W → Copied w.heap.size W ⟨va, vc, sa, sc⟩ o) := fun W s => ⟨own_lower (s.own O1 (by omega) (by omega)) (by omega), own_lower (s.own O2 (by omega) (by omega)) (by omega)⟩
  have HB2 : Hid (∀ W, Below w.heap.size v2 W → Below w.heap.size w W) := fun W l => B2.trans l
  clear m0 m1 O1 O2 B2 n0 n1 L2 Bn O1n J2 hn hg1 hlo I1 I2
  go_wp2
  refine bodyPost_ret (v := ceV ⟨va, vc, sa, sc⟩ o) (by simp [results, Try.results38, go_sem, e6, e7, e8]) rfl ?_
  refine ⟨_, rfl, HFIN.out _ ?_, HVA.out, HSA.out, HB2.out _ ?_⟩
  · (repeat' (first | with_reducible exact Sw.refl _ _ _ | with_reducible apply Sw.one | with_reducible apply Sw.two))
  · (repeat' (first | apply Below.setCell | exact Below.refl _ _)) <;> first | (simp; done) | (simp; omega)

set_option maxRecDepth 100000 in
set_option maxHeartbeats 4000000 in
theorem specCopy_nil (ve : Int) (w : World) :
    Calls Try.prog 38 #[ceV ⟨none, 0, none, 0⟩ ⟨ve, [], []⟩] w fun e w' => ∃ y, e = .returned (ceV y ⟨ve, [], []⟩) ∧ Copied w.heap.size w' y ⟨ve, [], []⟩ ∧ (∃ g, y.a = some ⟨g, 0, none⟩) ∧ (∃ g, y.b = some ⟨g, 0, none⟩) ∧ Below w.heap.size w w' := by
  obtain ⟨k0, k1, hs⟩ := two_blocks w (.cells #[.int .i64 ve, .slice (some ⟨w.heap.size + 1 + 1, 0, none⟩) 0 0, .slice (some ⟨w.heap.size + 1 + 1 + 1, 0, none⟩) 0 0] 27) (.cells #[.int .i64 ve, .slice (some ⟨w.heap.size + 1 + 1, 0, none⟩) 0 0, .slice (some ⟨w.heap.size + 1 + 1 + 1, 0, none⟩) 0 0] 27)
  have L : Below w.heap.size w ((w.alloc (.cells #[.int .i64 ve, .slice (some ⟨w.heap.size + 1 + 1, 0, none⟩) 0 0, .slice (some ⟨w.heap.size + 1 + 1 + 1, 0, none⟩) 0 0] 27)).alloc (.cells #[.int .i64 ve, .slice (some ⟨w.heap.size + 1 + 1, 0, none⟩) 0 0, .slice (some ⟨w.heap.size + 1 + 1 + 1, 0, none⟩) 0 0] 27)) := join_below (new_below _ _) (new_below _ _)
  go_enter Try.func38, Try.ntmps38
  go_wp2
  refine bodyPost_ret (v := ceV ⟨some ⟨w.heap.size + 1 + 1, 0, none⟩, 0, some ⟨w.heap.size + 1 + 1 + 1, 0, none⟩, 0⟩ ⟨ve, [], []⟩) (by simp [results, Try.results38, go_sem]) rfl ?_
  generalize (w.alloc (.cells #[.int .i64 ve, .slice (some ⟨w.heap.size + 1 + 1, 0, none⟩) 0 0, .slice (some ⟨w.heap.size + 1 + 1 + 1, 0, none⟩) 0 0] 27)).alloc (.cells #[.int .i64 ve, .slice (some ⟨w.heap.size + 1 + 1, 0, none⟩) 0 0, .slice (some ⟨w.heap.size + 1 + 1 + 1, 0, none⟩) 0 0] 27) = X at *
  have e1 : (X.alloc (.cells #[] 3)).heap.size = w.heap.size + 1 + 1 + 1 := by rw [← hs]; exact Array.size_push ..
  have N1 := new_below X (.cells #[] 3)
  have N2 := new_below (X.alloc (.cells #[] 3)) (.cells #[] 37)
  have O1 := nil_row X 3 1
  have O2 := nil_row (X.alloc (.cells #[] 3)) 37 6
  rw [hs] at O1
  rw [e1] at O2
  refine ⟨_, rfl, ⟨?_, ?_⟩, ⟨_, rfl⟩, ⟨_, rfl⟩, join_below (join_below L N1) N2⟩
  · exact own_lower (own_below O1 N2 (Nat.le_refl _)) (by omega)
  · exact own_lower O2 (by omega)

end Hn
end Go.Proofs.Ytbmfhdlbbaabgaa

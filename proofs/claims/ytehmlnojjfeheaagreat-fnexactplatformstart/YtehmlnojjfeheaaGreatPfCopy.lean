/- A copy of an office by the laws' own toOffice: its lists, and that they may be written, each in blocks of its own. -/
import Derived.Test.YtehmlnojjfeheaaGreatPfBoth
import Derived.Test.YtehmlnojjfeheaaGreatOfCopy
namespace Go.Proofs.YtehmlnojjfeheaaGreat
namespace Of
open Go.ChangeShapes Go.WideShapes Go.ChangeAt Go.RowKit Go.Joins
open Pk (new_below join_below cell_at heap_new frozen_at lt_of kept heap_old info_of Room)
open Tn (Band Tr)
open Od (Oo)
set_option linter.unusedSimpArgs false
set_option linter.unusedVariables false

/-- Something that hangs on the blocks from l to h alone, which lie from lo on. -/
structure Ql (lo : Nat) (w : World) (l h : Nat) (Q : World → Prop) : Prop where
  loc : Loc l h Q
  lo : lo ≤ l
  lh : l < h
  hs : h ≤ w.heap.size
  q : Q w

theorem Ql.of {lo l h : Nat} {w w1 : World} {Q : World → Prop} (q : Ql lo w l h Q) (K : Below w.heap.size w w1) : Ql lo w1 l h Q := ⟨q.loc, q.lo, q.lh, Nat.le_trans q.hs K.size, q.loc.on q.q K q.hs⟩

theorem Ql.set {lo l h g i : Nat} {w : World} {Q : World → Prop} (q : Ql lo w l h Q) (hg : g < lo) (v : Value) : Ql lo (w.setCell ⟨g, i, none⟩ v) l h Q :=
  ⟨q.loc, q.lo, q.lh, by rw [World.size_setCell]; exact q.hs, q.loc w _ q.q (by rw [World.size_setCell]; exact Nat.le_refl _) fun b h1 h2 => Below.heap_setCell w ⟨g, i, none⟩ v b (by show b ≠ g; have := q.lo; omega)⟩

theorem Ql.fb {lo l h a b : Nat} {w w1 : World} {Q : World → Prop} (q : Ql lo w l h Q) (F : Fb a b w w1) (hd : h ≤ a ∨ b ≤ l) : Ql lo w1 l h Q := ⟨q.loc, q.lo, q.lh, Nat.le_trans q.hs F.size, q.loc.fb q.q F q.hs hd⟩

theorem room_loc (g n : Nat) : Loc g (g + 1) (fun W => Room W g n) := by
  intro w w1 q hs hb j hj
  have e := hb g (Nat.le_refl _) (Nat.lt_succ_self _)
  rw [World.cell?_of_block (a := ⟨g, j, none⟩) e, World.frozen?_of_block (a := ⟨g, j, none⟩) e]
  exact q j hj

theorem mk_mine {w : World} {g : Nat} {ts : List Tr} (h : Tn.Mine w g g ts.length ts.length ts) : Tn.Mk w g w.heap.size g ts := by
  refine ⟨h.1, fun i hi => ?_⟩
  obtain ⟨-, gi, a1, a2, a3, a4, -, a6⟩ := h.2 i hi hi
  exact ⟨gi, a1, a3, a2, a4, a6⟩

theorem room_same {w w1 : World} {g n : Nat} (h : Room w g n) (e : w1.heap[g]? = w.heap[g]?) : Room w1 g n := by
  intro j hj
  rw [World.cell?_of_block (a := ⟨g, j, none⟩) e, World.frozen?_of_block (a := ⟨g, j, none⟩) e]
  exact h j hj

theorem mk_loc (g h : Nat) (ts : List Tr) (hg : g < h) : Loc g h (fun W => Tn.Mk W g h g ts) := by
  intro w w1 q hs hb
  refine ⟨room_same q.1 (hb g (Nat.le_refl _) hg), fun i hi => ?_⟩
  obtain ⟨gi, a1, a2, a3, a4, a5⟩ := q.2 i hi
  exact ⟨gi, a1, a2, a3, by rw [World.cell?_of_block (a := ⟨g, i * 5 + 4, none⟩) (hb g (Nat.le_refl _) hg)]; exact a4, room_same a5 (hb gi a1 a2)⟩

/-- Orders of the call's own that may be written. -/
def MkO (w : World) (lo hi g : Nat) (ts : List Oo) : Prop := Room w g (ts.length * 9) ∧ ∀ i (h : i < ts.length), ∃ gi, lo ≤ gi ∧ gi < hi ∧ gi ≠ g ∧ w.cell? ⟨g, i * 9 + 5, none⟩ = some (.slice (some ⟨gi, 0, none⟩) ts[i].l.length ts[i].l.length) ∧ Room w gi (ts[i].l.length * 4)

theorem mkO_mine {w : World} {g : Nat} {ts : List Oo} (h : Od.Mine w g g ts.length ts.length ts) : MkO w g w.heap.size g ts := by
  refine ⟨h.1, fun i hi => ?_⟩
  obtain ⟨-, gi, a1, a2, a3, a4, -, a6⟩ := h.2 i hi hi
  exact ⟨gi, a1, a3, a2, a4, a6⟩

theorem mkO_loc (g h : Nat) (ts : List Oo) (hg : g < h) : Loc g h (fun W => MkO W g h g ts) := by
  intro w w1 q hs hb
  refine ⟨room_same q.1 (hb g (Nat.le_refl _) hg), fun i hi => ?_⟩
  obtain ⟨gi, a1, a2, a3, a4, a5⟩ := q.2 i hi
  exact ⟨gi, a1, a2, a3, by rw [World.cell?_of_block (a := ⟨g, i * 9 + 5, none⟩) (hb g (Nat.le_refl _) hg)]; exact a4, room_same a5 (hb gi a1 a2)⟩

/-- Copied lists of an office: they are the office's, and each lies in blocks of its own that may be written. -/
def Oc (lo hi : Nat) (w : World) (y : Pl) (o : Offc) : Prop := ∃ g0 h0 g1 g2 g3 h3 g4 : Nat, (y.a0 = some ⟨g0, 0, none⟩ ∧ y.a1 = some ⟨g1, 0, none⟩ ∧ y.a2 = some ⟨g2, 0, none⟩ ∧ y.a3 = some ⟨g3, 0, none⟩ ∧ y.a4 = some ⟨g4, 0, none⟩) ∧ In w y o ∧
  Ql lo w g0 h0 (fun W => Tn.Mk W g0 h0 g0 o.ln) ∧ Ql lo w g1 (g1 + 1) (fun W => Room W g1 (o.ta.length * 3)) ∧ Ql lo w g2 (g2 + 1) (fun W => Room W g2 (o.ho.length * 7)) ∧ Ql lo w g3 h3 (fun W => MkO W g3 h3 g3 o.od) ∧ Ql lo w g4 (g4 + 1) (fun W => Room W g4 (o.to.length * 4)) ∧ h0 ≤ g1 ∧ g1 + 1 ≤ g2 ∧ g2 + 1 ≤ g3 ∧ h3 ≤ g4 ∧ g4 + 1 ≤ hi

theorem Oc.on {lo hi : Nat} {w w1 : World} {y : Pl} {o : Offc} (h : Oc lo hi w y o) (K : Below w.heap.size w w1) : Oc lo hi w1 y o := by
  obtain ⟨g0, h0, g1, g2, g3, h3, g4, ha, hi, r0, r1, r2, r3, r4, ho⟩ := h
  exact ⟨g0, h0, g1, g2, g3, h3, g4, ha, hi.on K, r0.of K, r1.of K, r2.of K, r3.of K, r4.of K, ho⟩

set_option maxHeartbeats 4000000 in
theorem toOffice_own (x : Pl) (o : Offc) (w : World) (hz : Small o) (I : InA w x o) :
    Calls Tryz.prog 6 #[ofV x o] w fun e w' => ∃ y, e = .returned (ofV y o) ∧ Below w.heap.size w w' ∧ Oc (w.heap.size + 1 + 1 + 1) w'.heap.size w' y o := by
  have HZ : Hid (_ ∧ _ ∧ _ ∧ _ ∧ _) := hz
  obtain ⟨k0, k1, k2⟩ := Od.three_blocks w (ofB x o 28) (.cells #[.slice none 0 0, .slice none 0 0, .slice none 0 0, .slice none 0 0, .slice none 0 0, .int .i64 0] 36) (.cells #[.slice none 0 0, .slice none 0 0, .slice none 0 0, .slice none 0 0, .slice none 0 0, .int .i64 0] 36)
  have L : Below w.heap.size w (((w.alloc (ofB x o 28)).alloc (.cells #[.slice none 0 0, .slice none 0 0, .slice none 0 0, .slice none 0 0, .slice none 0 0, .int .i64 0] 36)).alloc (.cells #[.slice none 0 0, .slice none 0 0, .slice none 0 0, .slice none 0 0, .slice none 0 0, .int .i64 0] 36)) := join_below (join_below (new_below _ _) (new_below _ _)) (new_below _ _)
  have hs : (((w.alloc (ofB x o 28)).alloc (.cells #[.slice none 0 0, .slice none 0 0, .slice none 0 0, .slice none 0 0, .slice none 0 0, .int .i64 0] 36)).alloc (.cells #[.slice none 0 0, .slice none 0 0, .slice none 0 0, .slice none 0 0, .slice none 0 0, .int .i64 0] 36)).heap.size = w.heap.size + 1 + 1 + 1 := (Array.size_push ..).trans (congrArg (· + 1) ((Array.size_push ..).trans (congrArg (· + 1) (Array.size_push ..))))
  clear hz
  go_enter Tryz.func6, Tryz.ntmps6
  go_wp2_with fail
  refine Od.named fun W0 hW => ?_
  rw [← hW] at k0 k1 k2 L hs
  clear hW
  refine (Tn.toTrainS_val x.a0 o.ln x.c0 _ HZ.out.1 (I.ln.on L)).mono ?_
  rintro e v0 ⟨rfl, L0, hl0, M0⟩
  have g0l : w.heap.size + 1 + 1 + 1 ≤ W0.heap.size := by omega
  have k0 := kept L0 (lt_of k0) k0
  have k1 := kept L0 (lt_of k1) k1
  have k2 := kept L0 (lt_of k2) k2
  have T0 : Ln v0 (w.heap.size + 1 + 1 + 1) W0.heap.size o.ln := Ln.mine M0 g0l hl0 g0l
  have B0 := join_below L L0
  obtain ⟨h0, R0⟩ : ∃ h0, Ql (w.heap.size + 1 + 1 + 1) v0 W0.heap.size h0 (fun W => Tn.Mk W W0.heap.size h0 W0.heap.size o.ln) := ⟨v0.heap.size, mk_loc _ _ _ hl0, g0l, hl0, Nat.le_refl _, mk_mine M0⟩
  have hl : w.heap.size + 1 + 1 + 1 ≤ v0.heap.size := by have := L0.size; omega
  generalize W0.heap.size = g0 at *
  clear M0 hl0 L0
  clear L hs
  have k0n := h_other (g := w.heap.size + 1 + 1) (i := 0) k0 (by omega) (.slice (some ⟨g0, 0, none⟩) o.ln.length o.ln.length)
  have k1n := h_other (g := w.heap.size + 1 + 1) (i := 0) k1 (by omega) (.slice (some ⟨g0, 0, none⟩) o.ln.length o.ln.length)
  have k2n : (v0.setCell ⟨w.heap.size + 1 + 1, 0, none⟩ (.slice (some ⟨g0, 0, none⟩) o.ln.length o.ln.length)).heap[w.heap.size + 1 + 1]? = some (.cells #[.slice (some ⟨g0, 0, none⟩) o.ln.length o.ln.length, .slice none 0 0, .slice none 0 0, .slice none 0 0, .slice none 0 0, .int .i64 0] 36) := h_set k2 _
  have R0n := R0.set (i := 0) (show w.heap.size + 1 + 1 < w.heap.size + 1 + 1 + 1 by omega) (.slice (some ⟨g0, 0, none⟩) o.ln.length o.ln.length)
  have Bn : Below w.heap.size w (v0.setCell ⟨w.heap.size + 1 + 1, 0, none⟩ (.slice (some ⟨g0, 0, none⟩) o.ln.length o.ln.length)) := B0.setCell (show w.heap.size ≤ w.heap.size + 1 + 1 by omega) _
  have hn : w.heap.size + 1 + 1 + 1 ≤ (v0.setCell ⟨w.heap.size + 1 + 1, 0, none⟩ (.slice (some ⟨g0, 0, none⟩) o.ln.length o.ln.length)).heap.size := by rw [World.size_setCell]; exact hl
  have T0n := T0.kp (Kp.set (lo := w.heap.size + 1 + 1 + 1) (i := 0) (.slice (some ⟨g0, 0, none⟩) o.ln.length o.ln.length) (show w.heap.size + 1 + 1 < w.heap.size + 1 + 1 + 1 by omega))
  have f0 : v0.frozen? ⟨w.heap.size + 1 + 1, 0, none⟩ = false := frozen_at k2 0
  have q0 : v0.cell? ⟨w.heap.size + 1 + 1, 0, none⟩ = some (.slice none 0 0) := cell_at k2 0
  have r0 : (v0.setCell ⟨w.heap.size + 1 + 1, 0, none⟩ (.slice (some ⟨g0, 0, none⟩) o.ln.length o.ln.length)).cell? ⟨w.heap.size, 1, none⟩ = some (.slice x.a1 o.ta.length x.c1) := cell_at k0n 1
  have HH : Hid (∀ (P : World → Prop), P (v0.setCell ⟨w.heap.size + 1 + 1, 0, none⟩ (.slice (some ⟨g0, 0, none⟩) o.ln.length o.ln.length)) → P (v0.setCell ⟨w.heap.size + 1 + 1, 0, none⟩ (.slice (some ⟨g0, 0, none⟩) o.ln.length o.ln.length))) := fun P h => h
  clear k0 k1 k2 hl T0 R0
  clear HH
  go_wp2_with fail
  refine Od.named fun W1 hW => ?_
  rw [← hW] at k0n k1n k2n Bn hn r0 T0n R0n
  clear hW f0 q0 r0
  have k0 := k0n
  have k1 := k1n
  have k2 := k2n
  have B0 := Bn
  have hs := hn
  have T0 := T0n
  have R0 := R0n
  clear k0n k1n k2n Bn hn T0n R0n
  refine (Tf.toEdgeS_val x.a1 o.ta x.c1 _ HZ.out.2.1 (I.ta.on B0)).mono ?_
  rintro e v1 ⟨rfl, L1, M1, hl1, P1⟩
  have g1l : w.heap.size + 1 + 1 + 1 ≤ W1.heap.size := by omega
  have k0 := kept L1 (lt_of k0) k0
  have k1 := kept L1 (lt_of k1) k1
  have k2 := kept L1 (lt_of k2) k2
  have T1 := M1
  have B1 := join_below B0 L1
  have o1 : h0 ≤ W1.heap.size := R0.hs
  have R0 := R0.of L1
  have R1 : Ql (w.heap.size + 1 + 1 + 1) v1 W1.heap.size (W1.heap.size + 1) (fun W => Room W W1.heap.size (o.ta.length * 3)) := ⟨room_loc _ _, g1l, Nat.lt_succ_self _, hl1, P1⟩
  have T0 := T0.kp (Kp.of (lo := w.heap.size + 1 + 1 + 1) L1)
  have hl : w.heap.size + 1 + 1 + 1 ≤ v1.heap.size := by have := L1.size; omega
  generalize W1.heap.size = g1 at *
  clear M1 hl1 L1
  clear B0 hs
  have k0n := h_other (g := w.heap.size + 1 + 1) (i := 1) k0 (by omega) (.slice (some ⟨g1, 0, none⟩) o.ta.length o.ta.length)
  have k1n := h_other (g := w.heap.size + 1 + 1) (i := 1) k1 (by omega) (.slice (some ⟨g1, 0, none⟩) o.ta.length o.ta.length)
  have k2n : (v1.setCell ⟨w.heap.size + 1 + 1, 1, none⟩ (.slice (some ⟨g1, 0, none⟩) o.ta.length o.ta.length)).heap[w.heap.size + 1 + 1]? = some (.cells #[.slice (some ⟨g0, 0, none⟩) o.ln.length o.ln.length, .slice (some ⟨g1, 0, none⟩) o.ta.length o.ta.length, .slice none 0 0, .slice none 0 0, .slice none 0 0, .int .i64 0] 36) := h_set k2 _
  have R0n := R0.set (i := 1) (show w.heap.size + 1 + 1 < w.heap.size + 1 + 1 + 1 by omega) (.slice (some ⟨g1, 0, none⟩) o.ta.length o.ta.length)
  have R1n := R1.set (i := 1) (show w.heap.size + 1 + 1 < w.heap.size + 1 + 1 + 1 by omega) (.slice (some ⟨g1, 0, none⟩) o.ta.length o.ta.length)
  have Bn : Below w.heap.size w (v1.setCell ⟨w.heap.size + 1 + 1, 1, none⟩ (.slice (some ⟨g1, 0, none⟩) o.ta.length o.ta.length)) := B1.setCell (show w.heap.size ≤ w.heap.size + 1 + 1 by omega) _
  have hn : w.heap.size + 1 + 1 + 1 ≤ (v1.setCell ⟨w.heap.size + 1 + 1, 1, none⟩ (.slice (some ⟨g1, 0, none⟩) o.ta.length o.ta.length)).heap.size := by rw [World.size_setCell]; exact hl
  have T0n := T0.kp (Kp.set (lo := w.heap.size + 1 + 1 + 1) (i := 1) (.slice (some ⟨g1, 0, none⟩) o.ta.length o.ta.length) (show w.heap.size + 1 + 1 < w.heap.size + 1 + 1 + 1 by omega))
  have T1n := edges_kp T1 g1l (Kp.set (lo := w.heap.size + 1 + 1 + 1) (i := 1) (.slice (some ⟨g1, 0, none⟩) o.ta.length o.ta.length) (show w.heap.size + 1 + 1 < w.heap.size + 1 + 1 + 1 by omega))
  have f1 : v1.frozen? ⟨w.heap.size + 1 + 1, 1, none⟩ = false := frozen_at k2 1
  have q1 : v1.cell? ⟨w.heap.size + 1 + 1, 1, none⟩ = some (.slice none 0 0) := cell_at k2 1
  have r1 : (v1.setCell ⟨w.heap.size + 1 + 1, 1, none⟩ (.slice (some ⟨g1, 0, none⟩) o.ta.length o.ta.length)).cell? ⟨w.heap.size, 2, none⟩ = some (.slice x.a2 o.ho.length x.c2) := cell_at k0n 2
  have HH : Hid (∀ (P : World → Prop), P (v1.setCell ⟨w.heap.size + 1 + 1, 1, none⟩ (.slice (some ⟨g1, 0, none⟩) o.ta.length o.ta.length)) → P (v1.setCell ⟨w.heap.size + 1 + 1, 1, none⟩ (.slice (some ⟨g1, 0, none⟩) o.ta.length o.ta.length))) := fun P h => h
  clear k0 k1 k2 hl T0 T1 R0 R1 P1
  clear HH
  go_wp2_with fail
  refine Od.named fun W2 hW => ?_
  rw [← hW] at k0n k1n k2n Bn hn r1 T0n T1n R0n R1n
  clear hW f1 q1 r1
  have k0 := k0n
  have k1 := k1n
  have k2 := k2n
  have B1 := Bn
  have hs := hn
  have T0 := T0n
  have T1 := T1n
  have R0 := R0n
  have R1 := R1n
  clear k0n k1n k2n Bn hn T0n T1n R0n R1n
  refine (Se.toHoldS_val x.a2 o.ho x.c2 _ HZ.out.2.2.1 (I.ho.on B1)).mono ?_
  rintro e v2 ⟨rfl, L2, M2, hl2, P2⟩
  have g2l : w.heap.size + 1 + 1 + 1 ≤ W2.heap.size := by omega
  have k0 := kept L2 (lt_of k0) k0
  have k1 := kept L2 (lt_of k1) k1
  have k2 := kept L2 (lt_of k2) k2
  have T2 := M2
  have B2 := join_below B1 L2
  have o2 : g1 + 1 ≤ W2.heap.size := R1.hs
  have R0 := R0.of L2
  have R1 := R1.of L2
  have R2 : Ql (w.heap.size + 1 + 1 + 1) v2 W2.heap.size (W2.heap.size + 1) (fun W => Room W W2.heap.size (o.ho.length * 7)) := ⟨room_loc _ _, g2l, Nat.lt_succ_self _, hl2, P2⟩
  have T0 := T0.kp (Kp.of (lo := w.heap.size + 1 + 1 + 1) L2)
  have T1 := edges_kp T1 g1l (Kp.of (lo := w.heap.size + 1 + 1 + 1) L2)
  have hl : w.heap.size + 1 + 1 + 1 ≤ v2.heap.size := by have := L2.size; omega
  generalize W2.heap.size = g2 at *
  clear M2 hl2 L2
  clear B1 hs
  have k0n := h_other (g := w.heap.size + 1 + 1) (i := 2) k0 (by omega) (.slice (some ⟨g2, 0, none⟩) o.ho.length o.ho.length)
  have k1n := h_other (g := w.heap.size + 1 + 1) (i := 2) k1 (by omega) (.slice (some ⟨g2, 0, none⟩) o.ho.length o.ho.length)
  have k2n : (v2.setCell ⟨w.heap.size + 1 + 1, 2, none⟩ (.slice (some ⟨g2, 0, none⟩) o.ho.length o.ho.length)).heap[w.heap.size + 1 + 1]? = some (.cells #[.slice (some ⟨g0, 0, none⟩) o.ln.length o.ln.length, .slice (some ⟨g1, 0, none⟩) o.ta.length o.ta.length, .slice (some ⟨g2, 0, none⟩) o.ho.length o.ho.length, .slice none 0 0, .slice none 0 0, .int .i64 0] 36) := h_set k2 _
  have R0n := R0.set (i := 2) (show w.heap.size + 1 + 1 < w.heap.size + 1 + 1 + 1 by omega) (.slice (some ⟨g2, 0, none⟩) o.ho.length o.ho.length)
  have R1n := R1.set (i := 2) (show w.heap.size + 1 + 1 < w.heap.size + 1 + 1 + 1 by omega) (.slice (some ⟨g2, 0, none⟩) o.ho.length o.ho.length)
  have R2n := R2.set (i := 2) (show w.heap.size + 1 + 1 < w.heap.size + 1 + 1 + 1 by omega) (.slice (some ⟨g2, 0, none⟩) o.ho.length o.ho.length)
  have Bn : Below w.heap.size w (v2.setCell ⟨w.heap.size + 1 + 1, 2, none⟩ (.slice (some ⟨g2, 0, none⟩) o.ho.length o.ho.length)) := B2.setCell (show w.heap.size ≤ w.heap.size + 1 + 1 by omega) _
  have hn : w.heap.size + 1 + 1 + 1 ≤ (v2.setCell ⟨w.heap.size + 1 + 1, 2, none⟩ (.slice (some ⟨g2, 0, none⟩) o.ho.length o.ho.length)).heap.size := by rw [World.size_setCell]; exact hl
  have T0n := T0.kp (Kp.set (lo := w.heap.size + 1 + 1 + 1) (i := 2) (.slice (some ⟨g2, 0, none⟩) o.ho.length o.ho.length) (show w.heap.size + 1 + 1 < w.heap.size + 1 + 1 + 1 by omega))
  have T1n := edges_kp T1 g1l (Kp.set (lo := w.heap.size + 1 + 1 + 1) (i := 2) (.slice (some ⟨g2, 0, none⟩) o.ho.length o.ho.length) (show w.heap.size + 1 + 1 < w.heap.size + 1 + 1 + 1 by omega))
  have T2n := holds_kp T2 g2l (Kp.set (lo := w.heap.size + 1 + 1 + 1) (i := 2) (.slice (some ⟨g2, 0, none⟩) o.ho.length o.ho.length) (show w.heap.size + 1 + 1 < w.heap.size + 1 + 1 + 1 by omega))
  have f2 : v2.frozen? ⟨w.heap.size + 1 + 1, 2, none⟩ = false := frozen_at k2 2
  have q2 : v2.cell? ⟨w.heap.size + 1 + 1, 2, none⟩ = some (.slice none 0 0) := cell_at k2 2
  have r2 : (v2.setCell ⟨w.heap.size + 1 + 1, 2, none⟩ (.slice (some ⟨g2, 0, none⟩) o.ho.length o.ho.length)).cell? ⟨w.heap.size, 3, none⟩ = some (.slice x.a3 o.od.length x.c3) := cell_at k0n 3
  have HH : Hid (∀ (P : World → Prop), P (v2.setCell ⟨w.heap.size + 1 + 1, 2, none⟩ (.slice (some ⟨g2, 0, none⟩) o.ho.length o.ho.length)) → P (v2.setCell ⟨w.heap.size + 1 + 1, 2, none⟩ (.slice (some ⟨g2, 0, none⟩) o.ho.length o.ho.length))) := fun P h => h
  clear k0 k1 k2 hl T0 T1 T2 R0 R1 R2 P2
  clear HH
  go_wp2_with fail
  refine Od.named fun W3 hW => ?_
  rw [← hW] at k0n k1n k2n Bn hn r2 T0n T1n T2n R0n R1n R2n
  clear hW f2 q2 r2
  have k0 := k0n
  have k1 := k1n
  have k2 := k2n
  have B2 := Bn
  have hs := hn
  have T0 := T0n
  have T1 := T1n
  have T2 := T2n
  have R0 := R0n
  have R1 := R1n
  have R2 := R2n
  clear k0n k1n k2n Bn hn T0n T1n T2n R0n R1n R2n
  refine (Od.toOrderS_val x.a3 o.od x.c3 _ HZ.out.2.2.2.1 (I.od.on B2)).mono ?_
  rintro e v3 ⟨rfl, L3, hl3, M3⟩
  have g3l : w.heap.size + 1 + 1 + 1 ≤ W3.heap.size := by omega
  have k0 := kept L3 (lt_of k0) k0
  have k1 := kept L3 (lt_of k1) k1
  have k2 := kept L3 (lt_of k2) k2
  have T3 : Os v3 (w.heap.size + 1 + 1 + 1) W3.heap.size o.od := Os.mine M3 g3l hl3 g3l
  have B3 := join_below B2 L3
  have o3 : g2 + 1 ≤ W3.heap.size := R2.hs
  have R0 := R0.of L3
  have R1 := R1.of L3
  have R2 := R2.of L3
  obtain ⟨h3, R3⟩ : ∃ h3, Ql (w.heap.size + 1 + 1 + 1) v3 W3.heap.size h3 (fun W => MkO W W3.heap.size h3 W3.heap.size o.od) := ⟨v3.heap.size, mkO_loc _ _ _ hl3, g3l, hl3, Nat.le_refl _, mkO_mine M3⟩
  have T0 := T0.kp (Kp.of (lo := w.heap.size + 1 + 1 + 1) L3)
  have T1 := edges_kp T1 g1l (Kp.of (lo := w.heap.size + 1 + 1 + 1) L3)
  have T2 := holds_kp T2 g2l (Kp.of (lo := w.heap.size + 1 + 1 + 1) L3)
  have hl : w.heap.size + 1 + 1 + 1 ≤ v3.heap.size := by have := L3.size; omega
  generalize W3.heap.size = g3 at *
  clear M3 hl3 L3
  clear B2 hs
  have k0n := h_other (g := w.heap.size + 1 + 1) (i := 3) k0 (by omega) (.slice (some ⟨g3, 0, none⟩) o.od.length o.od.length)
  have k1n := h_other (g := w.heap.size + 1 + 1) (i := 3) k1 (by omega) (.slice (some ⟨g3, 0, none⟩) o.od.length o.od.length)
  have k2n : (v3.setCell ⟨w.heap.size + 1 + 1, 3, none⟩ (.slice (some ⟨g3, 0, none⟩) o.od.length o.od.length)).heap[w.heap.size + 1 + 1]? = some (.cells #[.slice (some ⟨g0, 0, none⟩) o.ln.length o.ln.length, .slice (some ⟨g1, 0, none⟩) o.ta.length o.ta.length, .slice (some ⟨g2, 0, none⟩) o.ho.length o.ho.length, .slice (some ⟨g3, 0, none⟩) o.od.length o.od.length, .slice none 0 0, .int .i64 0] 36) := h_set k2 _
  have R0n := R0.set (i := 3) (show w.heap.size + 1 + 1 < w.heap.size + 1 + 1 + 1 by omega) (.slice (some ⟨g3, 0, none⟩) o.od.length o.od.length)
  have R1n := R1.set (i := 3) (show w.heap.size + 1 + 1 < w.heap.size + 1 + 1 + 1 by omega) (.slice (some ⟨g3, 0, none⟩) o.od.length o.od.length)
  have R2n := R2.set (i := 3) (show w.heap.size + 1 + 1 < w.heap.size + 1 + 1 + 1 by omega) (.slice (some ⟨g3, 0, none⟩) o.od.length o.od.length)
  have R3n := R3.set (i := 3) (show w.heap.size + 1 + 1 < w.heap.size + 1 + 1 + 1 by omega) (.slice (some ⟨g3, 0, none⟩) o.od.length o.od.length)
  have Bn : Below w.heap.size w (v3.setCell ⟨w.heap.size + 1 + 1, 3, none⟩ (.slice (some ⟨g3, 0, none⟩) o.od.length o.od.length)) := B3.setCell (show w.heap.size ≤ w.heap.size + 1 + 1 by omega) _
  have hn : w.heap.size + 1 + 1 + 1 ≤ (v3.setCell ⟨w.heap.size + 1 + 1, 3, none⟩ (.slice (some ⟨g3, 0, none⟩) o.od.length o.od.length)).heap.size := by rw [World.size_setCell]; exact hl
  have T0n := T0.kp (Kp.set (lo := w.heap.size + 1 + 1 + 1) (i := 3) (.slice (some ⟨g3, 0, none⟩) o.od.length o.od.length) (show w.heap.size + 1 + 1 < w.heap.size + 1 + 1 + 1 by omega))
  have T1n := edges_kp T1 g1l (Kp.set (lo := w.heap.size + 1 + 1 + 1) (i := 3) (.slice (some ⟨g3, 0, none⟩) o.od.length o.od.length) (show w.heap.size + 1 + 1 < w.heap.size + 1 + 1 + 1 by omega))
  have T2n := holds_kp T2 g2l (Kp.set (lo := w.heap.size + 1 + 1 + 1) (i := 3) (.slice (some ⟨g3, 0, none⟩) o.od.length o.od.length) (show w.heap.size + 1 + 1 < w.heap.size + 1 + 1 + 1 by omega))
  have T3n := T3.kp (Kp.set (lo := w.heap.size + 1 + 1 + 1) (i := 3) (.slice (some ⟨g3, 0, none⟩) o.od.length o.od.length) (show w.heap.size + 1 + 1 < w.heap.size + 1 + 1 + 1 by omega))
  have f3 : v3.frozen? ⟨w.heap.size + 1 + 1, 3, none⟩ = false := frozen_at k2 3
  have q3 : v3.cell? ⟨w.heap.size + 1 + 1, 3, none⟩ = some (.slice none 0 0) := cell_at k2 3
  have r3 : (v3.setCell ⟨w.heap.size + 1 + 1, 3, none⟩ (.slice (some ⟨g3, 0, none⟩) o.od.length o.od.length)).cell? ⟨w.heap.size, 4, none⟩ = some (.slice x.a4 o.to.length x.c4) := cell_at k0n 4
  have HH : Hid (∀ (P : World → Prop), P (v3.setCell ⟨w.heap.size + 1 + 1, 3, none⟩ (.slice (some ⟨g3, 0, none⟩) o.od.length o.od.length)) → P (v3.setCell ⟨w.heap.size + 1 + 1, 3, none⟩ (.slice (some ⟨g3, 0, none⟩) o.od.length o.od.length))) := fun P h => h
  clear k0 k1 k2 hl T0 T1 T2 T3 R0 R1 R2 R3
  clear HH
  go_wp2_with fail
  refine Od.named fun W4 hW => ?_
  rw [← hW] at k0n k1n k2n Bn hn r3 T0n T1n T2n T3n R0n R1n R2n R3n
  clear hW f3 q3 r3
  have k0 := k0n
  have k1 := k1n
  have k2 := k2n
  have B3 := Bn
  have hs := hn
  have T0 := T0n
  have T1 := T1n
  have T2 := T2n
  have T3 := T3n
  have R0 := R0n
  have R1 := R1n
  have R2 := R2n
  have R3 := R3n
  clear k0n k1n k2n Bn hn T0n T1n T2n T3n R0n R1n R2n R3n
  refine (Rp.toReplyS_val x.a4 o.to x.c4 _ HZ.out.2.2.2.2 (I.to.on B3)).mono ?_
  rintro e v4 ⟨rfl, L4, M4, hl4, P4⟩
  have g4l : w.heap.size + 1 + 1 + 1 ≤ W4.heap.size := by omega
  have k0 := kept L4 (lt_of k0) k0
  have k1 := kept L4 (lt_of k1) k1
  have k2 := kept L4 (lt_of k2) k2
  have T4 := M4
  have B4 := join_below B3 L4
  have o4 : h3 ≤ W4.heap.size := R3.hs
  have R0 := R0.of L4
  have R1 := R1.of L4
  have R2 := R2.of L4
  have R3 := R3.of L4
  have R4 : Ql (w.heap.size + 1 + 1 + 1) v4 W4.heap.size (W4.heap.size + 1) (fun W => Room W W4.heap.size (o.to.length * 4)) := ⟨room_loc _ _, g4l, Nat.lt_succ_self _, hl4, P4⟩
  have T0 := T0.kp (Kp.of (lo := w.heap.size + 1 + 1 + 1) L4)
  have T1 := edges_kp T1 g1l (Kp.of (lo := w.heap.size + 1 + 1 + 1) L4)
  have T2 := holds_kp T2 g2l (Kp.of (lo := w.heap.size + 1 + 1 + 1) L4)
  have T3 := T3.kp (Kp.of (lo := w.heap.size + 1 + 1 + 1) L4)
  have hl : w.heap.size + 1 + 1 + 1 ≤ v4.heap.size := by have := L4.size; omega
  generalize W4.heap.size = g4 at *
  clear M4 hl4 L4
  clear B3 hs
  have k0n := h_other (g := w.heap.size + 1 + 1) (i := 4) k0 (by omega) (.slice (some ⟨g4, 0, none⟩) o.to.length o.to.length)
  have k1n := h_other (g := w.heap.size + 1 + 1) (i := 4) k1 (by omega) (.slice (some ⟨g4, 0, none⟩) o.to.length o.to.length)
  have k2n : (v4.setCell ⟨w.heap.size + 1 + 1, 4, none⟩ (.slice (some ⟨g4, 0, none⟩) o.to.length o.to.length)).heap[w.heap.size + 1 + 1]? = some (.cells #[.slice (some ⟨g0, 0, none⟩) o.ln.length o.ln.length, .slice (some ⟨g1, 0, none⟩) o.ta.length o.ta.length, .slice (some ⟨g2, 0, none⟩) o.ho.length o.ho.length, .slice (some ⟨g3, 0, none⟩) o.od.length o.od.length, .slice (some ⟨g4, 0, none⟩) o.to.length o.to.length, .int .i64 0] 36) := h_set k2 _
  have R0n := R0.set (i := 4) (show w.heap.size + 1 + 1 < w.heap.size + 1 + 1 + 1 by omega) (.slice (some ⟨g4, 0, none⟩) o.to.length o.to.length)
  have R1n := R1.set (i := 4) (show w.heap.size + 1 + 1 < w.heap.size + 1 + 1 + 1 by omega) (.slice (some ⟨g4, 0, none⟩) o.to.length o.to.length)
  have R2n := R2.set (i := 4) (show w.heap.size + 1 + 1 < w.heap.size + 1 + 1 + 1 by omega) (.slice (some ⟨g4, 0, none⟩) o.to.length o.to.length)
  have R3n := R3.set (i := 4) (show w.heap.size + 1 + 1 < w.heap.size + 1 + 1 + 1 by omega) (.slice (some ⟨g4, 0, none⟩) o.to.length o.to.length)
  have R4n := R4.set (i := 4) (show w.heap.size + 1 + 1 < w.heap.size + 1 + 1 + 1 by omega) (.slice (some ⟨g4, 0, none⟩) o.to.length o.to.length)
  have Bn : Below w.heap.size w (v4.setCell ⟨w.heap.size + 1 + 1, 4, none⟩ (.slice (some ⟨g4, 0, none⟩) o.to.length o.to.length)) := B4.setCell (show w.heap.size ≤ w.heap.size + 1 + 1 by omega) _
  have hn : w.heap.size + 1 + 1 + 1 ≤ (v4.setCell ⟨w.heap.size + 1 + 1, 4, none⟩ (.slice (some ⟨g4, 0, none⟩) o.to.length o.to.length)).heap.size := by rw [World.size_setCell]; exact hl
  have T0n := T0.kp (Kp.set (lo := w.heap.size + 1 + 1 + 1) (i := 4) (.slice (some ⟨g4, 0, none⟩) o.to.length o.to.length) (show w.heap.size + 1 + 1 < w.heap.size + 1 + 1 + 1 by omega))
  have T1n := edges_kp T1 g1l (Kp.set (lo := w.heap.size + 1 + 1 + 1) (i := 4) (.slice (some ⟨g4, 0, none⟩) o.to.length o.to.length) (show w.heap.size + 1 + 1 < w.heap.size + 1 + 1 + 1 by omega))
  have T2n := holds_kp T2 g2l (Kp.set (lo := w.heap.size + 1 + 1 + 1) (i := 4) (.slice (some ⟨g4, 0, none⟩) o.to.length o.to.length) (show w.heap.size + 1 + 1 < w.heap.size + 1 + 1 + 1 by omega))
  have T3n := T3.kp (Kp.set (lo := w.heap.size + 1 + 1 + 1) (i := 4) (.slice (some ⟨g4, 0, none⟩) o.to.length o.to.length) (show w.heap.size + 1 + 1 < w.heap.size + 1 + 1 + 1 by omega))
  have T4n := reps_kp T4 g4l (Kp.set (lo := w.heap.size + 1 + 1 + 1) (i := 4) (.slice (some ⟨g4, 0, none⟩) o.to.length o.to.length) (show w.heap.size + 1 + 1 < w.heap.size + 1 + 1 + 1 by omega))
  have f4 : v4.frozen? ⟨w.heap.size + 1 + 1, 4, none⟩ = false := frozen_at k2 4
  have q4 : v4.cell? ⟨w.heap.size + 1 + 1, 4, none⟩ = some (.slice none 0 0) := cell_at k2 4
  clear k0 k1 k2 hl T0 T1 T2 T3 T4 R0 R1 R2 R3 R4 P4
  have r5 : (v4.setCell ⟨w.heap.size + 1 + 1, 4, none⟩ (.slice (some ⟨g4, 0, none⟩) o.to.length o.to.length)).cell? ⟨w.heap.size, 5, none⟩ = some (.int .i64 o.td) := cell_at k0n 5
  have z0 : (v4.setCell ⟨w.heap.size + 1 + 1, 4, none⟩ (.slice (some ⟨g4, 0, none⟩) o.to.length o.to.length)).cell? ⟨w.heap.size + 1 + 1, 0, none⟩ = some (.slice (some ⟨g0, 0, none⟩) o.ln.length o.ln.length) := cell_at k2n 0
  have z1 : (v4.setCell ⟨w.heap.size + 1 + 1, 4, none⟩ (.slice (some ⟨g4, 0, none⟩) o.to.length o.to.length)).cell? ⟨w.heap.size + 1 + 1, 1, none⟩ = some (.slice (some ⟨g1, 0, none⟩) o.ta.length o.ta.length) := cell_at k2n 1
  have z2 : (v4.setCell ⟨w.heap.size + 1 + 1, 4, none⟩ (.slice (some ⟨g4, 0, none⟩) o.to.length o.to.length)).cell? ⟨w.heap.size + 1 + 1, 2, none⟩ = some (.slice (some ⟨g2, 0, none⟩) o.ho.length o.ho.length) := cell_at k2n 2
  have z3 : (v4.setCell ⟨w.heap.size + 1 + 1, 4, none⟩ (.slice (some ⟨g4, 0, none⟩) o.to.length o.to.length)).cell? ⟨w.heap.size + 1 + 1, 3, none⟩ = some (.slice (some ⟨g3, 0, none⟩) o.od.length o.od.length) := cell_at k2n 3
  have z4 : (v4.setCell ⟨w.heap.size + 1 + 1, 4, none⟩ (.slice (some ⟨g4, 0, none⟩) o.to.length o.to.length)).cell? ⟨w.heap.size + 1 + 1, 4, none⟩ = some (.slice (some ⟨g4, 0, none⟩) o.to.length o.to.length) := cell_at k2n 4
  have z5 : (v4.setCell ⟨w.heap.size + 1 + 1, 4, none⟩ (.slice (some ⟨g4, 0, none⟩) o.to.length o.to.length)).cell? ⟨w.heap.size + 1 + 1, 5, none⟩ = some (.int .i64 0) := cell_at k2n 5
  have u0 : (v4.setCell ⟨w.heap.size + 1 + 1, 4, none⟩ (.slice (some ⟨g4, 0, none⟩) o.to.length o.to.length)).cell? ⟨w.heap.size + 1, 0, none⟩ = some (.slice none 0 0) := cell_at k1n 0
  have u1 : (v4.setCell ⟨w.heap.size + 1 + 1, 4, none⟩ (.slice (some ⟨g4, 0, none⟩) o.to.length o.to.length)).cell? ⟨w.heap.size + 1, 1, none⟩ = some (.slice none 0 0) := cell_at k1n 1
  have u2 : (v4.setCell ⟨w.heap.size + 1 + 1, 4, none⟩ (.slice (some ⟨g4, 0, none⟩) o.to.length o.to.length)).cell? ⟨w.heap.size + 1, 2, none⟩ = some (.slice none 0 0) := cell_at k1n 2
  have u3 : (v4.setCell ⟨w.heap.size + 1 + 1, 4, none⟩ (.slice (some ⟨g4, 0, none⟩) o.to.length o.to.length)).cell? ⟨w.heap.size + 1, 3, none⟩ = some (.slice none 0 0) := cell_at k1n 3
  have u4 : (v4.setCell ⟨w.heap.size + 1 + 1, 4, none⟩ (.slice (some ⟨g4, 0, none⟩) o.to.length o.to.length)).cell? ⟨w.heap.size + 1, 4, none⟩ = some (.slice none 0 0) := cell_at k1n 4
  have u5 : (v4.setCell ⟨w.heap.size + 1 + 1, 4, none⟩ (.slice (some ⟨g4, 0, none⟩) o.to.length o.to.length)).cell? ⟨w.heap.size + 1, 5, none⟩ = some (.int .i64 0) := cell_at k1n 5
  generalize hW : v4.setCell ⟨w.heap.size + 1 + 1, 4, none⟩ (.slice (some ⟨g4, 0, none⟩) o.to.length o.to.length) = W at *
  have f5 : W.frozen? ⟨w.heap.size + 1 + 1, 5, none⟩ = false := frozen_at k2n 5
  have y0 : W.frozen? ⟨w.heap.size + 1, 0, none⟩ = false := frozen_at k1n 0
  have y1 : W.frozen? ⟨w.heap.size + 1, 1, none⟩ = false := frozen_at k1n 1
  have y2 : W.frozen? ⟨w.heap.size + 1, 2, none⟩ = false := frozen_at k1n 2
  have y3 : W.frozen? ⟨w.heap.size + 1, 3, none⟩ = false := frozen_at k1n 3
  have y4 : W.frozen? ⟨w.heap.size + 1, 4, none⟩ = false := frozen_at k1n 4
  have y5 : W.frozen? ⟨w.heap.size + 1, 5, none⟩ = false := frozen_at k1n 5
  clear k0n k1n k2n
  have HI : Hid (∀ W1, Kp (w.heap.size + 1 + 1 + 1) W W1 → In W1 ⟨some ⟨g0, 0, none⟩, some ⟨g1, 0, none⟩, some ⟨g2, 0, none⟩, some ⟨g3, 0, none⟩, some ⟨g4, 0, none⟩, o.ln.length, o.ta.length, o.ho.length, o.od.length, o.to.length⟩ o) := fun W1 k => ⟨(T0n.kp k).trains, edges_kp T1n g1l k, holds_kp T2n g2l k, (T3n.kp k).orders, reps_kp T4n g4l k⟩
  go_wp2
  refine bodyPost_ret (v := ofV ⟨some ⟨g0, 0, none⟩, some ⟨g1, 0, none⟩, some ⟨g2, 0, none⟩, some ⟨g3, 0, none⟩, some ⟨g4, 0, none⟩, o.ln.length, o.ta.length, o.ho.length, o.od.length, o.to.length⟩ o) (by simp [results, Tryz.results6, go_sem, u0, u1, u2, u3, u4, u5]) rfl ?_
  refine ⟨_, rfl, ?_, g0, h0, g1, g2, g3, h3, g4, ⟨rfl, rfl, rfl, rfl, rfl⟩, HI.out _ ?_, ?_, ?_, ?_, ?_, ?_, o1, o2, o3, o4, ?_⟩
  · (repeat' (first | apply Below.setCell | exact Bn)) <;> first | (simp; done) | (simp; omega)
  · have hg : w.heap.size + 1 < w.heap.size + 1 + 1 + 1 := by omega
    exact (((((((Kp.set _ (show w.heap.size + 1 + 1 < w.heap.size + 1 + 1 + 1 by omega)).trans (Kp.set _ hg)).trans (Kp.set _ hg)).trans (Kp.set _ hg)).trans (Kp.set _ hg)).trans (Kp.set _ hg)).trans (Kp.set _ hg))
  · have hg : w.heap.size + 1 < w.heap.size + 1 + 1 + 1 := by omega
    exact (((((((R0n.set (show w.heap.size + 1 + 1 < w.heap.size + 1 + 1 + 1 by omega) _).set hg _).set hg _).set hg _).set hg _).set hg _).set hg _)
  · have hg : w.heap.size + 1 < w.heap.size + 1 + 1 + 1 := by omega
    exact (((((((R1n.set (show w.heap.size + 1 + 1 < w.heap.size + 1 + 1 + 1 by omega) _).set hg _).set hg _).set hg _).set hg _).set hg _).set hg _)
  · have hg : w.heap.size + 1 < w.heap.size + 1 + 1 + 1 := by omega
    exact (((((((R2n.set (show w.heap.size + 1 + 1 < w.heap.size + 1 + 1 + 1 by omega) _).set hg _).set hg _).set hg _).set hg _).set hg _).set hg _)
  · have hg : w.heap.size + 1 < w.heap.size + 1 + 1 + 1 := by omega
    exact (((((((R3n.set (show w.heap.size + 1 + 1 < w.heap.size + 1 + 1 + 1 by omega) _).set hg _).set hg _).set hg _).set hg _).set hg _).set hg _)
  · have hg : w.heap.size + 1 < w.heap.size + 1 + 1 + 1 := by omega
    exact (((((((R4n.set (show w.heap.size + 1 + 1 < w.heap.size + 1 + 1 + 1 by omega) _).set hg _).set hg _).set hg _).set hg _).set hg _).set hg _)
  · (repeat rw [World.size_setCell])
    exact R4n.hs

end Of
end Go.Proofs.YtehmlnojjfeheaaGreat

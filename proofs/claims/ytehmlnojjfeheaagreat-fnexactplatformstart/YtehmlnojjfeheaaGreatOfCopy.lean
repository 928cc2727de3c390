/- A copy of an office. -/
import Derived.Test.YtehmlnojjfeheaaGreatOfOff
namespace Go.Proofs.YtehmlnojjfeheaaGreat
namespace Of
open Go.ChangeShapes Go.WideShapes Go.ChangeAt Go.RowKit Go.Joins
open Pk (new_below join_below cell_at heap_new frozen_at lt_of kept heap_old info_of Room)
set_option linter.unusedSimpArgs false
set_option linter.unusedVariables false

/-- All blocks from lo on that there were are kept. -/
def Kp (lo : Nat) (w w1 : World) : Prop := w.heap.size ≤ w1.heap.size ∧ ∀ p : Addr, lo ≤ p.block → p.block < w.heap.size → w1.cell? p = w.cell? p

theorem Kp.of {lo : Nat} {w w1 : World} (L : Below w.heap.size w w1) : Kp lo w w1 := ⟨L.size, fun p _ h => L.cell h⟩

theorem Kp.set {lo g i : Nat} {w : World} (v : Value) (h : g < lo) : Kp lo w (w.setCell ⟨g, i, none⟩ v) := ⟨by rw [World.size_setCell]; exact Nat.le_refl _, fun p h1 h2 => Od.cell_other (by omega)⟩

theorem Kp.trans {lo : Nat} {w w1 w2 : World} (h : Kp lo w w1) (k : Kp lo w1 w2) : Kp lo w w2 := ⟨Nat.le_trans h.1 k.1, fun p h1 h2 => by rw [k.2 p h1 (Nat.lt_of_lt_of_le h2 h.1), h.2 p h1 h2]⟩

theorem edges_kp {w w1 : World} {lo g : Nat} {ps : List Tf.Ed} (h : Tf.Edges w (some ⟨g, 0, none⟩) ps) (hg : lo ≤ g) (k : Kp lo w w1) : Tf.Edges w1 (some ⟨g, 0, none⟩) ps := by
  rcases h with h | ⟨b, o, e, hb, hc⟩
  · exact Or.inl h
  · simp only [Option.some.injEq, Addr.mk.injEq, and_true] at e
    obtain ⟨rfl, rfl⟩ := e
    refine Or.inr ⟨g, 0, rfl, Nat.lt_of_lt_of_le hb k.1, fun i hi => ?_⟩
    rw [k.2 ⟨g, 0 + i * 3, none⟩ hg hb, k.2 ⟨g, 0 + i * 3 + 1, none⟩ hg hb, k.2 ⟨g, 0 + i * 3 + 2, none⟩ hg hb]
    exact hc i hi

theorem holds_kp {w w1 : World} {lo g : Nat} {ps : List Se.Hl} (h : Se.Holds w (some ⟨g, 0, none⟩) ps) (hg : lo ≤ g) (k : Kp lo w w1) : Se.Holds w1 (some ⟨g, 0, none⟩) ps := by
  rcases h with h | ⟨b, o, e, hb, hc⟩
  · exact Or.inl h
  · simp only [Option.some.injEq, Addr.mk.injEq, and_true] at e
    obtain ⟨rfl, rfl⟩ := e
    refine Or.inr ⟨g, 0, rfl, Nat.lt_of_lt_of_le hb k.1, fun i hi => ?_⟩
    rw [k.2 ⟨g, 0 + i * 7, none⟩ hg hb, k.2 ⟨g, 0 + i * 7 + 1, none⟩ hg hb, k.2 ⟨g, 0 + i * 7 + 2, none⟩ hg hb, k.2 ⟨g, 0 + i * 7 + 3, none⟩ hg hb, k.2 ⟨g, 0 + i * 7 + 4, none⟩ hg hb, k.2 ⟨g, 0 + i * 7 + 5, none⟩ hg hb, k.2 ⟨g, 0 + i * 7 + 6, none⟩ hg hb]
    exact hc i hi

theorem reps_kp {w w1 : World} {lo g : Nat} {ps : List Rp.Rr} (h : Rp.Replys w (some ⟨g, 0, none⟩) ps) (hg : lo ≤ g) (k : Kp lo w w1) : Rp.Replys w1 (some ⟨g, 0, none⟩) ps := by
  rcases h with h | ⟨b, o, e, hb, hc⟩
  · exact Or.inl h
  · simp only [Option.some.injEq, Addr.mk.injEq, and_true] at e
    obtain ⟨rfl, rfl⟩ := e
    refine Or.inr ⟨g, 0, rfl, Nat.lt_of_lt_of_le hb k.1, fun i hi => ?_⟩
    rw [k.2 ⟨g, 0 + i * 4, none⟩ hg hb, k.2 ⟨g, 0 + i * 4 + 1, none⟩ hg hb, k.2 ⟨g, 0 + i * 4 + 2, none⟩ hg hb, k.2 ⟨g, 0 + i * 4 + 3, none⟩ hg hb]
    exact hc i hi

theorem stops_kp {w w1 : World} {lo g : Nat} {ps : List Tn.St} (h : Tn.Stops w (some ⟨g, 0, none⟩) ps) (hg : lo ≤ g) (k : Kp lo w w1) : Tn.Stops w1 (some ⟨g, 0, none⟩) ps := by
  rcases h with h | ⟨b, o, e, hb, hc⟩
  · exact Or.inl h
  · simp only [Option.some.injEq, Addr.mk.injEq, and_true] at e
    obtain ⟨rfl, rfl⟩ := e
    refine Or.inr ⟨g, 0, rfl, Nat.lt_of_lt_of_le hb k.1, fun i hi => ?_⟩
    rw [k.2 ⟨g, 0 + i * 3, none⟩ hg hb, k.2 ⟨g, 0 + i * 3 + 1, none⟩ hg hb, k.2 ⟨g, 0 + i * 3 + 2, none⟩ hg hb]
    exact hc i hi

theorem rides_kp {w w1 : World} {lo g : Nat} {ps : List Rd.Ri} (h : Rd.Rides w (some ⟨g, 0, none⟩) ps) (hg : lo ≤ g) (k : Kp lo w w1) : Rd.Rides w1 (some ⟨g, 0, none⟩) ps := by
  rcases h with h | ⟨b, o, e, hb, hc⟩
  · exact Or.inl h
  · simp only [Option.some.injEq, Addr.mk.injEq, and_true] at e
    obtain ⟨rfl, rfl⟩ := e
    refine Or.inr ⟨g, 0, rfl, Nat.lt_of_lt_of_le hb k.1, fun i hi => ?_⟩
    rw [k.2 ⟨g, 0 + i * 4, none⟩ hg hb, k.2 ⟨g, 0 + i * 4 + 1, none⟩ hg hb, k.2 ⟨g, 0 + i * 4 + 2, none⟩ hg hb, k.2 ⟨g, 0 + i * 4 + 3, none⟩ hg hb]
    exact hc i hi

/-- Trains of the call's own, all from block lo on. -/
def Ln (w : World) (lo g : Nat) (ts : List Tn.Tr) : Prop := lo ≤ g ∧ g < w.heap.size ∧ ∀ i (h : i < ts.length), Tn.Nums w g (i * 5) ts[i].h ∧ ∃ gi, lo ≤ gi ∧ w.cell? ⟨g, i * 5 + 4, none⟩ = some (.slice (some ⟨gi, 0, none⟩) ts[i].l.length ts[i].l.length) ∧ Tn.Stops w (some ⟨gi, 0, none⟩) ts[i].l

theorem Ln.kp {w w1 : World} {lo g : Nat} {ts : List Tn.Tr} (h : Ln w lo g ts) (k : Kp lo w w1) : Ln w1 lo g ts := by
  obtain ⟨h1, h2, h3⟩ := h
  refine ⟨h1, Nat.lt_of_lt_of_le h2 k.1, fun i hi => ?_⟩
  obtain ⟨q, gi, q1, q2, q3⟩ := h3 i hi
  obtain ⟨n0, n1, n2, n3⟩ := q
  exact ⟨⟨by rw [k.2 ⟨g, i * 5, none⟩ h1 h2]; exact n0, by rw [k.2 ⟨g, i * 5 + 1, none⟩ h1 h2]; exact n1, by rw [k.2 ⟨g, i * 5 + 2, none⟩ h1 h2]; exact n2, by rw [k.2 ⟨g, i * 5 + 3, none⟩ h1 h2]; exact n3⟩, gi, q1, by rw [k.2 ⟨g, i * 5 + 4, none⟩ h1 h2]; exact q2, stops_kp q3 q1 k⟩

theorem Ln.mine {w : World} {lo lo' g : Nat} {ts : List Tn.Tr} (h : Tn.Mine w lo' g ts.length ts.length ts) (h1 : lo ≤ g) (h2 : g < w.heap.size) (h3 : lo ≤ lo') : Ln w lo g ts := by
  refine ⟨h1, h2, fun i hi => ?_⟩
  obtain ⟨q, gi, q1, q2, q3, q4, q5, q6⟩ := h.2 i hi hi
  exact ⟨q, gi, by omega, q4, q5⟩

theorem Ln.trains {w : World} {lo g : Nat} {ts : List Tn.Tr} (h : Ln w lo g ts) : Tn.Trains w (some ⟨g, 0, none⟩) ts := by
  obtain ⟨h1, h2, h3⟩ := h
  refine Or.inr ⟨g, 0, rfl, h2, fun i hi => ?_⟩
  obtain ⟨q, gi, q1, q2, q3⟩ := h3 i hi
  rw [Nat.zero_add]
  exact ⟨q, gi, 0, _, q2, q3⟩

/-- Orders of the call's own, all from block lo on. -/
def Os (w : World) (lo g : Nat) (ts : List Od.Oo) : Prop := lo ≤ g ∧ g < w.heap.size ∧ ∀ i (h : i < ts.length), Od.Nums w g (i * 9) ts[i].h ∧ ∃ gi, lo ≤ gi ∧ w.cell? ⟨g, i * 9 + 5, none⟩ = some (.slice (some ⟨gi, 0, none⟩) ts[i].l.length ts[i].l.length) ∧ Rd.Rides w (some ⟨gi, 0, none⟩) ts[i].l

theorem Os.kp {w w1 : World} {lo g : Nat} {ts : List Od.Oo} (h : Os w lo g ts) (k : Kp lo w w1) : Os w1 lo g ts := by
  obtain ⟨h1, h2, h3⟩ := h
  refine ⟨h1, Nat.lt_of_lt_of_le h2 k.1, fun i hi => ?_⟩
  obtain ⟨q, gi, q1, q2, q3⟩ := h3 i hi
  refine ⟨?_, gi, q1, by rw [k.2 ⟨g, i * 9 + 5, none⟩ h1 h2]; exact q2, rides_kp q3 q1 k⟩
  unfold Od.Nums at q ⊢
  rw [k.2 ⟨g, i * 9, none⟩ h1 h2, k.2 ⟨g, i * 9 + 1, none⟩ h1 h2, k.2 ⟨g, i * 9 + 2, none⟩ h1 h2, k.2 ⟨g, i * 9 + 3, none⟩ h1 h2, k.2 ⟨g, i * 9 + 4, none⟩ h1 h2, k.2 ⟨g, i * 9 + 6, none⟩ h1 h2, k.2 ⟨g, i * 9 + 7, none⟩ h1 h2, k.2 ⟨g, i * 9 + 8, none⟩ h1 h2]
  exact q

theorem Os.mine {w : World} {lo lo' g : Nat} {ts : List Od.Oo} (h : Od.Mine w lo' g ts.length ts.length ts) (h1 : lo ≤ g) (h2 : g < w.heap.size) (h3 : lo ≤ lo') : Os w lo g ts := by
  refine ⟨h1, h2, fun i hi => ?_⟩
  obtain ⟨q, gi, q1, q2, q3, q4, q5, q6⟩ := h.2 i hi hi
  exact ⟨q, gi, by omega, q4, q5⟩

theorem Os.orders {w : World} {lo g : Nat} {ts : List Od.Oo} (h : Os w lo g ts) : Od.Orders w (some ⟨g, 0, none⟩) ts := by
  obtain ⟨h1, h2, h3⟩ := h
  refine Or.inr ⟨g, 0, rfl, h2, fun i hi => ?_⟩
  obtain ⟨q, gi, q1, q2, q3⟩ := h3 i hi
  rw [Nat.zero_add]
  exact ⟨q, some ⟨gi, 0, none⟩, _, q2, q3⟩

theorem h_set {w : World} {c i : Nat} {cs : Array Value} {t : TypeId} {f : Nat × Nat} (h : w.heap[c]? = some (.cells cs t f)) (u : Value) : (w.setCell ⟨c, i, none⟩ u).heap[c]? = some (.cells (cs.setIfInBounds i u) t f) := by
  unfold World.setCell
  simp [Array.getElem?_modify, h]

theorem h_other {w : World} {c g i : Nat} {x : Obj} (h : w.heap[c]? = some x) (hne : c ≠ g) (u : Value) : (w.setCell ⟨g, i, none⟩ u).heap[c]? = some x := by
  rw [Below.heap_setCell w ⟨g, i, none⟩ u c hne]
  exact h

set_option maxHeartbeats 4000000 in
theorem toOffice_val (x : Pl) (o : Offc) (w : World) (hz : Small o) (I : InA w x o) :
    Calls Tryz.prog 6 #[ofV x o] w fun e w' => ∃ y, e = .returned (ofV y o) ∧ Below w.heap.size w w' ∧ In w' y o := by
  have HZ : Hid (_ ∧ _ ∧ _ ∧ _ ∧ _) := hz
  obtain ⟨k0, k1, k2⟩ := Od.three_blocks w (ofB x o 28) (.cells #[.slice none 0 0, .slice none 0 0, .slice none 0 0, .slice none 0 0, .slice none 0 0, .int .i64 0] 36) (.cells #[.slice none 0 0, .slice none 0 0, .slice none 0 0, .slice none 0 0, .slice none 0 0, .int .i64 0] 36)
  have L : Below w.heap.size w (((w.alloc (ofB x o 28)).alloc (.cells #[.slice none 0 0, .slice none 0 0, .slice none 0 0, .slice none 0 0, .slice none 0 0, .int .i64 0] 36)).alloc (.cells #[.slice none 0 0, .slice none 0 0, .slice none 0 0, .slice none 0 0, .slice none 0 0, .int .i64 0] 36)) := join_below (join_below (new_below _ _) (new_below _ _)) (new_below _ _)
  have hs : (((w.alloc (ofB x o 28)).alloc (.cells #[.slice none 0 0, .slice none 0 0, .slice none 0 0, .slice none 0 0, .slice none 0 0, .int .i64 0] 36)).alloc (.cells #[.slice none 0 0, .slice none 0 0, .slice none 0 0, .slice none 0 0, .slice none 0 0, .int .i64 0] 36)).heap.size = w.heap.size + 1 + 1 + 1 := (Array.size_push ..).trans (congrArg (· + 1) ((Array.size_push ..).trans (congrArg (· + 1) (Array.size_push ..))))
  clear hz
  go_enter Tryz.func6, Tryz.ntmps6
  go_wp2_with fail
  refine Od.named fun W0 hW => ?_
  rw [← hW] at k0 k1 k2 L hs
  clear hW
  refine (Tn.toTrainS_val x.a0 o.ln x.c0 _ HZ.out.1 (I.ln.on L)).mono ?_
  rintro e v0 ⟨rfl, L0, hl0, M0⟩
  have g0l : w.heap.size + 1 + 1 + 1 ≤ W0.heap.size := by omega
  have k0 := kept L0 (lt_of k0) k0
  have k1 := kept L0 (lt_of k1) k1
  have k2 := kept L0 (lt_of k2) k2
  have T0 : Ln v0 (w.heap.size + 1 + 1 + 1) W0.heap.size o.ln := Ln.mine M0 g0l hl0 g0l
  have B0 := join_below L L0
  have hl : w.heap.size + 1 + 1 + 1 ≤ v0.heap.size := by have := L0.size; omega
  generalize W0.heap.size = g0 at *
  clear M0 hl0 L0
  clear L hs
  have k0n := h_other (g := w.heap.size + 1 + 1) (i := 0) k0 (by omega) (.slice (some ⟨g0, 0, none⟩) o.ln.length o.ln.length)
  have k1n := h_other (g := w.heap.size + 1 + 1) (i := 0) k1 (by omega) (.slice (some ⟨g0, 0, none⟩) o.ln.length o.ln.length)
  have k2n : (v0.setCell ⟨w.heap.size + 1 + 1, 0, none⟩ (.slice (some ⟨g0, 0, none⟩) o.ln.length o.ln.length)).heap[w.heap.size + 1 + 1]? = some (.cells #[.slice (some ⟨g0, 0, none⟩) o.ln.length o.ln.length, .slice none 0 0, .slice none 0 0, .slice none 0 0, .slice none 0 0, .int .i64 0] 36) := h_set k2 _
  have Bn : Below w.heap.size w (v0.setCell ⟨w.heap.size + 1 + 1, 0, none⟩ (.slice (some ⟨g0, 0, none⟩) o.ln.length o.ln.length)) := B0.setCell (show w.heap.size ≤ w.heap.size + 1 + 1 by omega) _
  have hn : w.heap.size + 1 + 1 + 1 ≤ (v0.setCell ⟨w.heap.size + 1 + 1, 0, none⟩ (.slice (some ⟨g0, 0, none⟩) o.ln.length o.ln.length)).heap.size := by rw [World.size_setCell]; exact hl
  have T0n := T0.kp (Kp.set (lo := w.heap.size + 1 + 1 + 1) (i := 0) (.slice (some ⟨g0, 0, none⟩) o.ln.length o.ln.length) (show w.heap.size + 1 + 1 < w.heap.size + 1 + 1 + 1 by omega))
  have f0 : v0.frozen? ⟨w.heap.size + 1 + 1, 0, none⟩ = false := frozen_at k2 0
  have q0 : v0.cell? ⟨w.heap.size + 1 + 1, 0, none⟩ = some (.slice none 0 0) := cell_at k2 0
  have r0 : (v0.setCell ⟨w.heap.size + 1 + 1, 0, none⟩ (.slice (some ⟨g0, 0, none⟩) o.ln.length o.ln.length)).cell? ⟨w.heap.size, 1, none⟩ = some (.slice x.a1 o.ta.length x.c1) := cell_at k0n 1
  have HH : Hid (∀ (P : World → Prop), P (v0.setCell ⟨w.heap.size + 1 + 1, 0, none⟩ (.slice (some ⟨g0, 0, none⟩) o.ln.length o.ln.length)) → P (v0.setCell ⟨w.heap.size + 1 + 1, 0, none⟩ (.slice (some ⟨g0, 0, none⟩) o.ln.length o.ln.length))) := fun P h => h
  clear k0 k1 k2 hl T0
  clear HH
  go_wp2_with fail
  refine Od.named fun W1 hW => ?_
  rw [← hW] at k0n k1n k2n Bn hn r0 T0n
  clear hW f0 q0 r0
  have k0 := k0n
  have k1 := k1n
  have k2 := k2n
  have B0 := Bn
  have hs := hn
  have T0 := T0n
  clear k0n k1n k2n Bn hn T0n
  refine (Tf.toEdgeS_val x.a1 o.ta x.c1 _ HZ.out.2.1 (I.ta.on B0)).mono ?_
  rintro e v1 ⟨rfl, L1, M1, hl1, -⟩
  have g1l : w.heap.size + 1 + 1 + 1 ≤ W1.heap.size := by omega
  have k0 := kept L1 (lt_of k0) k0
  have k1 := kept L1 (lt_of k1) k1
  have k2 := kept L1 (lt_of k2) k2
  have T1 := M1
  have B1 := join_below B0 L1
  have T0 := T0.kp (Kp.of (lo := w.heap.size + 1 + 1 + 1) L1)
  have hl : w.heap.size + 1 + 1 + 1 ≤ v1.heap.size := by have := L1.size; omega
  generalize W1.heap.size = g1 at *
  clear M1 hl1 L1
  clear B0 hs
  have k0n := h_other (g := w.heap.size + 1 + 1) (i := 1) k0 (by omega) (.slice (some ⟨g1, 0, none⟩) o.ta.length o.ta.length)
  have k1n := h_other (g := w.heap.size + 1 + 1) (i := 1) k1 (by omega) (.slice (some ⟨g1, 0, none⟩) o.ta.length o.ta.length)
  have k2n : (v1.setCell ⟨w.heap.size + 1 + 1, 1, none⟩ (.slice (some ⟨g1, 0, none⟩) o.ta.length o.ta.length)).heap[w.heap.size + 1 + 1]? = some (.cells #[.slice (some ⟨g0, 0, none⟩) o.ln.length o.ln.length, .slice (some ⟨g1, 0, none⟩) o.ta.length o.ta.length, .slice none 0 0, .slice none 0 0, .slice none 0 0, .int .i64 0] 36) := h_set k2 _
  have Bn : Below w.heap.size w (v1.setCell ⟨w.heap.size + 1 + 1, 1, none⟩ (.slice (some ⟨g1, 0, none⟩) o.ta.length o.ta.length)) := B1.setCell (show w.heap.size ≤ w.heap.size + 1 + 1 by omega) _
  have hn : w.heap.size + 1 + 1 + 1 ≤ (v1.setCell ⟨w.heap.size + 1 + 1, 1, none⟩ (.slice (some ⟨g1, 0, none⟩) o.ta.length o.ta.length)).heap.size := by rw [World.size_setCell]; exact hl
  have T0n := T0.kp (Kp.set (lo := w.heap.size + 1 + 1 + 1) (i := 1) (.slice (some ⟨g1, 0, none⟩) o.ta.length o.ta.length) (show w.heap.size + 1 + 1 < w.heap.size + 1 + 1 + 1 by omega))
  have T1n := edges_kp T1 g1l (Kp.set (lo := w.heap.size + 1 + 1 + 1) (i := 1) (.slice (some ⟨g1, 0, none⟩) o.ta.length o.ta.length) (show w.heap.size + 1 + 1 < w.heap.size + 1 + 1 + 1 by omega))
  have f1 : v1.frozen? ⟨w.heap.size + 1 + 1, 1, none⟩ = false := frozen_at k2 1
  have q1 : v1.cell? ⟨w.heap.size + 1 + 1, 1, none⟩ = some (.slice none 0 0) := cell_at k2 1
  have r1 : (v1.setCell ⟨w.heap.size + 1 + 1, 1, none⟩ (.slice (some ⟨g1, 0, none⟩) o.ta.length o.ta.length)).cell? ⟨w.heap.size, 2, none⟩ = some (.slice x.a2 o.ho.length x.c2) := cell_at k0n 2
  have HH : Hid (∀ (P : World → Prop), P (v1.setCell ⟨w.heap.size + 1 + 1, 1, none⟩ (.slice (some ⟨g1, 0, none⟩) o.ta.length o.ta.length)) → P (v1.setCell ⟨w.heap.size + 1 + 1, 1, none⟩ (.slice (some ⟨g1, 0, none⟩) o.ta.length o.ta.length))) := fun P h => h
  clear k0 k1 k2 hl T0 T1
  clear HH
  go_wp2_with fail
  refine Od.named fun W2 hW => ?_
  rw [← hW] at k0n k1n k2n Bn hn r1 T0n T1n
  clear hW f1 q1 r1
  have k0 := k0n
  have k1 := k1n
  have k2 := k2n
  have B1 := Bn
  have hs := hn
  have T0 := T0n
  have T1 := T1n
  clear k0n k1n k2n Bn hn T0n T1n
  refine (Se.toHoldS_val x.a2 o.ho x.c2 _ HZ.out.2.2.1 (I.ho.on B1)).mono ?_
  rintro e v2 ⟨rfl, L2, M2, hl2, -⟩
  have g2l : w.heap.size + 1 + 1 + 1 ≤ W2.heap.size := by omega
  have k0 := kept L2 (lt_of k0) k0
  have k1 := kept L2 (lt_of k1) k1
  have k2 := kept L2 (lt_of k2) k2
  have T2 := M2
  have B2 := join_below B1 L2
  have T0 := T0.kp (Kp.of (lo := w.heap.size + 1 + 1 + 1) L2)
  have T1 := edges_kp T1 g1l (Kp.of (lo := w.heap.size + 1 + 1 + 1) L2)
  have hl : w.heap.size + 1 + 1 + 1 ≤ v2.heap.size := by have := L2.size; omega
  generalize W2.heap.size = g2 at *
  clear M2 hl2 L2
  clear B1 hs
  have k0n := h_other (g := w.heap.size + 1 + 1) (i := 2) k0 (by omega) (.slice (some ⟨g2, 0, none⟩) o.ho.length o.ho.length)
  have k1n := h_other (g := w.heap.size + 1 + 1) (i := 2) k1 (by omega) (.slice (some ⟨g2, 0, none⟩) o.ho.length o.ho.length)
  have k2n : (v2.setCell ⟨w.heap.size + 1 + 1, 2, none⟩ (.slice (some ⟨g2, 0, none⟩) o.ho.length o.ho.length)).heap[w.heap.size + 1 + 1]? = some (.cells #[.slice (some ⟨g0, 0, none⟩) o.ln.length o.ln.length, .slice (some ⟨g1, 0, none⟩) o.ta.length o.ta.length, .slice (some ⟨g2, 0, none⟩) o.ho.length o.ho.length, .slice none 0 0, .slice none 0 0, .int .i64 0] 36) := h_set k2 _
  have Bn : Below w.heap.size w (v2.setCell ⟨w.heap.size + 1 + 1, 2, none⟩ (.slice (some ⟨g2, 0, none⟩) o.ho.length o.ho.length)) := B2.setCell (show w.heap.size ≤ w.heap.size + 1 + 1 by omega) _
  have hn : w.heap.size + 1 + 1 + 1 ≤ (v2.setCell ⟨w.heap.size + 1 + 1, 2, none⟩ (.slice (some ⟨g2, 0, none⟩) o.ho.length o.ho.length)).heap.size := by rw [World.size_setCell]; exact hl
  have T0n := T0.kp (Kp.set (lo := w.heap.size + 1 + 1 + 1) (i := 2) (.slice (some ⟨g2, 0, none⟩) o.ho.length o.ho.length) (show w.heap.size + 1 + 1 < w.heap.size + 1 + 1 + 1 by omega))
  have T1n := edges_kp T1 g1l (Kp.set (lo := w.heap.size + 1 + 1 + 1) (i := 2) (.slice (some ⟨g2, 0, none⟩) o.ho.length o.ho.length) (show w.heap.size + 1 + 1 < w.heap.size + 1 + 1 + 1 by omega))
  have T2n := holds_kp T2 g2l (Kp.set (lo := w.heap.size + 1 + 1 + 1) (i := 2) (.slice (some ⟨g2, 0, none⟩) o.ho.length o.ho.length) (show w.heap.size + 1 + 1 < w.heap.size + 1 + 1 + 1 by omega))
  have f2 : v2.frozen? ⟨w.heap.size + 1 + 1, 2, none⟩ = false := frozen_at k2 2
  have q2 : v2.cell? ⟨w.heap.size + 1 + 1, 2, none⟩ = some (.slice none 0 0) := cell_at k2 2
  have r2 : (v2.setCell ⟨w.heap.size + 1 + 1, 2, none⟩ (.slice (some ⟨g2, 0, none⟩) o.ho.length o.ho.length)).cell? ⟨w.heap.size, 3, none⟩ = some (.slice x.a3 o.od.length x.c3) := cell_at k0n 3
  have HH : Hid (∀ (P : World → Prop), P (v2.setCell ⟨w.heap.size + 1 + 1, 2, none⟩ (.slice (some ⟨g2, 0, none⟩) o.ho.length o.ho.length)) → P (v2.setCell ⟨w.heap.size + 1 + 1, 2, none⟩ (.slice (some ⟨g2, 0, none⟩) o.ho.length o.ho.length))) := fun P h => h
  clear k0 k1 k2 hl T0 T1 T2
  clear HH
  go_wp2_with fail
  refine Od.named fun W3 hW => ?_
  rw [← hW] at k0n k1n k2n Bn hn r2 T0n T1n T2n
  clear hW f2 q2 r2
  have k0 := k0n
  have k1 := k1n
  have k2 := k2n
  have B2 := Bn
  have hs := hn
  have T0 := T0n
  have T1 := T1n
  have T2 := T2n
  clear k0n k1n k2n Bn hn T0n T1n T2n
  refine (Od.toOrderS_val x.a3 o.od x.c3 _ HZ.out.2.2.2.1 (I.od.on B2)).mono ?_
  rintro e v3 ⟨rfl, L3, hl3, M3⟩
  have g3l : w.heap.size + 1 + 1 + 1 ≤ W3.heap.size := by omega
  have k0 := kept L3 (lt_of k0) k0
  have k1 := kept L3 (lt_of k1) k1
  have k2 := kept L3 (lt_of k2) k2
  have T3 : Os v3 (w.heap.size + 1 + 1 + 1) W3.heap.size o.od := Os.mine M3 g3l hl3 g3l
  have B3 := join_below B2 L3
  have T0 := T0.kp (Kp.of (lo := w.heap.size + 1 + 1 + 1) L3)
  have T1 := edges_kp T1 g1l (Kp.of (lo := w.heap.size + 1 + 1 + 1) L3)
  have T2 := holds_kp T2 g2l (Kp.of (lo := w.heap.size + 1 + 1 + 1) L3)
  have hl : w.heap.size + 1 + 1 + 1 ≤ v3.heap.size := by have := L3.size; omega
  generalize W3.heap.size = g3 at *
  clear M3 hl3 L3
  clear B2 hs
  have k0n := h_other (g := w.heap.size + 1 + 1) (i := 3) k0 (by omega) (.slice (some ⟨g3, 0, none⟩) o.od.length o.od.length)
  have k1n := h_other (g := w.heap.size + 1 + 1) (i := 3) k1 (by omega) (.slice (some ⟨g3, 0, none⟩) o.od.length o.od.length)
  have k2n : (v3.setCell ⟨w.heap.size + 1 + 1, 3, none⟩ (.slice (some ⟨g3, 0, none⟩) o.od.length o.od.length)).heap[w.heap.size + 1 + 1]? = some (.cells #[.slice (some ⟨g0, 0, none⟩) o.ln.length o.ln.length, .slice (some ⟨g1, 0, none⟩) o.ta.length o.ta.length, .slice (some ⟨g2, 0, none⟩) o.ho.length o.ho.length, .slice (some ⟨g3, 0, none⟩) o.od.length o.od.length, .slice none 0 0, .int .i64 0] 36) := h_set k2 _
  have Bn : Below w.heap.size w (v3.setCell ⟨w.heap.size + 1 + 1, 3, none⟩ (.slice (some ⟨g3, 0, none⟩) o.od.length o.od.length)) := B3.setCell (show w.heap.size ≤ w.heap.size + 1 + 1 by omega) _
  have hn : w.heap.size + 1 + 1 + 1 ≤ (v3.setCell ⟨w.heap.size + 1 + 1, 3, none⟩ (.slice (some ⟨g3, 0, none⟩) o.od.length o.od.length)).heap.size := by rw [World.size_setCell]; exact hl
  have T0n := T0.kp (Kp.set (lo := w.heap.size + 1 + 1 + 1) (i := 3) (.slice (some ⟨g3, 0, none⟩) o.od.length o.od.length) (show w.heap.size + 1 + 1 < w.heap.size + 1 + 1 + 1 by omega))
  have T1n := edges_kp T1 g1l (Kp.set (lo := w.heap.size + 1 + 1 + 1) (i := 3) (.slice (some ⟨g3, 0, none⟩) o.od.length o.od.length) (show w.heap.size + 1 + 1 < w.heap.size + 1 + 1 + 1 by omega))
  have T2n := holds_kp T2 g2l (Kp.set (lo := w.heap.size + 1 + 1 + 1) (i := 3) (.slice (some ⟨g3, 0, none⟩) o.od.length o.od.length) (show w.heap.size + 1 + 1 < w.heap.size + 1 + 1 + 1 by omega))
  have T3n := T3.kp (Kp.set (lo := w.heap.size + 1 + 1 + 1) (i := 3) (.slice (some ⟨g3, 0, none⟩) o.od.length o.od.length) (show w.heap.size + 1 + 1 < w.heap.size + 1 + 1 + 1 by omega))
  have f3 : v3.frozen? ⟨w.heap.size + 1 + 1, 3, none⟩ = false := frozen_at k2 3
  have q3 : v3.cell? ⟨w.heap.size + 1 + 1, 3, none⟩ = some (.slice none 0 0) := cell_at k2 3
  have r3 : (v3.setCell ⟨w.heap.size + 1 + 1, 3, none⟩ (.slice (some ⟨g3, 0, none⟩) o.od.length o.od.length)).cell? ⟨w.heap.size, 4, none⟩ = some (.slice x.a4 o.to.length x.c4) := cell_at k0n 4
  have HH : Hid (∀ (P : World → Prop), P (v3.setCell ⟨w.heap.size + 1 + 1, 3, none⟩ (.slice (some ⟨g3, 0, none⟩) o.od.length o.od.length)) → P (v3.setCell ⟨w.heap.size + 1 + 1, 3, none⟩ (.slice (some ⟨g3, 0, none⟩) o.od.length o.od.length))) := fun P h => h
  clear k0 k1 k2 hl T0 T1 T2 T3
  clear HH
  go_wp2_with fail
  refine Od.named fun W4 hW => ?_
  rw [← hW] at k0n k1n k2n Bn hn r3 T0n T1n T2n T3n
  clear hW f3 q3 r3
  have k0 := k0n
  have k1 := k1n
  have k2 := k2n
  have B3 := Bn
  have hs := hn
  have T0 := T0n
  have T1 := T1n
  have T2 := T2n
  have T3 := T3n
  clear k0n k1n k2n Bn hn T0n T1n T2n T3n
  refine (Rp.toReplyS_val x.a4 o.to x.c4 _ HZ.out.2.2.2.2 (I.to.on B3)).mono ?_
  rintro e v4 ⟨rfl, L4, M4, hl4, -⟩
  have g4l : w.heap.size + 1 + 1 + 1 ≤ W4.heap.size := by omega
  have k0 := kept L4 (lt_of k0) k0
  have k1 := kept L4 (lt_of k1) k1
  have k2 := kept L4 (lt_of k2) k2
  have T4 := M4
  have B4 := join_below B3 L4
  have T0 := T0.kp (Kp.of (lo := w.heap.size + 1 + 1 + 1) L4)
  have T1 := edges_kp T1 g1l (Kp.of (lo := w.heap.size + 1 + 1 + 1) L4)
  have T2 := holds_kp T2 g2l (Kp.of (lo := w.heap.size + 1 + 1 + 1) L4)
  have T3 := T3.kp (Kp.of (lo := w.heap.size + 1 + 1 + 1) L4)
  have hl : w.heap.size + 1 + 1 + 1 ≤ v4.heap.size := by have := L4.size; omega
  generalize W4.heap.size = g4 at *
  clear M4 hl4 L4
  clear B3 hs
  have k0n := h_other (g := w.heap.size + 1 + 1) (i := 4) k0 (by omega) (.slice (some ⟨g4, 0, none⟩) o.to.length o.to.length)
  have k1n := h_other (g := w.heap.size + 1 + 1) (i := 4) k1 (by omega) (.slice (some ⟨g4, 0, none⟩) o.to.length o.to.length)
  have k2n : (v4.setCell ⟨w.heap.size + 1 + 1, 4, none⟩ (.slice (some ⟨g4, 0, none⟩) o.to.length o.to.length)).heap[w.heap.size + 1 + 1]? = some (.cells #[.slice (some ⟨g0, 0, none⟩) o.ln.length o.ln.length, .slice (some ⟨g1, 0, none⟩) o.ta.length o.ta.length, .slice (some ⟨g2, 0, none⟩) o.ho.length o.ho.length, .slice (some ⟨g3, 0, none⟩) o.od.length o.od.length, .slice (some ⟨g4, 0, none⟩) o.to.length o.to.length, .int .i64 0] 36) := h_set k2 _
  have Bn : Below w.heap.size w (v4.setCell ⟨w.heap.size + 1 + 1, 4, none⟩ (.slice (some ⟨g4, 0, none⟩) o.to.length o.to.length)) := B4.setCell (show w.heap.size ≤ w.heap.size + 1 + 1 by omega) _
  have hn : w.heap.size + 1 + 1 + 1 ≤ (v4.setCell ⟨w.heap.size + 1 + 1, 4, none⟩ (.slice (some ⟨g4, 0, none⟩) o.to.length o.to.length)).heap.size := by rw [World.size_setCell]; exact hl
  have T0n := T0.kp (Kp.set (lo := w.heap.size + 1 + 1 + 1) (i := 4) (.slice (some ⟨g4, 0, none⟩) o.to.length o.to.length) (show w.heap.size + 1 + 1 < w.heap.size + 1 + 1 + 1 by omega))
  have T1n := edges_kp T1 g1l (Kp.set (lo := w.heap.size + 1 + 1 + 1) (i := 4) (.slice (some ⟨g4, 0, none⟩) o.to.length o.to.length) (show w.heap.size + 1 + 1 < w.heap.size + 1 + 1 + 1 by omega))
  have T2n := holds_kp T2 g2l (Kp.set (lo := w.heap.size + 1 + 1 + 1) (i := 4) (.slice (some ⟨g4, 0, none⟩) o.to.length o.to.length) (show w.heap.size + 1 + 1 < w.heap.size + 1 + 1 + 1 by omega))
  have T3n := T3.kp (Kp.set (lo := w.heap.size + 1 + 1 + 1) (i := 4) (.slice (some ⟨g4, 0, none⟩) o.to.length o.to.length) (show w.heap.size + 1 + 1 < w.heap.size + 1 + 1 + 1 by omega))
  have T4n := reps_kp T4 g4l (Kp.set (lo := w.heap.size + 1 + 1 + 1) (i := 4) (.slice (some ⟨g4, 0, none⟩) o.to.length o.to.length) (show w.heap.size + 1 + 1 < w.heap.size + 1 + 1 + 1 by omega))
  have f4 : v4.frozen? ⟨w.heap.size + 1 + 1, 4, none⟩ = false := frozen_at k2 4
  have q4 : v4.cell? ⟨w.heap.size + 1 + 1, 4, none⟩ = some (.slice none 0 0) := cell_at k2 4
  clear k0 k1 k2 hl T0 T1 T2 T3 T4
  have r5 : (v4.setCell ⟨w.heap.size + 1 + 1, 4, none⟩ (.slice (some ⟨g4, 0, none⟩) o.to.length o.to.length)).cell? ⟨w.heap.size, 5, none⟩ = some (.int .i64 o.td) := cell_at k0n 5
  have z0 : (v4.setCell ⟨w.heap.size + 1 + 1, 4, none⟩ (.slice (some ⟨g4, 0, none⟩) o.to.length o.to.length)).cell? ⟨w.heap.size + 1 + 1, 0, none⟩ = some (.slice (some ⟨g0, 0, none⟩) o.ln.length o.ln.length) := cell_at k2n 0
  have z1 : (v4.setCell ⟨w.heap.size + 1 + 1, 4, none⟩ (.slice (some ⟨g4, 0, none⟩) o.to.length o.to.length)).cell? ⟨w.heap.size + 1 + 1, 1, none⟩ = some (.slice (some ⟨g1, 0, none⟩) o.ta.length o.ta.length) := cell_at k2n 1
  have z2 : (v4.setCell ⟨w.heap.size + 1 + 1, 4, none⟩ (.slice (some ⟨g4, 0, none⟩) o.to.length o.to.length)).cell? ⟨w.heap.size + 1 + 1, 2, none⟩ = some (.slice (some ⟨g2, 0, none⟩) o.ho.length o.ho.length) := cell_at k2n 2
  have z3 : (v4.setCell ⟨w.heap.size + 1 + 1, 4, none⟩ (.slice (some ⟨g4, 0, none⟩) o.to.length o.to.length)).cell? ⟨w.heap.size + 1 + 1, 3, none⟩ = some (.slice (some ⟨g3, 0, none⟩) o.od.length o.od.length) := cell_at k2n 3
  have z4 : (v4.setCell ⟨w.heap.size + 1 + 1, 4, none⟩ (.slice (some ⟨g4, 0, none⟩) o.to.length o.to.length)).cell? ⟨w.heap.size + 1 + 1, 4, none⟩ = some (.slice (some ⟨g4, 0, none⟩) o.to.length o.to.length) := cell_at k2n 4
  have z5 : (v4.setCell ⟨w.heap.size + 1 + 1, 4, none⟩ (.slice (some ⟨g4, 0, none⟩) o.to.length o.to.length)).cell? ⟨w.heap.size + 1 + 1, 5, none⟩ = some (.int .i64 0) := cell_at k2n 5
  have u0 : (v4.setCell ⟨w.heap.size + 1 + 1, 4, none⟩ (.slice (some ⟨g4, 0, none⟩) o.to.length o.to.length)).cell? ⟨w.heap.size + 1, 0, none⟩ = some (.slice none 0 0) := cell_at k1n 0
  have u1 : (v4.setCell ⟨w.heap.size + 1 + 1, 4, none⟩ (.slice (some ⟨g4, 0, none⟩) o.to.length o.to.length)).cell? ⟨w.heap.size + 1, 1, none⟩ = some (.slice none 0 0) := cell_at k1n 1
  have u2 : (v4.setCell ⟨w.heap.size + 1 + 1, 4, none⟩ (.slice (some ⟨g4, 0, none⟩) o.to.length o.to.length)).cell? ⟨w.heap.size + 1, 2, none⟩ = some (.slice none 0 0) := cell_at k1n 2
  have u3 : (v4.setCell ⟨w.heap.size + 1 + 1, 4, none⟩ (.slice (some ⟨g4, 0, none⟩) o.to.length o.to.length)).cell? ⟨w.heap.size + 1, 3, none⟩ = some (.slice none 0 0) := cell_at k1n 3
  have u4 : (v4.setCell ⟨w.heap.size + 1 + 1, 4, none⟩ (.slice (some ⟨g4, 0, none⟩) o.to.length o.to.length)).cell? ⟨w.heap.size + 1, 4, none⟩ = some (.slice none 0 0) := cell_at k1n 4
  have u5 : (v4.setCell ⟨w.heap.size + 1 + 1, 4, none⟩ (.slice (some ⟨g4, 0, none⟩) o.to.length o.to.length)).cell? ⟨w.heap.size + 1, 5, none⟩ = some (.int .i64 0) := cell_at k1n 5
  generalize hW : v4.setCell ⟨w.heap.size + 1 + 1, 4, none⟩ (.slice (some ⟨g4, 0, none⟩) o.to.length o.to.length) = W at *
  have f5 : W.frozen? ⟨w.heap.size + 1 + 1, 5, none⟩ = false := frozen_at k2n 5
  have y0 : W.frozen? ⟨w.heap.size + 1, 0, none⟩ = false := frozen_at k1n 0
  have y1 : W.frozen? ⟨w.heap.size + 1, 1, none⟩ = false := frozen_at k1n 1
  have y2 : W.frozen? ⟨w.heap.size + 1, 2, none⟩ = false := frozen_at k1n 2
  have y3 : W.frozen? ⟨w.heap.size + 1, 3, none⟩ = false := frozen_at k1n 3
  have y4 : W.frozen? ⟨w.heap.size + 1, 4, none⟩ = false := frozen_at k1n 4
  have y5 : W.frozen? ⟨w.heap.size + 1, 5, none⟩ = false := frozen_at k1n 5
  clear k0n k1n k2n
  have HI : Hid (∀ W1, Kp (w.heap.size + 1 + 1 + 1) W W1 → In W1 ⟨some ⟨g0, 0, none⟩, some ⟨g1, 0, none⟩, some ⟨g2, 0, none⟩, some ⟨g3, 0, none⟩, some ⟨g4, 0, none⟩, o.ln.length, o.ta.length, o.ho.length, o.od.length, o.to.length⟩ o) := fun W1 k => ⟨(T0n.kp k).trains, edges_kp T1n g1l k, holds_kp T2n g2l k, (T3n.kp k).orders, reps_kp T4n g4l k⟩
  go_wp2
  refine bodyPost_ret (v := ofV ⟨some ⟨g0, 0, none⟩, some ⟨g1, 0, none⟩, some ⟨g2, 0, none⟩, some ⟨g3, 0, none⟩, some ⟨g4, 0, none⟩, o.ln.length, o.ta.length, o.ho.length, o.od.length, o.to.length⟩ o) (by simp [results, Tryz.results6, go_sem, u0, u1, u2, u3, u4, u5]) rfl ?_
  refine ⟨_, rfl, ?_, HI.out _ ?_⟩
  · (repeat' (first | apply Below.setCell | exact Bn)) <;> first | (simp; done) | (simp; omega)
  · have hg : w.heap.size + 1 < w.heap.size + 1 + 1 + 1 := by omega
    exact (((((((Kp.set _ (show w.heap.size + 1 + 1 < w.heap.size + 1 + 1 + 1 by omega)).trans (Kp.set _ hg)).trans (Kp.set _ hg)).trans (Kp.set _ hg)).trans (Kp.set _ hg)).trans (Kp.set _ hg)).trans (Kp.set _ hg))

end Of
end Go.Proofs.YtehmlnojjfeheaaGreat

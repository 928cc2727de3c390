/- A copy of an office. -/
import Derived.Test.YtmoinacceildcaaGreatDoorOfOff
namespace Go.Proofs.YtmoinacceildcaaGreatDoor
namespace Of
open Go.ChangeShapes Go.WideShapes Go.ChangeAt Go.RowKit Go.Joins
open Pk (new_below join_below cell_at heap_new frozen_at lt_of kept heap_old info_of Room)
set_option linter.unusedSimpArgs false
set_option linter.unusedVariables false

/-- All blocks from lo on that there were are kept. -/
def Kp (lo : Nat) (w w1 : World) : Prop := w.heap.size ≤ w1.heap.size ∧ ∀ p : Addr, lo ≤ p.block → p.block < w.heap.size → w1.cell? p = w.cell? p

theorem Kp.of {lo : Nat} {w w1 : World} (L : Below w.heap.size w w1) : Kp lo w w1 := ⟨L.size, fun p _ h => L.cell h⟩

theorem Kp.set {lo g i : Nat} {w : World} (v : Value) (h : g < lo) : Kp lo w (w.setCell ⟨g, i, none⟩ v) := ⟨by rw [World.size_setCell]; exact Nat.le_refl _, fun p h1 h2 => Od.cell_other (by omega)⟩

theorem Kp.trans {lo : Nat} {w w1 w2 : World} (h : Kp lo w w1) (k : Kp lo w1 w2) : Kp lo w w2 := ⟨Nat.le_trans h.1 k.1, fun p h1 h2 => by rw [k.2 p h1 (Nat.lt_of_lt_of_le h2 h.1), h.2 p h1 h2]⟩

theorem edges_kp {w w1 : World} {lo g : Nat} {ps : List Tf.Ed} (h : Tf.Edges w (some ⟨g, 0, none⟩) ps) (hg : lo ≤ g) (k : Kp lo w w1) : Tf.Edges w1 (some ⟨g, 0, none⟩) ps := by
  rcases h with h | ⟨b, o, e, hb, hc⟩
  · exact Or.inl h
  · simp only [Option.some.injEq, Addr.mk.injEq, and_true] at e
    obtain ⟨rfl, rfl⟩ := e
    refine Or.inr ⟨g, 0, rfl, Nat.lt_of_lt_of_le hb k.1, fun i hi => ?_⟩
    rw [k.2 ⟨g, 0 + i * 3, none⟩ hg hb, k.2 ⟨g, 0 + i * 3 + 1, none⟩ hg hb, k.2 ⟨g, 0 + i * 3 + 2, none⟩ hg hb]
    exact hc i hi

theorem holds_kp {w w1 : World} {lo g : Nat} {ps : List Se.Hl} (h : Se.Holds w (some ⟨g, 0, none⟩) ps) (hg : lo ≤ g) (k : Kp lo w w1) : Se.Holds w1 (some ⟨g, 0, none⟩) ps := by
  rcases h with h | ⟨b, o, e, hb, hc⟩
  · exact Or.inl h
  · simp only [Option.some.injEq, Addr.mk.injEq, and_true] at e
    obtain ⟨rfl, rfl⟩ := e
    refine Or.inr ⟨g, 0, rfl, Nat.lt_of_lt_of_le hb k.1, fun i hi => ?_⟩
    rw [k.2 ⟨g, 0 + i * 7, none⟩ hg hb, k.2 ⟨g, 0 + i * 7 + 1, none⟩ hg hb, k.2 ⟨g, 0 + i * 7 + 2, none⟩ hg hb, k.2 ⟨g, 0 + i * 7 + 3, none⟩ hg hb, k.2 ⟨g, 0 + i * 7 + 4, none⟩ hg hb, k.2 ⟨g, 0 + i * 7 + 5, none⟩ hg hb, k.2 ⟨g, 0 + i * 7 + 6, none⟩ hg hb]
    exact hc i hi

theorem reps_kp {w w1 : World} {lo g : Nat} {ps : List Rp.Rr} (h : Rp.Replys w (some ⟨g, 0, none⟩) ps) (hg : lo ≤ g) (k : Kp lo w w1) : Rp.Replys w1 (some ⟨g, 0, none⟩) ps := by
  rcases h with h | ⟨b, o, e, hb, hc⟩
  · exact Or.inl h
  · simp only [Option.some.injEq, Addr.mk.injEq, and_true] at e
    obtain ⟨rfl, rfl⟩ := e
    refine Or.inr ⟨g, 0, rfl, Nat.lt_of_lt_of_le hb k.1, fun i hi => ?_⟩
    rw [k.2 ⟨g, 0 + i * 4, none⟩ hg hb, k.2 ⟨g, 0 + i * 4 + 1, none⟩ hg hb, k.2 ⟨g, 0 + i * 4 + 2, none⟩ hg hb, k.2 ⟨g, 0 + i * 4 + 3, none⟩ hg hb]
    exact hc i hi

theorem stops_kp {w w1 : World} {lo g : Nat} {ps : List Tn.St} (h : Tn.Stops w (some ⟨g, 0, none⟩) ps) (hg : lo ≤ g) (k : Kp lo w w1) : Tn.Stops w1 (some ⟨g, 0, none⟩) ps := by
  rcases h with h | ⟨b, o, e, hb, hc⟩
  · exact Or.inl h
  · simp only [Option.some.injEq, Addr.mk.injEq, and_true] at e
    obtain ⟨rfl, rfl⟩ := e
    refine Or.inr ⟨g, 0, rfl, Nat.lt_of_lt_of_le hb k.1, fun i hi => ?_⟩
    rw [k.2 ⟨g, 0 + i * 3, none⟩ hg hb, k.2 ⟨g, 0 + i * 3 + 1, none⟩ hg hb, k.2 ⟨g, 0 + i * 3 + 2, none⟩ hg hb]
    exact hc i hi

theorem rides_kp {w w1 : World} {lo g : Nat} {ps : List Rd.Ri} (h : Rd.Rides w (some ⟨g, 0, none⟩) ps) (hg : lo ≤ g) (k : Kp lo w w1) : Rd.Rides w1 (some ⟨g, 0, none⟩) ps := by
  rcases h with h | ⟨b, o, e, hb, hc⟩
  · exact Or.inl h
  · simp only [Option.some.injEq, Addr.mk.injEq, and_true] at e
    obtain ⟨rfl, rfl⟩ := e
    refine Or.inr ⟨g, 0, rfl, Nat.lt_of_lt_of_le hb k.1, fun i hi => ?_⟩
    rw [k.2 ⟨g, 0 + i * 4, none⟩ hg hb, k.2 ⟨g, 0 + i * 4 + 1, none⟩ hg hb, k.2 ⟨g, 0 + i * 4 + 2, none⟩ hg hb, k.2 ⟨g, 0 + i * 4 + 3, none⟩ hg hb]
    exact hc i hi

/-- Trains of the call's own, all from block lo on. -/
def Ln (w : World) (lo g : Nat) (ts : List Tn.Tr) : Prop := lo ≤ g ∧ g < w.heap.size ∧ ∀ i (h : i < ts.length), Tn.Nums w g (i * 5) ts[i].h ∧ ∃ gi, lo ≤ gi ∧ w.cell? ⟨g, i * 5 + 4, none⟩ = some (.slice (some ⟨gi, 0, none⟩) ts[i].l.length ts[i].l.length) ∧ Tn.Stops w (some ⟨gi, 0, none⟩) ts[i].l

theorem Ln.kp {w w1 : World} {lo g : Nat} {ts : List Tn.Tr} (h : Ln w lo g ts) (k : Kp lo w w1) : Ln w1 lo g ts := by
  obtain ⟨h1, h2, h3⟩ := h
  refine ⟨h1, Nat.lt_of_lt_of_le h2 k.1, fun i hi => ?_⟩
  obtain ⟨q, gi, q1, q2, q3⟩ := h3 i hi
  obtain ⟨n0, n1, n2, n3⟩ := q
  exact ⟨⟨by rw [k.2 ⟨g, i * 5, none⟩ h1 h2]; exact n0, by rw [k.2 ⟨g, i * 5 + 1, none⟩ h1 h2]; exact n1, by rw [k.2 ⟨g, i * 5 + 2, none⟩ h1 h2]; exact n2, by rw [k.2 ⟨g, i * 5 + 3, none⟩ h1 h2]; exact n3⟩, gi, q1, by rw [k.2 ⟨g, i * 5 + 4, none⟩ h1 h2]; exact q2, stops_kp q3 q1 k⟩

theorem Ln.mine {w : World} {lo lo' g : Nat} {ts : List Tn.Tr} (h : Tn.Mine w lo' g ts.length ts.length ts) (h1 : lo ≤ g) (h2 : g < w.heap.size) (h3 : lo ≤ lo') : Ln w lo g ts := by
  refine ⟨h1, h2, fun i hi => ?_⟩
  obtain ⟨q, gi, q1, q2, q3, q4, q5, q6⟩ := h.2 i hi hi
  exact ⟨q, gi, by omega, q4, q5⟩

theorem Ln.trains {w : World} {lo g : Nat} {ts : List Tn.Tr} (h : Ln w lo g ts) : Tn.Trains w (some ⟨g, 0, none⟩) ts := by
  obtain ⟨h1, h2, h3⟩ := h
  refine Or.inr ⟨g, 0, rfl, h2, fun i hi => ?_⟩
  obtain ⟨q, gi, q1, q2, q3⟩ := h3 i hi
  rw [Nat.zero_add]
  exact ⟨q, gi, 0, _, q2, q3⟩

/-- Orders of the call's own, all from block lo on. -/
def Os (w : World) (lo g : Nat) (ts : List Od.Oo) : Prop := lo ≤ g ∧ g < w.heap.size ∧ ∀ i (h : i < ts.length), Od.Nums w g (i * 9) ts[i].h ∧ ∃ gi, lo ≤ gi ∧ w.cell? ⟨g, i * 9 + 5, none⟩ = some (.slice (some ⟨gi, 0, none⟩) ts[i].l.length ts[i].l.length) ∧ Rd.Rides w (some ⟨gi, 0, none⟩) ts[i].l

theorem Os.kp {w w1 : World} {lo g : Nat} {ts : List Od.Oo} (h : Os w lo g ts) (k : Kp lo w w1) : Os w1 lo g ts := by
  obtain ⟨h1, h2, h3⟩ := h
  refine ⟨h1, Nat.lt_of_lt_of_le h2 k.1, fun i hi => ?_⟩
  obtain ⟨q, gi, q1, q2, q3⟩ := h3 i hi
  refine ⟨?_, gi, q1, by rw [k.2 ⟨g, i * 9 + 5, none⟩ h1 h2]; exact q2, rides_kp q3 q1 k⟩
  unfold Od.Nums at q ⊢
  rw [k.2 ⟨g, i * 9, none⟩ h1 h2, k.2 ⟨g, i * 9 + 1, none⟩ h1 h2, k.2 ⟨g, i * 9 + 2, none⟩ h1 h2, k.2 ⟨g, i * 9 + 3, none⟩ h1 h2, k.2 ⟨g, i * 9 + 4, none⟩ h1 h2, k.2 ⟨g, i * 9 + 6, none⟩ h1 h2, k.2 ⟨g, i * 9 + 7, none⟩ h1 h2, k.2 ⟨g, i * 9 + 8, none⟩ h1 h2]
  exact q

theorem Os.mine {w : World} {lo lo' g : Nat} {ts : List Od.Oo} (h : Od.Mine w lo' g ts.length ts.length ts) (h1 : lo ≤ g) (h2 : g < w.heap.size) (h3 : lo ≤ lo') : Os w lo g ts := by
  refine ⟨h1, h2, fun i hi => ?_⟩
  obtain ⟨q, gi, q1, q2, q3, q4, q5, q6⟩ := h.2 i hi hi
  exact ⟨q, gi, by omega, q4, q5⟩

theorem Os.orders {w : World} {lo g : Nat} {ts : List Od.Oo} (h : Os w lo g ts) : Od.Orders w (some ⟨g, 0, none⟩) ts := by
  obtain ⟨h1, h2, h3⟩ := h
  refine Or.inr ⟨g, 0, rfl, h2, fun i hi => ?_⟩
  obtain ⟨q, gi, q1, q2, q3⟩ := h3 i hi
  rw [Nat.zero_add]
  exact ⟨q, some ⟨gi, 0, none⟩, _, q2, q3⟩

theorem h_set {w : World} {c i : Nat} {cs : Array Value} {t : TypeId} {f : Nat × Nat} (h : w.heap[c]? = some (.cells cs t f)) (u : Value) : (w.setCell ⟨c, i, none⟩ u).heap[c]? = some (.cells (cs.setIfInBounds i u) t f) := by
  unfold World.setCell
  simp [Array.getElem?_modify, h]

theorem h_other {w : World} {c g i : Nat} {x : Obj} (h : w.heap[c]? = some x) (hne : c ≠ g) (u : Value) : (w.setCell ⟨g, i, none⟩ u).heap[c]? = some x := by
  rw [Below.heap_setCell w ⟨g, i, none⟩ u c hne]
  exact h

end Of
end Go.Proofs.YtmoinacceildcaaGreatDoor

/- Contracts of the laws' own helpers over lists of trains: their size, a copy, two of them held against each other. -/
import Derived.Test.YtaplbjoghkipdaaDoorTnTrn
namespace Go.Proofs.YtaplbjoghkipdaaDoor
namespace Tn
open Go.ChangeShapes Go.WideShapes Go.ChangeAt Go.RowKit Go.Joins
open Pk (new_below join_below cell_at heap_new frozen_at lt_of kept heap_old info_of Room)
set_option linter.unusedSimpArgs false
set_option linter.unusedVariables false

/-- A train. -/
structure Tr where
  h : Hd
  l : List St

/-- The four numbers of a train at a place. -/
def Nums (w : World) (b o : Nat) (t : Hd) : Prop := w.cell? ⟨b, o, none⟩ = some (.int .i64 t.id) ∧ w.cell? ⟨b, o + 1, none⟩ = some (.int .i64 t.dy) ∧ w.cell? ⟨b, o + 2, none⟩ = some (.int .i64 t.co) ∧ w.cell? ⟨b, o + 3, none⟩ = some (.int .i64 t.se)

theorem Nums.on {w w1 : World} {b o : Nat} {t : Hd} (h : Nums w b o t) (hc : ∀ i, w1.cell? ⟨b, i, none⟩ = w.cell? ⟨b, i, none⟩) : Nums w1 b o t := by
  unfold Nums
  rw [hc, hc, hc, hc]
  exact h

/-- A list of trains that came in. -/
def TrainsA (w : World) (a : Option Addr) (ts : List Tr) : Prop :=
  ts = [] ∨ ∃ b o, a = some ⟨b, o, none⟩ ∧ b < w.heap.size ∧ ∀ i (h : i < ts.length), Nums w b (o + i * 5) ts[i].h ∧ ∃ ai ci, w.cell? ⟨b, o + i * 5 + 4, none⟩ = some (.slice ai ts[i].l.length ci) ∧ Stops w ai ts[i].l

/-- A list of trains, none of whose stops are nil. -/
def Trains (w : World) (a : Option Addr) (ts : List Tr) : Prop :=
  ts = [] ∨ ∃ b o, a = some ⟨b, o, none⟩ ∧ b < w.heap.size ∧ ∀ i (h : i < ts.length), Nums w b (o + i * 5) ts[i].h ∧ ∃ bi oi ci, w.cell? ⟨b, o + i * 5 + 4, none⟩ = some (.slice (some ⟨bi, oi, none⟩) ts[i].l.length ci) ∧ Stops w (some ⟨bi, oi, none⟩) ts[i].l

theorem TrainsA.on {w w1 : World} {a : Option Addr} {ts : List Tr} (h : TrainsA w a ts) (L : Below w.heap.size w w1) : TrainsA w1 a ts := by
  rcases h with h | ⟨b, o, ha, hb, hc⟩
  · exact Or.inl h
  · refine Or.inr ⟨b, o, ha, Nat.lt_of_lt_of_le hb L.size, fun i hi => ?_⟩
    obtain ⟨h1, ai, ci, h2, h3⟩ := hc i hi
    exact ⟨h1.on fun j => L.cell (p := ⟨b, j, none⟩) hb, ai, ci, by rw [L.cell (p := ⟨b, o + i * 5 + 4, none⟩) hb]; exact h2, h3.on L⟩

theorem Trains.on {w w1 : World} {a : Option Addr} {ts : List Tr} (h : Trains w a ts) (L : Below w.heap.size w w1) : Trains w1 a ts := by
  rcases h with h | ⟨b, o, ha, hb, hc⟩
  · exact Or.inl h
  · refine Or.inr ⟨b, o, ha, Nat.lt_of_lt_of_le hb L.size, fun i hi => ?_⟩
    obtain ⟨h1, bi, oi, ci, h2, h3⟩ := hc i hi
    exact ⟨h1.on fun j => L.cell (p := ⟨b, j, none⟩) hb, bi, oi, ci, by rw [L.cell (p := ⟨b, o + i * 5 + 4, none⟩) hb]; exact h2, h3.on L⟩

theorem TrainsA.at {w : World} {a : Option Addr} {ts : List Tr} (h : TrainsA w a ts) (k : Nat) (hk : k < ts.length) : ∃ b o ai ci, a = some ⟨b, o, none⟩ ∧ b < w.heap.size ∧ w.cell? ⟨b, o + k * 5, none⟩ = some (.int .i64 ts[k].h.id) ∧ w.cell? ⟨b, o + k * 5 + 1, none⟩ = some (.int .i64 ts[k].h.dy) ∧ w.cell? ⟨b, o + k * 5 + 2, none⟩ = some (.int .i64 ts[k].h.co) ∧ w.cell? ⟨b, o + k * 5 + 3, none⟩ = some (.int .i64 ts[k].h.se) ∧ w.cell? ⟨b, o + k * 5 + 4, none⟩ = some (.slice ai ts[k].l.length ci) ∧ Stops w ai ts[k].l := by
  rcases h with h | ⟨b, o, ha, hb, hc⟩
  · subst h; simp at hk
  · obtain ⟨⟨h0, h1, h2, h3⟩, ai, ci, h4, h5⟩ := hc k hk
    exact ⟨b, o, ai, ci, ha, hb, h0, h1, h2, h3, h4, h5⟩

theorem Trains.at {w : World} {a : Option Addr} {ts : List Tr} (h : Trains w a ts) (k : Nat) (hk : k < ts.length) : ∃ b o bi oi ci, a = some ⟨b, o, none⟩ ∧ b < w.heap.size ∧ w.cell? ⟨b, o + k * 5, none⟩ = some (.int .i64 ts[k].h.id) ∧ w.cell? ⟨b, o + k * 5 + 1, none⟩ = some (.int .i64 ts[k].h.dy) ∧ w.cell? ⟨b, o + k * 5 + 2, none⟩ = some (.int .i64 ts[k].h.co) ∧ w.cell? ⟨b, o + k * 5 + 3, none⟩ = some (.int .i64 ts[k].h.se) ∧ w.cell? ⟨b, o + k * 5 + 4, none⟩ = some (.slice (some ⟨bi, oi, none⟩) ts[k].l.length ci) ∧ Stops w (some ⟨bi, oi, none⟩) ts[k].l := by
  rcases h with h | ⟨b, o, ha, hb, hc⟩
  · subst h; simp at hk
  · obtain ⟨⟨h0, h1, h2, h3⟩, bi, oi, ci, h4, h5⟩ := hc k hk
    exact ⟨b, o, bi, oi, ci, ha, hb, h0, h1, h2, h3, h4, h5⟩

/-- How many stops the first k trains have. -/
def sumTo (ts : List Tr) (k : Nat) : Nat := ((ts.take k).map fun t => t.l.length).sum

theorem sumTo_step (ts : List Tr) (k : Nat) (h : k < ts.length) : sumTo ts (k + 1) = sumTo ts k + ts[k].l.length := by
  unfold sumTo
  rw [List.take_succ_eq_append_getElem h, List.map_append, List.sum_append]
  simp

theorem sumTo_mono (ts : List Tr) (k j : Nat) (h : k ≤ j) : sumTo ts k ≤ sumTo ts j := by
  induction j with
  | zero => obtain rfl : k = 0 := by omega
            exact Nat.le_refl _
  | succ j ih =>
    by_cases e : k = j + 1
    · subst e; exact Nat.le_refl _
    · have := ih (by omega)
      by_cases hj : j < ts.length
      · rw [sumTo_step ts j hj]; omega
      · have e : sumTo ts (j + 1) = sumTo ts j := by unfold sumTo; rw [List.take_of_length_le (by omega), List.take_of_length_le (by omega)]
        omega

/-- How much a list of trains holds. -/
def bulk (ts : List Tr) : Nat := ts.length + sumTo ts ts.length

theorem bulk_le {ts : List Tr} (h : bulk ts ≤ 1048576) (k : Nat) (hk : k < ts.length) : ts.length ≤ 1048576 ∧ ts[k].l.length ≤ 1048576 := by
  unfold bulk at h
  have := sumTo_step ts k hk
  have := sumTo_mono ts (k + 1) ts.length (by omega)
  omega

end Tn
end Go.Proofs.YtaplbjoghkipdaaDoor

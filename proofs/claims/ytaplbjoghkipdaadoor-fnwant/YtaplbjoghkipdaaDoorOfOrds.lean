/- Contracts of the laws' own helpers over lists of orders: their size, a copy, two of them held against each other. -/
import Derived.Test.YtaplbjoghkipdaaDoorOfOrd
namespace Go.Proofs.YtaplbjoghkipdaaDoor
namespace Od
open Go.ChangeShapes Go.WideShapes Go.ChangeAt Go.RowKit Go.Joins
open Pk (new_below join_below cell_at heap_new frozen_at lt_of kept heap_old info_of Room)
open Rd (Ri Rides)
set_option linter.unusedSimpArgs false
set_option linter.unusedVariables false

/-- All of an order but its rides, at a place. -/
def Nums (w : World) (b o : Nat) (t : Hd) : Prop := w.cell? ⟨b, o, none⟩ = some (.int .i64 t.id) ∧ w.cell? ⟨b, o + 1, none⟩ = some (.int .i64 t.st) ∧ w.cell? ⟨b, o + 2, none⟩ = some (.string t.nm) ∧ w.cell? ⟨b, o + 3, none⟩ = some (.int .i64 t.cl) ∧ w.cell? ⟨b, o + 4, none⟩ = some (.int .i64 t.ca) ∧ w.cell? ⟨b, o + 6, none⟩ = some (.int .i64 t.pr) ∧ w.cell? ⟨b, o + 7, none⟩ = some (.int .i64 t.pa) ∧ w.cell? ⟨b, o + 8, none⟩ = some (.int .i64 t.fi)

theorem Nums.on {w w1 : World} {b o : Nat} {t : Hd} (h : Nums w b o t) (hc : ∀ i, w1.cell? ⟨b, i, none⟩ = w.cell? ⟨b, i, none⟩) : Nums w1 b o t := by
  unfold Nums
  rw [hc, hc, hc, hc, hc, hc, hc, hc]
  exact h

/-- A list of orders. -/
def Orders (w : World) (a : Option Addr) (ts : List Oo) : Prop :=
  ts = [] ∨ ∃ b o, a = some ⟨b, o, none⟩ ∧ b < w.heap.size ∧ ∀ i (h : i < ts.length), Nums w b (o + i * 9) ts[i].h ∧ ∃ ai ci, w.cell? ⟨b, o + i * 9 + 5, none⟩ = some (.slice ai ts[i].l.length ci) ∧ Rides w ai ts[i].l

theorem Orders.on {w w1 : World} {a : Option Addr} {ts : List Oo} (h : Orders w a ts) (L : Below w.heap.size w w1) : Orders w1 a ts := by
  rcases h with h | ⟨b, o, ha, hb, hc⟩
  · exact Or.inl h
  · refine Or.inr ⟨b, o, ha, Nat.lt_of_lt_of_le hb L.size, fun i hi => ?_⟩
    obtain ⟨h1, ai, ci, h2, h3⟩ := hc i hi
    exact ⟨h1.on fun j => L.cell (p := ⟨b, j, none⟩) hb, ai, ci, by rw [L.cell (p := ⟨b, o + i * 9 + 5, none⟩) hb]; exact h2, h3.on L⟩

theorem Orders.at {w : World} {a : Option Addr} {ts : List Oo} (h : Orders w a ts) (k : Nat) (hk : k < ts.length) : ∃ b o ai ci, a = some ⟨b, o, none⟩ ∧ b < w.heap.size ∧ w.cell? ⟨b, o + k * 9, none⟩ = some (.int .i64 ts[k].h.id) ∧ w.cell? ⟨b, o + k * 9 + 1, none⟩ = some (.int .i64 ts[k].h.st) ∧ w.cell? ⟨b, o + k * 9 + 2, none⟩ = some (.string ts[k].h.nm) ∧ w.cell? ⟨b, o + k * 9 + 3, none⟩ = some (.int .i64 ts[k].h.cl) ∧ w.cell? ⟨b, o + k * 9 + 4, none⟩ = some (.int .i64 ts[k].h.ca) ∧ w.cell? ⟨b, o + k * 9 + 6, none⟩ = some (.int .i64 ts[k].h.pr) ∧ w.cell? ⟨b, o + k * 9 + 7, none⟩ = some (.int .i64 ts[k].h.pa) ∧ w.cell? ⟨b, o + k * 9 + 8, none⟩ = some (.int .i64 ts[k].h.fi) ∧ w.cell? ⟨b, o + k * 9 + 5, none⟩ = some (.slice ai ts[k].l.length ci) ∧ Rides w ai ts[k].l := by
  rcases h with h | ⟨b, o, ha, hb, hc⟩
  · subst h; simp at hk
  · obtain ⟨⟨h0, h1, h2, h3, h4, h6, h7, h8⟩, ai, ci, h5, h9⟩ := hc k hk
    exact ⟨b, o, ai, ci, ha, hb, h0, h1, h2, h3, h4, h6, h7, h8, h5, h9⟩

/-- What an order holds. -/
def Oo.sz (t : Oo) : Nat := t.h.nm.size + t.l.length

/-- What the first k orders hold. -/
def sumTo (ts : List Oo) (k : Nat) : Nat := ((ts.take k).map Oo.sz).sum

theorem sumTo_step (ts : List Oo) (k : Nat) (h : k < ts.length) : sumTo ts (k + 1) = sumTo ts k + ts[k].sz := by
  unfold sumTo
  rw [List.take_succ_eq_append_getElem h, List.map_append, List.sum_append]
  simp

theorem sumTo_mono (ts : List Oo) (k j : Nat) (h : k ≤ j) : sumTo ts k ≤ sumTo ts j := by
  induction j with
  | zero => obtain rfl : k = 0 := by omega
            exact Nat.le_refl _
  | succ j ih =>
    by_cases e : k = j + 1
    · subst e; exact Nat.le_refl _
    · have := ih (by omega)
      by_cases hj : j < ts.length
      · rw [sumTo_step ts j hj]; omega
      · have e : sumTo ts (j + 1) = sumTo ts j := by unfold sumTo; rw [List.take_of_length_le (by omega), List.take_of_length_le (by omega)]
        omega

/-- How much a list of orders holds. -/
def bulk (ts : List Oo) : Nat := ts.length + sumTo ts ts.length

theorem bulk_le {ts : List Oo} (h : bulk ts ≤ 1048576) (k : Nat) (hk : k < ts.length) : ts.length ≤ 1048576 ∧ ts[k].l.length ≤ 1048576 := by
  unfold bulk at h
  have := sumTo_step ts k hk
  have := sumTo_mono ts (k + 1) ts.length (by omega)
  have : ts[k].sz = ts[k].h.nm.size + ts[k].l.length := rfl
  omega

end Od
end Go.Proofs.YtaplbjoghkipdaaDoor

/- Rows of rides of one's own. -/
import Derived.Test.YtdfejmaekdgcdasDoorTnRides
import Derived.Test.YtdfejmaekdgcdasDoorTkTic
namespace Go.Proofs.YtdfejmaekdgcdasDoor
namespace Wn
open Go.ChangeShapes Go.WideShapes Go.ChangeAt Go.RowKit
open Pk (own_at own_ge own_below own_form info_of new_below join_below heap_new lt_of kept cell_at heap_old frozen_at)
open Rd (Ri Rides)
set_option linter.unusedSimpArgs false
set_option linter.unusedVariables false

def qc1 (p : Ri) : List Value := [.int .i64 p.tr, .int .i64 p.dy, .int .i64 p.fr, .int .i64 p.to]
def qcells (l : List Ri) : List Value := l.flatMap qc1

theorem qcells_cons (p : Ri) (l : List Ri) : qcells (p :: l) = qc1 p ++ qcells l := rfl
theorem qcells_snoc (l : List Ri) (p : Ri) : qcells l ++ qc1 p = qcells (l ++ [p]) := by simp [qcells]
theorem qc1_length (p : Ri) : (qc1 p).length = 4 := rfl
theorem qcells_length (l : List Ri) : (qcells l).length = l.length * 4 := by
  induction l with
  | nil => rfl
  | cons p l ih => rw [qcells_cons, List.length_append, ih, List.length_cons, qc1_length]; omega

theorem qcells_get (l : List Ri) (k c : Nat) (hk : k < l.length) (hc : c < 4) : (qcells l)[k * 4 + c]? = (qc1 l[k])[c]? := by
  induction l generalizing k with
  | nil => simp at hk
  | cons p l ih =>
    rw [qcells_cons]
    cases k with
    | zero =>
      rw [List.getElem?_append_left (by rw [qc1_length]; omega)]
      simp
    | succ k =>
      rw [List.getElem?_append_right (by rw [qc1_length]; omega), qc1_length, show (k + 1) * 4 + c - 4 = k * 4 + c by omega, ih k (by simpa using hk)]
      simp

/-- The cells of a row of one's own. -/
theorem own_cell {w : World} {base e n z : Nat} {v : Value} {xs : List Value} (h : w.ownsRow base e z v n xs) (hn : 0 < n) :
    ∃ g cap, v = .slice (some ⟨g, 0, none⟩) n cap ∧ base ≤ g ∧ g < w.heap.size ∧ (∀ i u, xs[i]? = some u → w.cell? ⟨g, i, none⟩ = some u) ∧ ∀ i, w.frozen? ⟨g, i, none⟩ = false := by
  obtain ⟨hl, h2⟩ := h
  rcases h2 with ⟨hv, h0⟩ | ⟨g, cap, cur, hv, hg, hh, h1, h3, h4, h5⟩
  · omega
  · refine ⟨g, cap, hv, hg, lt_of hh, fun i u hu => ?_, fun i => frozen_at hh i⟩
    rw [cell_at hh]
    have hx := (List.getElem?_eq_some_iff.1 hu).1
    have h6 : (cur.toList.take (n * z))[i]? = xs[i]? := by rw [h5]
    rw [List.getElem?_take, if_pos (by omega), Array.getElem?_toList] at h6
    rw [h6]
    exact hu

/-- A row of rides of one's own is a slice of them. -/
theorem own_rides {w : World} {base e : Nat} {v : Value} {l : List Ri} (h : w.ownsRow base e 4 v l.length (qcells l)) : ∃ a cap, v = .slice a l.length cap ∧ Rides w a l := by
  by_cases h0 : l.length = 0
  · obtain ⟨a, cap, hv, -⟩ := own_form h
    exact ⟨a, cap, hv, Or.inl (List.eq_nil_of_length_eq_zero h0)⟩
  · obtain ⟨g, cap, hv, -, hg, hc, -⟩ := own_cell h (by omega)
    refine ⟨_, cap, hv, Or.inr ⟨g, 0, rfl, hg, fun i hi => ?_⟩⟩
    rw [Nat.zero_add]
    exact ⟨hc (i * 4) _ ((qcells_get l i 0 hi (by omega)).trans rfl), hc (i * 4 + 1) _ ((qcells_get l i 1 hi (by omega)).trans rfl), hc (i * 4 + 2) _ ((qcells_get l i 2 hi (by omega)).trans rfl), hc (i * 4 + 3) _ ((qcells_get l i 3 hi (by omega)).trans rfl)⟩

theorem own_off {w : World} {base e z g n cap b i : Nat} {xs : List Value} (h : w.ownsRow base e z (.slice (some ⟨g, 0, none⟩) n cap) n xs) (hne : g ≠ b) (u : Value) : (w.setCell ⟨b, i, none⟩ u).ownsRow base e z (.slice (some ⟨g, 0, none⟩) n cap) n xs := by
  obtain ⟨hl, h2⟩ := h
  refine ⟨hl, ?_⟩
  rcases h2 with ⟨hv, -⟩ | ⟨g', cap', cur, hv, hg, hh, h1, h3, h4, h5⟩
  · cases hv
  · simp only [Value.slice.injEq, Option.some.injEq, Addr.mk.injEq] at hv
    obtain ⟨⟨rfl, -⟩, -, rfl⟩ := hv
    exact Or.inr ⟨g, cap, cur, rfl, hg, Tk.h_other hh hne u, h1, h3, h4, h5⟩

theorem own_offv {w : World} {base e z n b i : Nat} {v : Value} {xs : List Value} (h : w.ownsRow base e z v n xs) (hne : v.ownBlock ≠ some b) (u : Value) : (w.setCell ⟨b, i, none⟩ u).ownsRow base e z v n xs := by
  obtain ⟨hl, h2⟩ := h
  refine ⟨hl, ?_⟩
  rcases h2 with h2 | ⟨g', cap', cur, hv, hg, hh, h1, h3, h4, h5⟩
  · exact Or.inl h2
  · subst hv
    have hne2 : g' ≠ b := fun e => hne (by rw [e]; rfl)
    exact Or.inr ⟨g', cap', cur, rfl, hg, Tk.h_other hh hne2 u, h1, h3, h4, h5⟩

end Wn
end Go.Proofs.YtdfejmaekdgcdasDoor

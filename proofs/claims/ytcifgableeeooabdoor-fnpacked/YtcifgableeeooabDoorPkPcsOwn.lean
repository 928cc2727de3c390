/- Contracts of the laws' own helpers over rows of pieces that a function has made: one marked, one held against its marks. -/
import Derived.Test.YtcifgableeeooabDoorPkPiecesI
namespace Go.Proofs.YtcifgableeeooabDoor
namespace Pk
open Go.ChangeShapes Go.WideShapes Go.ChangeAt Go.RowKit
open Math (Pc)
set_option linter.unusedSimpArgs false
set_option linter.unusedVariables false

theorem own_setn {w : World} {base e g n cap i size : Nat} {xs : List Value} (h : w.ownsRow base e size (.slice (some ⟨g, 0, none⟩) n cap) n xs) (u : Value) : (w.setCell ⟨g, i, none⟩ u).ownsRow base e size (.slice (some ⟨g, 0, none⟩) n cap) n (xs.set i u) := by
  obtain ⟨hl, h2⟩ := h
  rcases h2 with ⟨hv, -⟩ | ⟨g', cap', cur, hv, hg, hh, h1, h3, h4, h5⟩
  · cases hv
  · simp only [Value.slice.injEq, Option.some.injEq, Addr.mk.injEq] at hv
    obtain ⟨⟨rfl, -⟩, -, rfl⟩ := hv
    refine ⟨by rw [List.length_set]; exact hl, Or.inr ⟨g, cap, _, rfl, hg, heap_set hh u, h1, h3, by rw [Array.size_setIfInBounds]; exact h4, ?_⟩⟩
    rw [Array.toList_setIfInBounds, ← h5, List.take_set]

theorem pcells_cons (p : Pc) (l : List Pc) : pcells (p :: l) = .int .i64 p.x :: .int .i64 p.n :: .int .i64 p.d :: pcells l := by simp [pcells]

theorem pcells_at (l : List Pc) (k : Nat) (p : Pc) (h : l[k]? = some p) : (pcells l)[k * 3]? = some (.int .i64 p.x) ∧ (pcells l)[k * 3 + 1]? = some (.int .i64 p.n) ∧ (pcells l)[k * 3 + 2]? = some (.int .i64 p.d) := by
  induction l generalizing k with
  | nil => simp at h
  | cons q l ih =>
    rw [pcells_cons]
    cases k with
    | zero =>
      simp at h
      subst h
      exact ⟨rfl, rfl, rfl⟩
    | succ k =>
      have := ih k (by simpa using h)
      rw [show (k + 1) * 3 = k * 3 + 3 by omega]
      exact this

theorem pcells_set (l : List Pc) (k : Nat) (p : Pc) (h : k < l.length) : (((pcells l).set (k * 3) (.int .i64 p.x)).set (k * 3 + 1) (.int .i64 p.n)).set (k * 3 + 2) (.int .i64 p.d) = pcells (l.set k p) := by
  induction l generalizing k with
  | nil => simp at h
  | cons q l ih =>
    cases k with
    | zero => simp [pcells_cons]
    | succ k =>
      rw [pcells_cons, List.set_cons_succ, pcells_cons, ← ih k (by simpa using h), show (k + 1) * 3 = k * 3 + 3 by omega]
      rfl

/-- The cells of a row of pieces. -/
theorem own_pc {w : World} {base : Nat} {v : Value} {n : Nat} {l : List Pc} (h : w.ownsRow base 84 3 v n (pcells l)) (k : Nat) (hk : k < n) (p : Pc) (hp : l[k]? = some p) :
    ∃ g cap, v = .slice (some ⟨g, 0, none⟩) n cap ∧ base ≤ g ∧ g < w.heap.size ∧ w.cell? ⟨g, k * 3, none⟩ = some (.int .i64 p.x) ∧ w.cell? ⟨g, k * 3 + 1, none⟩ = some (.int .i64 p.n) ∧ w.cell? ⟨g, k * 3 + 2, none⟩ = some (.int .i64 p.d) ∧ ∀ o, w.frozen? ⟨g, o, none⟩ = false := by
  obtain ⟨hl, h2⟩ := h
  rcases h2 with ⟨hv, h0⟩ | ⟨g, cap, cur, hv, hg, hh, h1, h3, h4, h5⟩
  · omega
  · obtain ⟨a0, a1, a2⟩ := pcells_at l k p hp
    have hc : ∀ o, o < n * 3 → w.cell? ⟨g, o, none⟩ = (pcells l)[o]? := by
      intro o ho
      rw [cell_at hh, ← h5, List.getElem?_take, if_pos ho, Array.getElem?_toList]
    exact ⟨g, cap, hv, hg, lt_of hh, by rw [hc _ (by omega)]; exact a0, by rw [hc _ (by omega)]; exact a1, by rw [hc _ (by omega)]; exact a2, fun o => frozen_at hh o⟩

theorem pcs_own {w : World} {base : Nat} {a : Option Addr} {cap : Nat} {l : List Pc} (h : w.ownsRow base 84 3 (.slice a l.length cap) l.length (pcells l)) : Pcs w a l := by
  by_cases h0 : l = []
  · exact Or.inl h0
  · have hpos : 0 < l.length := List.length_pos_iff.2 h0
    obtain ⟨g, cp, he, -, hg, -⟩ := own_pc h 0 hpos l[0] (List.getElem?_eq_getElem hpos)
    simp only [Value.slice.injEq] at he
    obtain ⟨rfl, -, -⟩ := he
    refine Or.inr ⟨g, 0, rfl, hg, fun i hi => ?_⟩
    obtain ⟨g', cp', he', -, -, c0, c1, c2, -⟩ := own_pc h i hi l[i] (List.getElem?_eq_getElem hi)
    simp only [Value.slice.injEq, Option.some.injEq, Addr.mk.injEq] at he'
    obtain ⟨⟨rfl, -⟩, -⟩ := he'
    rw [Nat.zero_add]
    exact ⟨c0, c1, c2⟩

theorem pcsFrom_length (s : ByteArray) (f i : Nat) : (Math.pcsFrom s f i).length ≤ f := by
  induction f generalizing i with
  | zero => simp [Math.pcsFrom]
  | succ f ih =>
    unfold Math.pcsFrom
    split
    · rw [List.length_cons]
      have := ih (i + Math.stepAt s i)
      omega
    · simp

theorem pieces_length (s : ByteArray) : (Math.pieces s).length ≤ 3000 := by
  unfold Math.pieces
  split
  · have := pcsFrom_length s s.size 0
    omega
  · simp

theorem own_keep' {w w1 : World} {B base e size : Nat} {v : Value} {n : Nat} {xs : List Value} (h : w.ownsRow base e size v n xs) (L : Below B w w1) (hlt : ∀ k, v.ownBlock = some k → k < B) : w1.ownsRow base e size v n xs := by
  obtain ⟨h1, h2⟩ := h
  refine ⟨h1, ?_⟩
  rcases h2 with h2 | ⟨g, cap, cur, hv, hg, hh, hr⟩
  · exact Or.inl h2
  · exact Or.inr ⟨g, cap, cur, hv, hg, kept L (hlt g (by rw [hv]; rfl)) hh, hr⟩

/-- A mark. -/
def mk (i : Nat) : Pc := ⟨(i : Int) * 3 + 1, (i : Int) * 3 + 2, (i : Int) * 3 + 3⟩

/-- A row of which the first k are marked. -/
def markedP (l : List Pc) (k : Nat) : List Pc := (List.range k).map mk ++ l.drop k

theorem markedP_set (l : List Pc) (k : Nat) (h : k < l.length) : (markedP l k).set k (mk k) = markedP l (k + 1) := by
  unfold markedP
  rw [List.set_append_right _ _ (by simp)]
  simp only [List.length_map, List.length_range, Nat.sub_self]
  rw [List.drop_eq_getElem_cons h, List.set_cons_zero, List.range_succ, List.map_append]
  simp

theorem markedP_length (l : List Pc) (k : Nat) (h : k ≤ l.length) : (markedP l k).length = l.length := by
  unfold markedP
  simp
  omega

theorem markedP_at (l : List Pc) (k : Nat) (h : k < l.length) : (markedP l l.length)[k]? = some (mk k) := by
  unfold markedP
  rw [List.getElem?_append_left (by simp; exact h)]
  simp [h]

end Pk
end Go.Proofs.YtcifgableeeooabDoor

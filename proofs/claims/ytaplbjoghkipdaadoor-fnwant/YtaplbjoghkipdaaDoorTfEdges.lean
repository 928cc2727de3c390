/- Contracts of the laws' own helpers over edges: a copy of a slice of them, and two such slices held against each other. -/
import Derived.Test.YtaplbjoghkipdaaDoorPkRow
namespace Go.Proofs.YtaplbjoghkipdaaDoor
namespace Tf
open Go.ChangeShapes Go.WideShapes Go.ChangeAt Go.RowKit
open Pk (new_below join_below cell_at heap_new frozen_at lt_of kept info_of own_form own_below)
set_option linter.unusedSimpArgs false
set_option linter.unusedVariables false

/-- One of edges. -/
structure Ed where
  ea : Int
  eb : Int
  co : Int

/-- It as a value. -/
abbrev lgV (p : Ed) : Value := .agg #[.int .i64 p.ea, .int .i64 p.eb, .int .i64 p.co]

/-- A slice of them. -/
def Edges (w : World) (a : Option Addr) (ps : List Ed) : Prop :=
  ps = [] ∨ ∃ b o, a = some ⟨b, o, none⟩ ∧ b < w.heap.size ∧ ∀ i (h : i < ps.length), w.cell? ⟨b, o + i * 3, none⟩ = some (.int .i64 ps[i].ea) ∧ w.cell? ⟨b, o + i * 3 + 1, none⟩ = some (.int .i64 ps[i].eb) ∧ w.cell? ⟨b, o + i * 3 + 2, none⟩ = some (.int .i64 ps[i].co)

theorem Edges.on {w w1 : World} {a : Option Addr} {ps : List Ed} (h : Edges w a ps) (L : Below w.heap.size w w1) : Edges w1 a ps := by
  rcases h with h | ⟨b, o, ha, hb, hc⟩
  · exact Or.inl h
  · exact Or.inr ⟨b, o, ha, Nat.lt_of_lt_of_le hb L.size, fun i hi => by rw [L.cell (p := ⟨b, o + i * 3, none⟩) hb, L.cell (p := ⟨b, o + i * 3 + 1, none⟩) hb, L.cell (p := ⟨b, o + i * 3 + 2, none⟩) hb]; exact hc i hi⟩

theorem Edges.at {w : World} {a : Option Addr} {ps : List Ed} (h : Edges w a ps) (k : Nat) (hk : k < ps.length) : ∃ b o, a = some ⟨b, o, none⟩ ∧ b < w.heap.size ∧ w.cell? ⟨b, o + k * 3, none⟩ = some (.int .i64 ps[k].ea) ∧ w.cell? ⟨b, o + k * 3 + 1, none⟩ = some (.int .i64 ps[k].eb) ∧ w.cell? ⟨b, o + k * 3 + 2, none⟩ = some (.int .i64 ps[k].co) := by
  rcases h with h | ⟨b, o, ha, hb, hc⟩
  · subst h; simp at hk
  · exact ⟨b, o, ha, hb, hc k hk⟩

theorem info_edge : (Tryd.prog.info? 95).map (fun i => (i.zero, i.size, i.bytes)) = some (some (lgV ⟨0, 0, 0⟩), 3, 24) := by kernel_rfl

/-- The first k of block g are laid; all n can be written. -/
def Laidedge (w : World) (g n k : Nat) (ps : List Ed) : Prop := (∀ j, j < n * 3 → (∃ v, w.cell? ⟨g, j, none⟩ = some v) ∧ w.frozen? ⟨g, j, none⟩ = false) ∧
  ∀ i (h : i < ps.length), i < k → w.cell? ⟨g, i * 3, none⟩ = some (.int .i64 ps[i].ea) ∧ w.cell? ⟨g, i * 3 + 1, none⟩ = some (.int .i64 ps[i].eb) ∧ w.cell? ⟨g, i * 3 + 2, none⟩ = some (.int .i64 ps[i].co)

theorem set_cell {w : World} {g i j : Nat} {u v : Value} (h : w.cell? ⟨g, i, none⟩ = some v) : (w.setCell ⟨g, j, none⟩ u).cell? ⟨g, i, none⟩ = some (if i = j then u else v) := by
  by_cases e : i = j
  · subst e
    rw [if_pos rfl]
    exact World.cell?_setCell_same _ _ _ h
  · rw [if_neg e, World.cell?_setCell_other _ _ _ _ (by intro h; apply e; simpa using h.symm)]
    exact h

/-- Its cells written. -/
def setedge (w : World) (g j : Nat) (p : Ed) : World := ((w.setCell ⟨g, j, none⟩ (.int .i64 p.ea)).setCell ⟨g, j + 1, none⟩ (.int .i64 p.eb)).setCell ⟨g, j + 2, none⟩ (.int .i64 p.co)

theorem setedge_cell {w : World} {g i j : Nat} {p : Ed} {v : Value} (h : w.cell? ⟨g, i, none⟩ = some v) : (setedge w g j p).cell? ⟨g, i, none⟩ = some (if i = j + 2 then .int .i64 p.co else if i = j + 1 then .int .i64 p.eb else if i = j then .int .i64 p.ea else v) := set_cell (set_cell (set_cell h))

theorem Laidedge.on {w w1 : World} {g n k : Nat} {ps : List Ed} (h : Laidedge w g n k ps) {B : Nat} (L : Below B w w1) (hg : g < B) : Laidedge w1 g n k ps := by
  refine ⟨fun j hj => ?_, fun i hi hk => ?_⟩
  · rw [L.cell (p := ⟨g, j, none⟩) hg, L.frozen (p := ⟨g, j, none⟩) hg]
    exact h.1 j hj
  · rw [L.cell (p := ⟨g, i * 3, none⟩) hg, L.cell (p := ⟨g, i * 3 + 1, none⟩) hg, L.cell (p := ⟨g, i * 3 + 2, none⟩) hg]
    exact h.2 i hi hk

theorem Laidedge.step {w : World} {g n k : Nat} {ps : List Ed} (h : Laidedge w g n k ps) (hk : k < n) (hkp : k < ps.length) : Laidedge (setedge w g (k * 3) ps[k]) g n (k + 1) ps := by
  refine ⟨fun j hj => ?_, fun i hi hik => ?_⟩
  · obtain ⟨⟨v, hv⟩, hf⟩ := h.1 j hj
    exact ⟨⟨_, setedge_cell hv⟩, by unfold setedge; rw [World.frozen?_setCell, World.frozen?_setCell, World.frozen?_setCell]; exact hf⟩
  · by_cases e : i = k
    · subst e
      obtain ⟨⟨v0, h0⟩, -⟩ := h.1 (i * 3) (by omega)
      obtain ⟨⟨v1, h1⟩, -⟩ := h.1 (i * 3 + 1) (by omega)
      obtain ⟨⟨v2, h2⟩, -⟩ := h.1 (i * 3 + 2) (by omega)
      rw [setedge_cell h0, setedge_cell h1, setedge_cell h2]
      simp
    · obtain ⟨h0, h1, h2⟩ := h.2 i hi (by omega)
      rw [setedge_cell h0, setedge_cell h1, setedge_cell h2]
      rw [if_neg (by omega), if_neg (by omega), if_neg (by omega), if_neg (by omega), if_neg (by omega), if_neg (by omega), if_neg (by omega), if_neg (by omega), if_neg (by omega)]
      exact ⟨rfl, rfl, rfl⟩

theorem Laidedge.all {w : World} {g : Nat} {ps : List Ed} (h : Laidedge w g ps.length ps.length ps) (hg : g < w.heap.size) : Edges w (some ⟨g, 0, none⟩) ps :=
  Or.inr ⟨g, 0, rfl, hg, fun i hi => by rw [Nat.zero_add]; exact h.2 i hi hi⟩

end Tf
end Go.Proofs.YtaplbjoghkipdaaDoor

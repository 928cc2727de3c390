/- Contracts of the laws' own helpers over holds: a copy of a slice of them, and two such slices held against each other. -/
import Derived.Test.YtaplbjoghkipdaaDoorPkRow
namespace Go.Proofs.YtaplbjoghkipdaaDoor
namespace Se
open Go.ChangeShapes Go.WideShapes Go.ChangeAt Go.RowKit
open Pk (new_below join_below cell_at heap_new frozen_at lt_of kept info_of own_form own_below)
set_option linter.unusedSimpArgs false
set_option linter.unusedVariables false

/-- One of holds. -/
structure Hl where
  tr : Int
  dy : Int
  co : Int
  se : Int
  ba : Int
  be : Int
  od : Int

/-- It as a value. -/
abbrev lgV (p : Hl) : Value := .agg #[.int .i64 p.tr, .int .i64 p.dy, .int .i64 p.co, .int .i64 p.se, .int .i64 p.ba, .int .i64 p.be, .int .i64 p.od]

/-- A slice of them. -/
def Holds (w : World) (a : Option Addr) (ps : List Hl) : Prop :=
  ps = [] ∨ ∃ b o, a = some ⟨b, o, none⟩ ∧ b < w.heap.size ∧ ∀ i (h : i < ps.length), w.cell? ⟨b, o + i * 7, none⟩ = some (.int .i64 ps[i].tr) ∧ w.cell? ⟨b, o + i * 7 + 1, none⟩ = some (.int .i64 ps[i].dy) ∧ w.cell? ⟨b, o + i * 7 + 2, none⟩ = some (.int .i64 ps[i].co) ∧ w.cell? ⟨b, o + i * 7 + 3, none⟩ = some (.int .i64 ps[i].se) ∧ w.cell? ⟨b, o + i * 7 + 4, none⟩ = some (.int .i64 ps[i].ba) ∧ w.cell? ⟨b, o + i * 7 + 5, none⟩ = some (.int .i64 ps[i].be) ∧ w.cell? ⟨b, o + i * 7 + 6, none⟩ = some (.int .i64 ps[i].od)

theorem Holds.on {w w1 : World} {a : Option Addr} {ps : List Hl} (h : Holds w a ps) (L : Below w.heap.size w w1) : Holds w1 a ps := by
  rcases h with h | ⟨b, o, ha, hb, hc⟩
  · exact Or.inl h
  · exact Or.inr ⟨b, o, ha, Nat.lt_of_lt_of_le hb L.size, fun i hi => by rw [L.cell (p := ⟨b, o + i * 7, none⟩) hb, L.cell (p := ⟨b, o + i * 7 + 1, none⟩) hb, L.cell (p := ⟨b, o + i * 7 + 2, none⟩) hb, L.cell (p := ⟨b, o + i * 7 + 3, none⟩) hb, L.cell (p := ⟨b, o + i * 7 + 4, none⟩) hb, L.cell (p := ⟨b, o + i * 7 + 5, none⟩) hb, L.cell (p := ⟨b, o + i * 7 + 6, none⟩) hb]; exact hc i hi⟩

theorem Holds.at {w : World} {a : Option Addr} {ps : List Hl} (h : Holds w a ps) (k : Nat) (hk : k < ps.length) : ∃ b o, a = some ⟨b, o, none⟩ ∧ b < w.heap.size ∧ w.cell? ⟨b, o + k * 7, none⟩ = some (.int .i64 ps[k].tr) ∧ w.cell? ⟨b, o + k * 7 + 1, none⟩ = some (.int .i64 ps[k].dy) ∧ w.cell? ⟨b, o + k * 7 + 2, none⟩ = some (.int .i64 ps[k].co) ∧ w.cell? ⟨b, o + k * 7 + 3, none⟩ = some (.int .i64 ps[k].se) ∧ w.cell? ⟨b, o + k * 7 + 4, none⟩ = some (.int .i64 ps[k].ba) ∧ w.cell? ⟨b, o + k * 7 + 5, none⟩ = some (.int .i64 ps[k].be) ∧ w.cell? ⟨b, o + k * 7 + 6, none⟩ = some (.int .i64 ps[k].od) := by
  rcases h with h | ⟨b, o, ha, hb, hc⟩
  · subst h; simp at hk
  · exact ⟨b, o, ha, hb, hc k hk⟩

theorem info_hold : (Tryd.prog.info? 139).map (fun i => (i.zero, i.size, i.bytes)) = some (some (lgV ⟨0, 0, 0, 0, 0, 0, 0⟩), 7, 56) := by kernel_rfl

/-- The first k of block g are laid; all n can be written. -/
def Laidhold (w : World) (g n k : Nat) (ps : List Hl) : Prop := (∀ j, j < n * 7 → (∃ v, w.cell? ⟨g, j, none⟩ = some v) ∧ w.frozen? ⟨g, j, none⟩ = false) ∧
  ∀ i (h : i < ps.length), i < k → w.cell? ⟨g, i * 7, none⟩ = some (.int .i64 ps[i].tr) ∧ w.cell? ⟨g, i * 7 + 1, none⟩ = some (.int .i64 ps[i].dy) ∧ w.cell? ⟨g, i * 7 + 2, none⟩ = some (.int .i64 ps[i].co) ∧ w.cell? ⟨g, i * 7 + 3, none⟩ = some (.int .i64 ps[i].se) ∧ w.cell? ⟨g, i * 7 + 4, none⟩ = some (.int .i64 ps[i].ba) ∧ w.cell? ⟨g, i * 7 + 5, none⟩ = some (.int .i64 ps[i].be) ∧ w.cell? ⟨g, i * 7 + 6, none⟩ = some (.int .i64 ps[i].od)

theorem set_cell {w : World} {g i j : Nat} {u v : Value} (h : w.cell? ⟨g, i, none⟩ = some v) : (w.setCell ⟨g, j, none⟩ u).cell? ⟨g, i, none⟩ = some (if i = j then u else v) := by
  by_cases e : i = j
  · subst e
    rw [if_pos rfl]
    exact World.cell?_setCell_same _ _ _ h
  · rw [if_neg e, World.cell?_setCell_other _ _ _ _ (by intro h; apply e; simpa using h.symm)]
    exact h

/-- Its cells written. -/
def sethold (w : World) (g j : Nat) (p : Hl) : World := ((((((w.setCell ⟨g, j, none⟩ (.int .i64 p.tr)).setCell ⟨g, j + 1, none⟩ (.int .i64 p.dy)).setCell ⟨g, j + 2, none⟩ (.int .i64 p.co)).setCell ⟨g, j + 3, none⟩ (.int .i64 p.se)).setCell ⟨g, j + 4, none⟩ (.int .i64 p.ba)).setCell ⟨g, j + 5, none⟩ (.int .i64 p.be)).setCell ⟨g, j + 6, none⟩ (.int .i64 p.od)

theorem sethold_cell {w : World} {g i j : Nat} {p : Hl} {v : Value} (h : w.cell? ⟨g, i, none⟩ = some v) : (sethold w g j p).cell? ⟨g, i, none⟩ = some (if i = j + 6 then .int .i64 p.od else if i = j + 5 then .int .i64 p.be else if i = j + 4 then .int .i64 p.ba else if i = j + 3 then .int .i64 p.se else if i = j + 2 then .int .i64 p.co else if i = j + 1 then .int .i64 p.dy else if i = j then .int .i64 p.tr else v) := set_cell (set_cell (set_cell (set_cell (set_cell (set_cell (set_cell h))))))

theorem Laidhold.on {w w1 : World} {g n k : Nat} {ps : List Hl} (h : Laidhold w g n k ps) {B : Nat} (L : Below B w w1) (hg : g < B) : Laidhold w1 g n k ps := by
  refine ⟨fun j hj => ?_, fun i hi hk => ?_⟩
  · rw [L.cell (p := ⟨g, j, none⟩) hg, L.frozen (p := ⟨g, j, none⟩) hg]
    exact h.1 j hj
  · rw [L.cell (p := ⟨g, i * 7, none⟩) hg, L.cell (p := ⟨g, i * 7 + 1, none⟩) hg, L.cell (p := ⟨g, i * 7 + 2, none⟩) hg, L.cell (p := ⟨g, i * 7 + 3, none⟩) hg, L.cell (p := ⟨g, i * 7 + 4, none⟩) hg, L.cell (p := ⟨g, i * 7 + 5, none⟩) hg, L.cell (p := ⟨g, i * 7 + 6, none⟩) hg]
    exact h.2 i hi hk

theorem Laidhold.step {w : World} {g n k : Nat} {ps : List Hl} (h : Laidhold w g n k ps) (hk : k < n) (hkp : k < ps.length) : Laidhold (sethold w g (k * 7) ps[k]) g n (k + 1) ps := by
  refine ⟨fun j hj => ?_, fun i hi hik => ?_⟩
  · obtain ⟨⟨v, hv⟩, hf⟩ := h.1 j hj
    exact ⟨⟨_, sethold_cell hv⟩, by unfold sethold; rw [World.frozen?_setCell, World.frozen?_setCell, World.frozen?_setCell, World.frozen?_setCell, World.frozen?_setCell, World.frozen?_setCell, World.frozen?_setCell]; exact hf⟩
  · by_cases e : i = k
    · subst e
      obtain ⟨⟨v0, h0⟩, -⟩ := h.1 (i * 7) (by omega)
      obtain ⟨⟨v1, h1⟩, -⟩ := h.1 (i * 7 + 1) (by omega)
      obtain ⟨⟨v2, h2⟩, -⟩ := h.1 (i * 7 + 2) (by omega)
      obtain ⟨⟨v3, h3⟩, -⟩ := h.1 (i * 7 + 3) (by omega)
      obtain ⟨⟨v4, h4⟩, -⟩ := h.1 (i * 7 + 4) (by omega)
      obtain ⟨⟨v5, h5⟩, -⟩ := h.1 (i * 7 + 5) (by omega)
      obtain ⟨⟨v6, h6⟩, -⟩ := h.1 (i * 7 + 6) (by omega)
      rw [sethold_cell h0, sethold_cell h1, sethold_cell h2, sethold_cell h3, sethold_cell h4, sethold_cell h5, sethold_cell h6]
      simp
    · obtain ⟨h0, h1, h2, h3, h4, h5, h6⟩ := h.2 i hi (by omega)
      rw [sethold_cell h0, sethold_cell h1, sethold_cell h2, sethold_cell h3, sethold_cell h4, sethold_cell h5, sethold_cell h6]
      rw [if_neg (by omega), if_neg (by omega), if_neg (by omega), if_neg (by omega), if_neg (by omega), if_neg (by omega), if_neg (by omega), if_neg (by omega), if_neg (by omega), if_neg (by omega), if_neg (by omega), if_neg (by omega), if_neg (by omega), if_neg (by omega), if_neg (by omega), if_neg (by omega), if_neg (by omega), if_neg (by omega), if_neg (by omega), if_neg (by omega), if_neg (by omega), if_neg (by omega), if_neg (by omega), if_neg (by omega), if_neg (by omega), if_neg (by omega), if_neg (by omega), if_neg (by omega), if_neg (by omega), if_neg (by omega), if_neg (by omega), if_neg (by omega), if_neg (by omega), if_neg (by omega), if_neg (by omega), if_neg (by omega), if_neg (by omega), if_neg (by omega), if_neg (by omega), if_neg (by omega), if_neg (by omega), if_neg (by omega), if_neg (by omega), if_neg (by omega), if_neg (by omega), if_neg (by omega), if_neg (by omega), if_neg (by omega), if_neg (by omega)]
      exact ⟨rfl, rfl, rfl, rfl, rfl, rfl, rfl⟩

theorem Laidhold.all {w : World} {g : Nat} {ps : List Hl} (h : Laidhold w g ps.length ps.length ps) (hg : g < w.heap.size) : Holds w (some ⟨g, 0, none⟩) ps :=
  Or.inr ⟨g, 0, rfl, hg, fun i hi => by rw [Nat.zero_add]; exact h.2 i hi hi⟩

end Se
end Go.Proofs.YtaplbjoghkipdaaDoor

/- Contracts of the laws' own helpers over stops: a copy of a slice of them, and two such slices held against each other. -/
import Derived.Test.YtaplbjoghkipdaaDoorPkRow
namespace Go.Proofs.YtaplbjoghkipdaaDoor
namespace Tn
open Go.ChangeShapes Go.WideShapes Go.ChangeAt Go.RowKit
open Pk (new_below join_below cell_at heap_new frozen_at lt_of kept info_of own_form own_below)
set_option linter.unusedSimpArgs false
set_option linter.unusedVariables false

/-- One of stops. -/
structure St where
  st : Int
  ar : Int
  dp : Int

/-- It as a value. -/
abbrev lgV (p : St) : Value := .agg #[.int .i64 p.st, .int .i64 p.ar, .int .i64 p.dp]

/-- A slice of them. -/
def Stops (w : World) (a : Option Addr) (ps : List St) : Prop :=
  ps = [] ∨ ∃ b o, a = some ⟨b, o, none⟩ ∧ b < w.heap.size ∧ ∀ i (h : i < ps.length), w.cell? ⟨b, o + i * 3, none⟩ = some (.int .i64 ps[i].st) ∧ w.cell? ⟨b, o + i * 3 + 1, none⟩ = some (.int .i64 ps[i].ar) ∧ w.cell? ⟨b, o + i * 3 + 2, none⟩ = some (.int .i64 ps[i].dp)

theorem Stops.on {w w1 : World} {a : Option Addr} {ps : List St} (h : Stops w a ps) (L : Below w.heap.size w w1) : Stops w1 a ps := by
  rcases h with h | ⟨b, o, ha, hb, hc⟩
  · exact Or.inl h
  · exact Or.inr ⟨b, o, ha, Nat.lt_of_lt_of_le hb L.size, fun i hi => by rw [L.cell (p := ⟨b, o + i * 3, none⟩) hb, L.cell (p := ⟨b, o + i * 3 + 1, none⟩) hb, L.cell (p := ⟨b, o + i * 3 + 2, none⟩) hb]; exact hc i hi⟩

theorem Stops.at {w : World} {a : Option Addr} {ps : List St} (h : Stops w a ps) (k : Nat) (hk : k < ps.length) : ∃ b o, a = some ⟨b, o, none⟩ ∧ b < w.heap.size ∧ w.cell? ⟨b, o + k * 3, none⟩ = some (.int .i64 ps[k].st) ∧ w.cell? ⟨b, o + k * 3 + 1, none⟩ = some (.int .i64 ps[k].ar) ∧ w.cell? ⟨b, o + k * 3 + 2, none⟩ = some (.int .i64 ps[k].dp) := by
  rcases h with h | ⟨b, o, ha, hb, hc⟩
  · subst h; simp at hk
  · exact ⟨b, o, ha, hb, hc k hk⟩

theorem info_stop : (Tryd.prog.info? 75).map (fun i => (i.zero, i.size, i.bytes)) = some (some (lgV ⟨0, 0, 0⟩), 3, 24) := by kernel_rfl

/-- The first k of block g are laid; all n can be written. -/
def Laidstop (w : World) (g n k : Nat) (ps : List St) : Prop := (∀ j, j < n * 3 → (∃ v, w.cell? ⟨g, j, none⟩ = some v) ∧ w.frozen? ⟨g, j, none⟩ = false) ∧
  ∀ i (h : i < ps.length), i < k → w.cell? ⟨g, i * 3, none⟩ = some (.int .i64 ps[i].st) ∧ w.cell? ⟨g, i * 3 + 1, none⟩ = some (.int .i64 ps[i].ar) ∧ w.cell? ⟨g, i * 3 + 2, none⟩ = some (.int .i64 ps[i].dp)

theorem set_cell {w : World} {g i j : Nat} {u v : Value} (h : w.cell? ⟨g, i, none⟩ = some v) : (w.setCell ⟨g, j, none⟩ u).cell? ⟨g, i, none⟩ = some (if i = j then u else v) := by
  by_cases e : i = j
  · subst e
    rw [if_pos rfl]
    exact World.cell?_setCell_same _ _ _ h
  · rw [if_neg e, World.cell?_setCell_other _ _ _ _ (by intro h; apply e; simpa using h.symm)]
    exact h

/-- Its cells written. -/
def setstop (w : World) (g j : Nat) (p : St) : World := ((w.setCell ⟨g, j, none⟩ (.int .i64 p.st)).setCell ⟨g, j + 1, none⟩ (.int .i64 p.ar)).setCell ⟨g, j + 2, none⟩ (.int .i64 p.dp)

theorem setstop_cell {w : World} {g i j : Nat} {p : St} {v : Value} (h : w.cell? ⟨g, i, none⟩ = some v) : (setstop w g j p).cell? ⟨g, i, none⟩ = some (if i = j + 2 then .int .i64 p.dp else if i = j + 1 then .int .i64 p.ar else if i = j then .int .i64 p.st else v) := set_cell (set_cell (set_cell h))

theorem Laidstop.on {w w1 : World} {g n k : Nat} {ps : List St} (h : Laidstop w g n k ps) {B : Nat} (L : Below B w w1) (hg : g < B) : Laidstop w1 g n k ps := by
  refine ⟨fun j hj => ?_, fun i hi hk => ?_⟩
  · rw [L.cell (p := ⟨g, j, none⟩) hg, L.frozen (p := ⟨g, j, none⟩) hg]
    exact h.1 j hj
  · rw [L.cell (p := ⟨g, i * 3, none⟩) hg, L.cell (p := ⟨g, i * 3 + 1, none⟩) hg, L.cell (p := ⟨g, i * 3 + 2, none⟩) hg]
    exact h.2 i hi hk

theorem Laidstop.step {w : World} {g n k : Nat} {ps : List St} (h : Laidstop w g n k ps) (hk : k < n) (hkp : k < ps.length) : Laidstop (setstop w g (k * 3) ps[k]) g n (k + 1) ps := by
  refine ⟨fun j hj => ?_, fun i hi hik => ?_⟩
  · obtain ⟨⟨v, hv⟩, hf⟩ := h.1 j hj
    exact ⟨⟨_, setstop_cell hv⟩, by unfold setstop; rw [World.frozen?_setCell, World.frozen?_setCell, World.frozen?_setCell]; exact hf⟩
  · by_cases e : i = k
    · subst e
      obtain ⟨⟨v0, h0⟩, -⟩ := h.1 (i * 3) (by omega)
      obtain ⟨⟨v1, h1⟩, -⟩ := h.1 (i * 3 + 1) (by omega)
      obtain ⟨⟨v2, h2⟩, -⟩ := h.1 (i * 3 + 2) (by omega)
      rw [setstop_cell h0, setstop_cell h1, setstop_cell h2]
      simp
    · obtain ⟨h0, h1, h2⟩ := h.2 i hi (by omega)
      rw [setstop_cell h0, setstop_cell h1, setstop_cell h2]
      rw [if_neg (by omega), if_neg (by omega), if_neg (by omega), if_neg (by omega), if_neg (by omega), if_neg (by omega), if_neg (by omega), if_neg (by omega), if_neg (by omega)]
      exact ⟨rfl, rfl, rfl⟩

theorem Laidstop.all {w : World} {g : Nat} {ps : List St} (h : Laidstop w g ps.length ps.length ps) (hg : g < w.heap.size) : Stops w (some ⟨g, 0, none⟩) ps :=
  Or.inr ⟨g, 0, rfl, hg, fun i hi => by rw [Nat.zero_add]; exact h.2 i hi hi⟩

end Tn
end Go.Proofs.YtaplbjoghkipdaaDoor

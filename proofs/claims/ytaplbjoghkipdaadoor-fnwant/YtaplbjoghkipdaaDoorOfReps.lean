/- Contracts of the laws' own helpers over replies: a copy of a slice of them, and two such slices held against each other. -/
import Derived.Test.YtaplbjoghkipdaaDoorPkRow
namespace Go.Proofs.YtaplbjoghkipdaaDoor
namespace Rp
open Go.ChangeShapes Go.WideShapes Go.ChangeAt Go.RowKit
open Pk (new_below join_below cell_at heap_new frozen_at lt_of kept info_of own_form own_below)
set_option linter.unusedSimpArgs false
set_option linter.unusedVariables false

/-- One of replies. -/
structure Rr where
  rq : Int
  sa : Int
  od : Int
  am : Int

/-- It as a value. -/
abbrev lgV (p : Rr) : Value := .agg #[.int .i64 p.rq, .int .i64 p.sa, .int .i64 p.od, .int .i64 p.am]

/-- A slice of them. -/
def Replys (w : World) (a : Option Addr) (ps : List Rr) : Prop :=
  ps = [] ∨ ∃ b o, a = some ⟨b, o, none⟩ ∧ b < w.heap.size ∧ ∀ i (h : i < ps.length), w.cell? ⟨b, o + i * 4, none⟩ = some (.int .i64 ps[i].rq) ∧ w.cell? ⟨b, o + i * 4 + 1, none⟩ = some (.int .i64 ps[i].sa) ∧ w.cell? ⟨b, o + i * 4 + 2, none⟩ = some (.int .i64 ps[i].od) ∧ w.cell? ⟨b, o + i * 4 + 3, none⟩ = some (.int .i64 ps[i].am)

theorem Replys.on {w w1 : World} {a : Option Addr} {ps : List Rr} (h : Replys w a ps) (L : Below w.heap.size w w1) : Replys w1 a ps := by
  rcases h with h | ⟨b, o, ha, hb, hc⟩
  · exact Or.inl h
  · exact Or.inr ⟨b, o, ha, Nat.lt_of_lt_of_le hb L.size, fun i hi => by rw [L.cell (p := ⟨b, o + i * 4, none⟩) hb, L.cell (p := ⟨b, o + i * 4 + 1, none⟩) hb, L.cell (p := ⟨b, o + i * 4 + 2, none⟩) hb, L.cell (p := ⟨b, o + i * 4 + 3, none⟩) hb]; exact hc i hi⟩

theorem Replys.at {w : World} {a : Option Addr} {ps : List Rr} (h : Replys w a ps) (k : Nat) (hk : k < ps.length) : ∃ b o, a = some ⟨b, o, none⟩ ∧ b < w.heap.size ∧ w.cell? ⟨b, o + k * 4, none⟩ = some (.int .i64 ps[k].rq) ∧ w.cell? ⟨b, o + k * 4 + 1, none⟩ = some (.int .i64 ps[k].sa) ∧ w.cell? ⟨b, o + k * 4 + 2, none⟩ = some (.int .i64 ps[k].od) ∧ w.cell? ⟨b, o + k * 4 + 3, none⟩ = some (.int .i64 ps[k].am) := by
  rcases h with h | ⟨b, o, ha, hb, hc⟩
  · subst h; simp at hk
  · exact ⟨b, o, ha, hb, hc k hk⟩

theorem info_reply : (Tryd.prog.info? 143).map (fun i => (i.zero, i.size, i.bytes)) = some (some (lgV ⟨0, 0, 0, 0⟩), 4, 32) := by kernel_rfl

/-- The first k of block g are laid; all n can be written. -/
def Laidreply (w : World) (g n k : Nat) (ps : List Rr) : Prop := (∀ j, j < n * 4 → (∃ v, w.cell? ⟨g, j, none⟩ = some v) ∧ w.frozen? ⟨g, j, none⟩ = false) ∧
  ∀ i (h : i < ps.length), i < k → w.cell? ⟨g, i * 4, none⟩ = some (.int .i64 ps[i].rq) ∧ w.cell? ⟨g, i * 4 + 1, none⟩ = some (.int .i64 ps[i].sa) ∧ w.cell? ⟨g, i * 4 + 2, none⟩ = some (.int .i64 ps[i].od) ∧ w.cell? ⟨g, i * 4 + 3, none⟩ = some (.int .i64 ps[i].am)

theorem set_cell {w : World} {g i j : Nat} {u v : Value} (h : w.cell? ⟨g, i, none⟩ = some v) : (w.setCell ⟨g, j, none⟩ u).cell? ⟨g, i, none⟩ = some (if i = j then u else v) := by
  by_cases e : i = j
  · subst e
    rw [if_pos rfl]
    exact World.cell?_setCell_same _ _ _ h
  · rw [if_neg e, World.cell?_setCell_other _ _ _ _ (by intro h; apply e; simpa using h.symm)]
    exact h

/-- Its cells written. -/
def setreply (w : World) (g j : Nat) (p : Rr) : World := (((w.setCell ⟨g, j, none⟩ (.int .i64 p.rq)).setCell ⟨g, j + 1, none⟩ (.int .i64 p.sa)).setCell ⟨g, j + 2, none⟩ (.int .i64 p.od)).setCell ⟨g, j + 3, none⟩ (.int .i64 p.am)

theorem setreply_cell {w : World} {g i j : Nat} {p : Rr} {v : Value} (h : w.cell? ⟨g, i, none⟩ = some v) : (setreply w g j p).cell? ⟨g, i, none⟩ = some (if i = j + 3 then .int .i64 p.am else if i = j + 2 then .int .i64 p.od else if i = j + 1 then .int .i64 p.sa else if i = j then .int .i64 p.rq else v) := set_cell (set_cell (set_cell (set_cell h)))

theorem Laidreply.on {w w1 : World} {g n k : Nat} {ps : List Rr} (h : Laidreply w g n k ps) {B : Nat} (L : Below B w w1) (hg : g < B) : Laidreply w1 g n k ps := by
  refine ⟨fun j hj => ?_, fun i hi hk => ?_⟩
  · rw [L.cell (p := ⟨g, j, none⟩) hg, L.frozen (p := ⟨g, j, none⟩) hg]
    exact h.1 j hj
  · rw [L.cell (p := ⟨g, i * 4, none⟩) hg, L.cell (p := ⟨g, i * 4 + 1, none⟩) hg, L.cell (p := ⟨g, i * 4 + 2, none⟩) hg, L.cell (p := ⟨g, i * 4 + 3, none⟩) hg]
    exact h.2 i hi hk

theorem Laidreply.step {w : World} {g n k : Nat} {ps : List Rr} (h : Laidreply w g n k ps) (hk : k < n) (hkp : k < ps.length) : Laidreply (setreply w g (k * 4) ps[k]) g n (k + 1) ps := by
  refine ⟨fun j hj => ?_, fun i hi hik => ?_⟩
  · obtain ⟨⟨v, hv⟩, hf⟩ := h.1 j hj
    exact ⟨⟨_, setreply_cell hv⟩, by unfold setreply; rw [World.frozen?_setCell, World.frozen?_setCell, World.frozen?_setCell, World.frozen?_setCell]; exact hf⟩
  · by_cases e : i = k
    · subst e
      obtain ⟨⟨v0, h0⟩, -⟩ := h.1 (i * 4) (by omega)
      obtain ⟨⟨v1, h1⟩, -⟩ := h.1 (i * 4 + 1) (by omega)
      obtain ⟨⟨v2, h2⟩, -⟩ := h.1 (i * 4 + 2) (by omega)
      obtain ⟨⟨v3, h3⟩, -⟩ := h.1 (i * 4 + 3) (by omega)
      rw [setreply_cell h0, setreply_cell h1, setreply_cell h2, setreply_cell h3]
      simp
    · obtain ⟨h0, h1, h2, h3⟩ := h.2 i hi (by omega)
      rw [setreply_cell h0, setreply_cell h1, setreply_cell h2, setreply_cell h3]
      rw [if_neg (by omega), if_neg (by omega), if_neg (by omega), if_neg (by omega), if_neg (by omega), if_neg (by omega), if_neg (by omega), if_neg (by omega), if_neg (by omega), if_neg (by omega), if_neg (by omega), if_neg (by omega), if_neg (by omega), if_neg (by omega), if_neg (by omega), if_neg (by omega)]
      exact ⟨rfl, rfl, rfl, rfl⟩

theorem Laidreply.all {w : World} {g : Nat} {ps : List Rr} (h : Laidreply w g ps.length ps.length ps) (hg : g < w.heap.size) : Replys w (some ⟨g, 0, none⟩) ps :=
  Or.inr ⟨g, 0, rfl, hg, fun i hi => by rw [Nat.zero_add]; exact h.2 i hi hi⟩

end Rp
end Go.Proofs.YtaplbjoghkipdaaDoor

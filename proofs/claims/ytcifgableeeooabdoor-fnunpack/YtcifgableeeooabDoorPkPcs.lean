/- Contracts of the laws' own helpers over pieces: a copy of a slice of them, and two such slices held against each other. -/
import Derived.Test.YtcifgableeeooabDoorPkWhole
namespace Go.Proofs.YtcifgableeeooabDoor
namespace Pk
open Go.ChangeShapes Go.WideShapes Go.ChangeAt Go.RowKit
open Math (Pc)
set_option linter.unusedSimpArgs false
set_option linter.unusedVariables false

theorem info_pc : (Tryd.prog.info? 84).map (fun i => (i.zero, i.size, i.bytes)) = some (some (pcV 0 0 0), 3, 24) := by kernel_rfl

/-- The first k pieces of block g are laid; all n can be written. -/
def Laid3 (w : World) (g n k : Nat) (ps : List Pc) : Prop := (∀ j, j < n * 3 → (∃ v, w.cell? ⟨g, j, none⟩ = some v) ∧ w.frozen? ⟨g, j, none⟩ = false) ∧
  ∀ i (h : i < ps.length), i < k → w.cell? ⟨g, i * 3, none⟩ = some (.int .i64 ps[i].x) ∧ w.cell? ⟨g, i * 3 + 1, none⟩ = some (.int .i64 ps[i].n) ∧ w.cell? ⟨g, i * 3 + 2, none⟩ = some (.int .i64 ps[i].d)

theorem set_cell {w : World} {g i j : Nat} {u v : Value} (h : w.cell? ⟨g, i, none⟩ = some v) : (w.setCell ⟨g, j, none⟩ u).cell? ⟨g, i, none⟩ = some (if i = j then u else v) := by
  by_cases e : i = j
  · subst e
    rw [if_pos rfl]
    exact World.cell?_setCell_same _ _ _ h
  · rw [if_neg e, World.cell?_setCell_other _ _ _ _ (by intro h; apply e; simpa using h.symm)]
    exact h

/-- Three cells written. -/
def set3 (w : World) (g j : Nat) (p : Pc) : World := ((w.setCell ⟨g, j, none⟩ (.int .i64 p.x)).setCell ⟨g, j + 1, none⟩ (.int .i64 p.n)).setCell ⟨g, j + 2, none⟩ (.int .i64 p.d)

theorem set3_cell {w : World} {g i j : Nat} {p : Pc} {v : Value} (h : w.cell? ⟨g, i, none⟩ = some v) : (set3 w g j p).cell? ⟨g, i, none⟩ = some (if i = j + 2 then .int .i64 p.d else if i = j + 1 then .int .i64 p.n else if i = j then .int .i64 p.x else v) := set_cell (set_cell (set_cell h))

theorem Laid3.on {w w1 : World} {g n k : Nat} {ps : List Pc} (h : Laid3 w g n k ps) {B : Nat} (L : Below B w w1) (hg : g < B) : Laid3 w1 g n k ps := by
  refine ⟨fun j hj => ?_, fun i hi hk => ?_⟩
  · rw [L.cell (p := ⟨g, j, none⟩) hg, L.frozen (p := ⟨g, j, none⟩) hg]
    exact h.1 j hj
  · rw [L.cell (p := ⟨g, i * 3, none⟩) hg, L.cell (p := ⟨g, i * 3 + 1, none⟩) hg, L.cell (p := ⟨g, i * 3 + 2, none⟩) hg]
    exact h.2 i hi hk

theorem Laid3.step {w : World} {g n k : Nat} {ps : List Pc} (h : Laid3 w g n k ps) (hk : k < n) (hkp : k < ps.length) : Laid3 (set3 w g (k * 3) ps[k]) g n (k + 1) ps := by
  refine ⟨fun j hj => ?_, fun i hi hik => ?_⟩
  · obtain ⟨⟨v, hv⟩, hf⟩ := h.1 j hj
    exact ⟨⟨_, set3_cell hv⟩, by unfold set3; rw [World.frozen?_setCell, World.frozen?_setCell, World.frozen?_setCell]; exact hf⟩
  · by_cases e : i = k
    · subst e
      obtain ⟨⟨v0, h0⟩, -⟩ := h.1 (i * 3) (by omega)
      obtain ⟨⟨v1, h1⟩, -⟩ := h.1 (i * 3 + 1) (by omega)
      obtain ⟨⟨v2, h2⟩, -⟩ := h.1 (i * 3 + 2) (by omega)
      rw [set3_cell h0, set3_cell h1, set3_cell h2]
      simp
    · obtain ⟨h0, h1, h2⟩ := h.2 i hi (by omega)
      rw [set3_cell h0, set3_cell h1, set3_cell h2]
      rw [if_neg (by omega), if_neg (by omega), if_neg (by omega), if_neg (by omega), if_neg (by omega), if_neg (by omega), if_neg (by omega), if_neg (by omega), if_neg (by omega)]
      exact ⟨rfl, rfl, rfl⟩

theorem Laid3.pcs {w : World} {g : Nat} {ps : List Pc} (h : Laid3 w g ps.length ps.length ps) (hg : g < w.heap.size) : Pcs w (some ⟨g, 0, none⟩) ps :=
  Or.inr ⟨g, 0, rfl, hg, fun i hi => by rw [Nat.zero_add]; exact h.2 i hi hi⟩

end Pk
end Go.Proofs.YtcifgableeeooabDoor

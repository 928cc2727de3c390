/- Contracts of the laws' own helpers over controls that a function has been given or has made: marked, held against the marks. -/
import Derived.Test.YtbmfhdlbbaabgaaHnCtl
import Derived.Test.YtbmfhdlbbaabgaaHnInts
namespace Go.Proofs.Ytbmfhdlbbaabgaa
namespace Hn
open Go.ChangeShapes Go.WideShapes Go.ChangeAt Go.RowKit
open Pk (new_below join_below cell_at heap_new frozen_at lt_of kept heap_old Drawn info_of Room)
set_option linter.unusedSimpArgs false
set_option linter.unusedVariables false

theorem Controls.band {lo hi : Nat} {w w1 : World} {a : Option Addr} {ps : List Ct} (h : Controls w a ps) (L : Band lo hi w w1) (ha : ∀ b o, a = some ⟨b, o, none⟩ → ps ≠ [] → b < lo ∨ hi ≤ b) : Controls w1 a ps := by
  rcases h with h | ⟨b, o, rfl, hlt, hc⟩
  · exact Or.inl h
  · by_cases hz : ps = []
    · exact Or.inl hz
    · have hb := L.block b (ha b o rfl hz)
      exact Or.inr ⟨b, o, rfl, by rw [L.size]; exact hlt, fun i hi => by rw [World.cell?_of_block (a := ⟨b, o + i * 6, none⟩) hb, World.cell?_of_block (a := ⟨b, o + i * 6 + 1, none⟩) hb, World.cell?_of_block (a := ⟨b, o + i * 6 + 2, none⟩) hb, World.cell?_of_block (a := ⟨b, o + i * 6 + 3, none⟩) hb, World.cell?_of_block (a := ⟨b, o + i * 6 + 4, none⟩) hb, World.cell?_of_block (a := ⟨b, o + i * 6 + 5, none⟩) hb]; exact hc i hi⟩

/-- The marks of n controls in block g. -/
def Marked (z : Int) (w : World) (g n : Nat) : Prop := ∀ i, i < n → w.cell? ⟨g, i * 6, none⟩ = some (.int .i64 (z + 6 * (i : Int))) ∧ w.cell? ⟨g, i * 6 + 1, none⟩ = some (.int .i64 (z + 6 * (i : Int) + 1)) ∧ w.cell? ⟨g, i * 6 + 2, none⟩ = some (.int .i64 (z + 6 * (i : Int) + 2)) ∧ w.cell? ⟨g, i * 6 + 3, none⟩ = some (.int .i64 (z + 6 * (i : Int) + 3)) ∧ w.cell? ⟨g, i * 6 + 4, none⟩ = some (.int .i64 (z + 6 * (i : Int) + 4)) ∧ w.cell? ⟨g, i * 6 + 5, none⟩ = some (.int .i64 (z + 6 * (i : Int) + 5))

theorem Marked.on {w w1 : World} {g n B : Nat} {z : Int} (h : Marked z w g n) (L : Below B w w1) (hg : g < B) : Marked z w1 g n := by
  intro i hi
  rw [L.cell (p := ⟨g, i * 6, none⟩) hg, L.cell (p := ⟨g, i * 6 + 1, none⟩) hg, L.cell (p := ⟨g, i * 6 + 2, none⟩) hg, L.cell (p := ⟨g, i * 6 + 3, none⟩) hg, L.cell (p := ⟨g, i * 6 + 4, none⟩) hg, L.cell (p := ⟨g, i * 6 + 5, none⟩) hg]
  exact h i hi

theorem Marked.step {w : World} {g n k : Nat} {z : Int} (h : Marked z w g k) (R : Room w g (n * 6)) (hk : k < n) : Marked z ((((((w.setCell ⟨g, k * 6, none⟩ (.int .i64 (z + 6 * (k : Int)))).setCell ⟨g, k * 6 + 1, none⟩ (.int .i64 (z + 6 * (k : Int) + 1))).setCell ⟨g, k * 6 + 2, none⟩ (.int .i64 (z + 6 * (k : Int) + 2))).setCell ⟨g, k * 6 + 3, none⟩ (.int .i64 (z + 6 * (k : Int) + 3))).setCell ⟨g, k * 6 + 4, none⟩ (.int .i64 (z + 6 * (k : Int) + 4))).setCell ⟨g, k * 6 + 5, none⟩ (.int .i64 (z + 6 * (k : Int) + 5))) g (k + 1) := by
  intro i hi
  by_cases e : i = k
  · subst e
    obtain ⟨⟨v0, e0⟩, -⟩ := R (i * 6) (by omega)
    obtain ⟨⟨v1, e1⟩, -⟩ := R (i * 6 + 1) (by omega)
    obtain ⟨⟨v2, e2⟩, -⟩ := R (i * 6 + 2) (by omega)
    obtain ⟨⟨v3, e3⟩, -⟩ := R (i * 6 + 3) (by omega)
    obtain ⟨⟨v4, e4⟩, -⟩ := R (i * 6 + 4) (by omega)
    obtain ⟨⟨v5, e5⟩, -⟩ := R (i * 6 + 5) (by omega)
    rw [set_cell (set_cell (set_cell (set_cell (set_cell (set_cell e0))))), set_cell (set_cell (set_cell (set_cell (set_cell (set_cell e1))))), set_cell (set_cell (set_cell (set_cell (set_cell (set_cell e2))))), set_cell (set_cell (set_cell (set_cell (set_cell (set_cell e3))))), set_cell (set_cell (set_cell (set_cell (set_cell (set_cell e4))))), set_cell (set_cell (set_cell (set_cell (set_cell (set_cell e5)))))]
    simp
  · obtain ⟨e0, e1, e2, e3, e4, e5⟩ := h i (by omega)
    rw [set_cell (set_cell (set_cell (set_cell (set_cell (set_cell e0))))), set_cell (set_cell (set_cell (set_cell (set_cell (set_cell e1))))), set_cell (set_cell (set_cell (set_cell (set_cell (set_cell e2))))), set_cell (set_cell (set_cell (set_cell (set_cell (set_cell e3))))), set_cell (set_cell (set_cell (set_cell (set_cell (set_cell e4))))), set_cell (set_cell (set_cell (set_cell (set_cell (set_cell e5)))))]
    rw [if_neg (by omega), if_neg (by omega), if_neg (by omega), if_neg (by omega), if_neg (by omega), if_neg (by omega), if_neg (by omega), if_neg (by omega), if_neg (by omega), if_neg (by omega), if_neg (by omega), if_neg (by omega), if_neg (by omega), if_neg (by omega), if_neg (by omega), if_neg (by omega), if_neg (by omega), if_neg (by omega), if_neg (by omega), if_neg (by omega), if_neg (by omega), if_neg (by omega), if_neg (by omega), if_neg (by omega), if_neg (by omega), if_neg (by omega), if_neg (by omega), if_neg (by omega), if_neg (by omega), if_neg (by omega), if_neg (by omega), if_neg (by omega), if_neg (by omega), if_neg (by omega), if_neg (by omega), if_neg (by omega)]
    exact ⟨rfl, rfl, rfl, rfl, rfl, rfl⟩

end Hn
end Go.Proofs.Ytbmfhdlbbaabgaa

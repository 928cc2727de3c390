/- Contracts of the laws' own helpers over legs that a function has been given or has made: marked, held against the marks. -/
import Derived.Test.YtbfgfedblnldcaaDoorTkLegs
namespace Go.Proofs.YtbfgfedblnldcaaDoor
namespace Tk
open Go.ChangeShapes Go.WideShapes Go.ChangeAt Go.RowKit
open Pk (new_below join_below cell_at heap_new frozen_at lt_of kept heap_old Drawn info_of Room)
set_option linter.unusedSimpArgs false
set_option linter.unusedVariables false

/-- All but the blocks from lo up to hi is as it was. -/
structure Band (lo hi : Nat) (w w' : World) : Prop where
  os : w'.os = w.os
  tape : w'.tape = w.tape
  output : w'.output = w.output
  size : w'.heap.size = w.heap.size
  block : ∀ b, b < lo ∨ hi ≤ b → w'.heap[b]? = w.heap[b]?

theorem Band.refl (lo hi : Nat) (w : World) : Band lo hi w w := ⟨rfl, rfl, rfl, rfl, fun _ _ => rfl⟩

theorem Band.trans {lo hi : Nat} {a b c : World} (h : Band lo hi a b) (k : Band lo hi b c) : Band lo hi a c :=
  ⟨k.os.trans h.os, k.tape.trans h.tape, k.output.trans h.output, k.size.trans h.size, fun i hi => (k.block i hi).trans (h.block i hi)⟩

theorem Band.set {lo hi : Nat} {a w : World} (h : Band lo hi a w) {g i : Nat} (h1 : lo ≤ g) (h2 : g < hi) (u : Value) : Band lo hi a (w.setCell ⟨g, i, none⟩ u) := by
  have L := (Below.refl 0 w).setCell (p := ⟨g, i, none⟩) (Nat.zero_le _) u
  refine ⟨L.os.trans h.os, L.tape.trans h.tape, L.output.trans h.output, by rw [World.size_setCell]; exact h.size, fun b hb => ?_⟩
  rw [Below.heap_setCell w ⟨g, i, none⟩ u b (by show b ≠ g; omega)]
  exact h.block b hb

theorem Band.below {lo hi : Nat} {w w' : World} (h : Band lo hi w w') : Below lo w w' := ⟨h.os, h.tape, h.output, Nat.le_of_eq h.size.symm, fun k hk => h.block k (Or.inl hk)⟩

theorem Legs.band {lo hi : Nat} {w w1 : World} {a : Option Addr} {ps : List Lg} (h : Legs w a ps) (L : Band lo hi w w1) (ha : ∀ b o, a = some ⟨b, o, none⟩ → ps ≠ [] → b < lo ∨ hi ≤ b) : Legs w1 a ps := by
  rcases h with h | ⟨b, o, rfl, hlt, hc⟩
  · exact Or.inl h
  · by_cases hz : ps = []
    · exact Or.inl hz
    · have hb := L.block b (ha b o rfl hz)
      exact Or.inr ⟨b, o, rfl, by rw [L.size]; exact hlt, fun i hi => by rw [World.cell?_of_block (a := ⟨b, o + i * 6, none⟩) hb, World.cell?_of_block (a := ⟨b, o + i * 6 + 1, none⟩) hb, World.cell?_of_block (a := ⟨b, o + i * 6 + 2, none⟩) hb, World.cell?_of_block (a := ⟨b, o + i * 6 + 3, none⟩) hb, World.cell?_of_block (a := ⟨b, o + i * 6 + 4, none⟩) hb, World.cell?_of_block (a := ⟨b, o + i * 6 + 5, none⟩) hb]; exact hc i hi⟩

theorem Room.band {lo hi : Nat} {w w1 : World} {g m : Nat} (h : Room w g m) (L : Band lo hi w w1) (hg : g < lo ∨ hi ≤ g) : Room w1 g m := by
  intro j hj
  rw [World.cell?_of_block (a := ⟨g, j, none⟩) (L.block g hg), World.frozen?_of_block (a := ⟨g, j, none⟩) (L.block g hg)]
  exact h j hj

/-- The marks of n legs in block g. -/
def Marked (w : World) (g n : Nat) : Prop := ∀ i, i < n → w.cell? ⟨g, i * 6, none⟩ = some (.int .i64 (1 + 6 * (i : Int))) ∧ w.cell? ⟨g, i * 6 + 1, none⟩ = some (.int .i64 (1 + 6 * (i : Int) + 1)) ∧ w.cell? ⟨g, i * 6 + 2, none⟩ = some (.int .i64 (1 + 6 * (i : Int) + 2)) ∧ w.cell? ⟨g, i * 6 + 3, none⟩ = some (.int .i64 (1 + 6 * (i : Int) + 3)) ∧ w.cell? ⟨g, i * 6 + 4, none⟩ = some (.int .i64 (1 + 6 * (i : Int) + 4)) ∧ w.cell? ⟨g, i * 6 + 5, none⟩ = some (.int .i64 (1 + 6 * (i : Int) + 5))

theorem Marked.on {w w1 : World} {g n B : Nat} (h : Marked w g n) (L : Below B w w1) (hg : g < B) : Marked w1 g n := by
  intro i hi
  rw [L.cell (p := ⟨g, i * 6, none⟩) hg, L.cell (p := ⟨g, i * 6 + 1, none⟩) hg, L.cell (p := ⟨g, i * 6 + 2, none⟩) hg, L.cell (p := ⟨g, i * 6 + 3, none⟩) hg, L.cell (p := ⟨g, i * 6 + 4, none⟩) hg, L.cell (p := ⟨g, i * 6 + 5, none⟩) hg]
  exact h i hi

theorem Marked.step {w : World} {g n k : Nat} (h : Marked w g k) (R : Room w g (n * 6)) (hk : k < n) : Marked ((((((w.setCell ⟨g, k * 6, none⟩ (.int .i64 (1 + 6 * (k : Int)))).setCell ⟨g, k * 6 + 1, none⟩ (.int .i64 (1 + 6 * (k : Int) + 1))).setCell ⟨g, k * 6 + 2, none⟩ (.int .i64 (1 + 6 * (k : Int) + 2))).setCell ⟨g, k * 6 + 3, none⟩ (.int .i64 (1 + 6 * (k : Int) + 3))).setCell ⟨g, k * 6 + 4, none⟩ (.int .i64 (1 + 6 * (k : Int) + 4))).setCell ⟨g, k * 6 + 5, none⟩ (.int .i64 (1 + 6 * (k : Int) + 5))) g (k + 1) := by
  intro i hi
  by_cases e : i = k
  · subst e
    obtain ⟨⟨v0, e0⟩, -⟩ := R (i * 6) (by omega)
    obtain ⟨⟨v1, e1⟩, -⟩ := R (i * 6 + 1) (by omega)
    obtain ⟨⟨v2, e2⟩, -⟩ := R (i * 6 + 2) (by omega)
    obtain ⟨⟨v3, e3⟩, -⟩ := R (i * 6 + 3) (by omega)
    obtain ⟨⟨v4, e4⟩, -⟩ := R (i * 6 + 4) (by omega)
    obtain ⟨⟨v5, e5⟩, -⟩ := R (i * 6 + 5) (by omega)
    rw [set_cell (set_cell (set_cell (set_cell (set_cell (set_cell e0))))), set_cell (set_cell (set_cell (set_cell (set_cell (set_cell e1))))), set_cell (set_cell (set_cell (set_cell (set_cell (set_cell e2))))), set_cell (set_cell (set_cell (set_cell (set_cell (set_cell e3))))), set_cell (set_cell (set_cell (set_cell (set_cell (set_cell e4))))), set_cell (set_cell (set_cell (set_cell (set_cell (set_cell e5)))))]
    simp
  · obtain ⟨e0, e1, e2, e3, e4, e5⟩ := h i (by omega)
    rw [set_cell (set_cell (set_cell (set_cell (set_cell (set_cell e0))))), set_cell (set_cell (set_cell (set_cell (set_cell (set_cell e1))))), set_cell (set_cell (set_cell (set_cell (set_cell (set_cell e2))))), set_cell (set_cell (set_cell (set_cell (set_cell (set_cell e3))))), set_cell (set_cell (set_cell (set_cell (set_cell (set_cell e4))))), set_cell (set_cell (set_cell (set_cell (set_cell (set_cell e5)))))]
    rw [if_neg (by omega), if_neg (by omega), if_neg (by omega), if_neg (by omega), if_neg (by omega), if_neg (by omega), if_neg (by omega), if_neg (by omega), if_neg (by omega), if_neg (by omega), if_neg (by omega), if_neg (by omega), if_neg (by omega), if_neg (by omega), if_neg (by omega), if_neg (by omega), if_neg (by omega), if_neg (by omega), if_neg (by omega), if_neg (by omega), if_neg (by omega), if_neg (by omega), if_neg (by omega), if_neg (by omega), if_neg (by omega), if_neg (by omega), if_neg (by omega), if_neg (by omega), if_neg (by omega), if_neg (by omega), if_neg (by omega), if_neg (by omega), if_neg (by omega), if_neg (by omega), if_neg (by omega), if_neg (by omega)]
    exact ⟨rfl, rfl, rfl, rfl, rfl, rfl⟩

end Tk
end Go.Proofs.YtbfgfedblnldcaaDoor

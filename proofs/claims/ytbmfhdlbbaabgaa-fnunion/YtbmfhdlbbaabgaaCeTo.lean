/- A copy of a centre. -/
import Derived.Test.YtbmfhdlbbaabgaaCeCtr
namespace Go.Proofs.Ytbmfhdlbbaabgaa
namespace Hn
open Go.ChangeShapes Go.WideShapes Go.ChangeAt Go.RowKit Go.Joins
open Pk (new_below join_below cell_at heap_new frozen_at lt_of kept heap_old Drawn info_of Room)
set_option linter.unusedSimpArgs false
set_option linter.unusedVariables false

/-- The block holds these cells; all else of the world v is kept. -/
theorem set_all {v : World} {P : Nat} {cs : Array Value} {t : TypeId} (h : v.heap[P]? = some (.cells cs t (0, 0))) : (∀ i, v.frozen? ⟨P, i, none⟩ = false) := fun i => frozen_at h i

theorem ints_other {w : World} {g P i : Nat} {zs : List Int} {u : Value} (h : Ints w (some ⟨g, 0, none⟩) zs) (hne : g ≠ P) : Ints (w.setCell ⟨P, i, none⟩ u) (some ⟨g, 0, none⟩) zs := by
  rcases h with h | ⟨b, o, e, hb, hc⟩
  · exact Or.inl h
  · simp only [Option.some.injEq, Addr.mk.injEq, and_true] at e
    obtain ⟨rfl, rfl⟩ := e
    refine Or.inr ⟨g, 0, rfl, by rw [World.size_setCell]; exact hb, fun j hj => ?_⟩
    rw [World.cell?_of_block (a := ⟨g, 0 + j, none⟩) (Below.heap_setCell _ _ _ _ hne)]
    exact hc j hj

theorem ctls_other {w : World} {g P i : Nat} {zs : List Ct} {u : Value} (h : Controls w (some ⟨g, 0, none⟩) zs) (hne : g ≠ P) : Controls (w.setCell ⟨P, i, none⟩ u) (some ⟨g, 0, none⟩) zs := by
  rcases h with h | ⟨b, o, e, hb, hc⟩
  · exact Or.inl h
  · simp only [Option.some.injEq, Addr.mk.injEq, and_true] at e
    obtain ⟨rfl, rfl⟩ := e
    refine Or.inr ⟨g, 0, rfl, by rw [World.size_setCell]; exact hb, fun j hj => ?_⟩
    rw [World.cell?_of_block (a := ⟨g, 0 + j * 6, none⟩) (Below.heap_setCell _ _ _ _ hne), World.cell?_of_block (a := ⟨g, 0 + j * 6 + 1, none⟩) (Below.heap_setCell _ _ _ _ hne), World.cell?_of_block (a := ⟨g, 0 + j * 6 + 2, none⟩) (Below.heap_setCell _ _ _ _ hne), World.cell?_of_block (a := ⟨g, 0 + j * 6 + 3, none⟩) (Below.heap_setCell _ _ _ _ hne), World.cell?_of_block (a := ⟨g, 0 + j * 6 + 4, none⟩) (Below.heap_setCell _ _ _ _ hne), World.cell?_of_block (a := ⟨g, 0 + j * 6 + 5, none⟩) (Below.heap_setCell _ _ _ _ hne)]
    exact hc j hj

/-- A world in which cells of two blocks alone are set. -/
structure Sw (P Q : Nat) (v w : World) : Prop where
  size : w.heap.size = v.heap.size
  block : ∀ b, b ≠ P → b ≠ Q → w.heap[b]? = v.heap[b]?

theorem Sw.refl (P Q : Nat) (v : World) : Sw P Q v v := ⟨rfl, fun _ _ _ => rfl⟩
theorem Sw.one {P Q i : Nat} {v w : World} (h : Sw P Q v w) (u : Value) : Sw P Q v (w.setCell ⟨P, i, none⟩ u) := ⟨by rw [World.size_setCell]; exact h.size, fun b h1 h2 => by rw [Below.heap_setCell w ⟨P, i, none⟩ u b h1]; exact h.block b h1 h2⟩
theorem Sw.two {P Q i : Nat} {v w : World} (h : Sw P Q v w) (u : Value) : Sw P Q v (w.setCell ⟨Q, i, none⟩ u) := ⟨by rw [World.size_setCell]; exact h.size, fun b h1 h2 => by rw [Below.heap_setCell w ⟨Q, i, none⟩ u b h2]; exact h.block b h1 h2⟩

theorem Sw.ints {P Q g : Nat} {v w : World} {zs : List Int} (s : Sw P Q v w) (h : Ints v (some ⟨g, 0, none⟩) zs) (h1 : g ≠ P) (h2 : g ≠ Q) : Ints w (some ⟨g, 0, none⟩) zs := by
  rcases h with h | ⟨b, o, e, hb, hc⟩
  · exact Or.inl h
  · simp only [Option.some.injEq, Addr.mk.injEq, and_true] at e
    obtain ⟨rfl, rfl⟩ := e
    refine Or.inr ⟨g, 0, rfl, by rw [s.size]; exact hb, fun j hj => ?_⟩
    rw [World.cell?_of_block (a := ⟨g, 0 + j, none⟩) (s.block g h1 h2)]
    exact hc j hj

theorem Sw.ctls {P Q g : Nat} {v w : World} {zs : List Ct} (s : Sw P Q v w) (h : Controls v (some ⟨g, 0, none⟩) zs) (h1 : g ≠ P) (h2 : g ≠ Q) : Controls w (some ⟨g, 0, none⟩) zs := by
  rcases h with h | ⟨b, o, e, hb, hc⟩
  · exact Or.inl h
  · simp only [Option.some.injEq, Addr.mk.injEq, and_true] at e
    obtain ⟨rfl, rfl⟩ := e
    refine Or.inr ⟨g, 0, rfl, by rw [s.size]; exact hb, fun j hj => ?_⟩
    rw [World.cell?_of_block (a := ⟨g, 0 + j * 6, none⟩) (s.block g h1 h2), World.cell?_of_block (a := ⟨g, 0 + j * 6 + 1, none⟩) (s.block g h1 h2), World.cell?_of_block (a := ⟨g, 0 + j * 6 + 2, none⟩) (s.block g h1 h2), World.cell?_of_block (a := ⟨g, 0 + j * 6 + 3, none⟩) (s.block g h1 h2), World.cell?_of_block (a := ⟨g, 0 + j * 6 + 4, none⟩) (s.block g h1 h2), World.cell?_of_block (a := ⟨g, 0 + j * 6 + 5, none⟩) (s.block g h1 h2)]
    exact hc j hj

theorem Sw.room {P Q g n : Nat} {v w : World} (s : Sw P Q v w) (h : Room v g n) (h1 : g ≠ P) (h2 : g ≠ Q) : Room w g n := by
  intro j hj
  rw [World.cell?_of_block (a := ⟨g, j, none⟩) (s.block g h1 h2), World.frozen?_of_block (a := ⟨g, j, none⟩) (s.block g h1 h2)]
  exact h j hj

end Hn
end Go.Proofs.Ytbmfhdlbbaabgaa

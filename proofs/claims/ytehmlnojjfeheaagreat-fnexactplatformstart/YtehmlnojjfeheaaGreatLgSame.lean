/- Rows of texts that are the same. -/
import Derived.Test.YtehmlnojjfeheaaGreatGtSplit
import Derived.Deep.RegionHeld3
namespace Go.Proofs.YtehmlnojjfeheaaGreat
namespace Gt
open Go.ChangeShapes Go.WideShapes Go.ChangeAt Go.RowKit
open Pk (own_at own_ge own_below own_form new_below join_below lt_of cell_at)
set_option linter.unusedSimpArgs false
set_option linter.unusedVariables false

/-- A slice of texts. -/
def Txts (w : World) (v : Value) (l : List ByteArray) : Prop := ∃ a cap, v = .slice a l.length cap ∧ (l.length = 0 ∨ ∃ g, a = some ⟨g, 0, none⟩ ∧ g < w.heap.size ∧ ∀ i (h : i < l.length), w.cell? ⟨g, i, none⟩ = some (.string l[i]))

theorem own_txts {w : World} {base : Nat} {v : Value} {l : List ByteArray} (h : w.ownsRow base 9 1 v l.length (tcells l)) : Txts w v l := by
  by_cases h0 : l.length = 0
  · obtain ⟨a, cap, hv, -⟩ := own_form h
    exact ⟨a, cap, hv, Or.inl h0⟩
  · obtain ⟨g, cap, hv⟩ := own_pos h (by omega)
    subst hv
    refine ⟨_, cap, rfl, Or.inr ⟨g, rfl, ?_, fun i hi => ?_⟩⟩
    · obtain ⟨g', cap', e, h1, h2, -⟩ := own_at h 0 (by omega)
      simp only [Value.slice.injEq, Option.some.injEq, Addr.mk.injEq] at e
      rw [e.1.1]
      exact h2
    · obtain ⟨g', cap', e, h1, h2, u, hu, hc⟩ := own_at h i hi
      simp only [Value.slice.injEq, Option.some.injEq, Addr.mk.injEq] at e
      rw [tcells_at l i hi] at hu
      rw [e.1.1, hc, ← Option.some.inj hu]

theorem Txts.on {w w1 : World} {v : Value} {l : List ByteArray} (h : Txts w v l) (L : Below w.heap.size w w1) : Txts w1 v l := by
  obtain ⟨a, cap, hv, h2⟩ := h
  refine ⟨a, cap, hv, ?_⟩
  rcases h2 with h2 | ⟨g, ha, hg, hc⟩
  · exact Or.inl h2
  · exact Or.inr ⟨g, ha, Nat.lt_of_lt_of_le hg L.size, fun i hi => by rw [L.cell (p := ⟨g, i, none⟩) hg]; exact hc i hi⟩

end Gt
end Go.Proofs.YtehmlnojjfeheaaGreat

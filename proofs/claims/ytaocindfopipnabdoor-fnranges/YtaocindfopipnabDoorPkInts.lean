/- Contracts of the laws' own helpers over rows of numbers that a function has made: two held against each other, one marked, one held against its marks. -/
import Derived.Test.YtaocindfopipnabDoorPkBits
namespace Go.Proofs.YtaocindfopipnabDoor
namespace Pk
open Go.ChangeShapes Go.WideShapes Go.ChangeAt Go.RowKit
set_option linter.unusedSimpArgs false
set_option linter.unusedVariables false

/-- What keeps the blocks below B keeps a row whose block lies there. -/
theorem own_keep {w w1 : World} {B base e size : Nat} {v : Value} {n : Nat} {xs : List Value} (h : w.ownsRow base e size v n xs) (L : Below B w w1) (hlt : ∀ k, v.ownBlock = some k → k < B) : w1.ownsRow base e size v n xs := by
  obtain ⟨h1, h2⟩ := h
  refine ⟨h1, ?_⟩
  rcases h2 with h2 | ⟨g, cap, cur, hv, hg, hh, hr⟩
  · exact Or.inl h2
  · exact Or.inr ⟨g, cap, cur, hv, hg, kept L (hlt g (by rw [hv]; rfl)) hh, hr⟩

/-- A row of which the first k are marked. -/
def marked (l : List Nat) (k : Nat) : List Nat := (List.range k).map (· + 1) ++ l.drop k

theorem marked_length (l : List Nat) (k : Nat) (h : k ≤ l.length) : (marked l k).length = l.length := by
  unfold marked
  simp
  omega

theorem marked_set (l : List Nat) (k : Nat) (h : k < l.length) : (marked l k).set k (k + 1) = marked l (k + 1) := by
  unfold marked
  rw [List.set_append_right _ _ (by simp)]
  simp only [List.length_map, List.length_range, Nat.sub_self]
  rw [List.drop_eq_getElem_cons h, List.set_cons_zero, List.range_succ, List.map_append]
  simp

theorem icells_set (l : List Nat) (i : Nat) (b : Nat) : (icells l).set i (.int .i64 (b : Int)) = icells (l.set i b) := by simp [icells, List.map_set]

theorem marked_at (l : List Nat) (k : Nat) (h : k < l.length) : (marked l l.length)[k]? = some (k + 1) := by
  unfold marked
  rw [List.getElem?_append_left (by simp; exact h)]
  simp [h]

end Pk
end Go.Proofs.YtaocindfopipnabDoor

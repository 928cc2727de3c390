/- The mathematics of journeys: ways of hops one behind the other, and the best of them. -/
import Derived.Test.YtfoccmhmgdengaaMathRd
namespace Go.Proofs.Ytfoccmhmgdengaa
namespace Rd
set_option linter.unusedSimpArgs false
set_option linter.unusedVariables false

/-- A hop: a ride, when it sets out, when it arrives. -/
structure Hp where
  r : Ri
  d : Int
  z : Int

/-- Hops of a list, one behind the other, from a station and an hour on. -/
def isWay (H : List Hp) : Int → Int → List Hp → Prop
  | _, _, [] => True
  | s, y, h :: p => h ∈ H ∧ h.r.fr = s ∧ y ≤ h.d ∧ isWay H h.r.to (h.z + 3) p

/-- Where a way leads, and from when on it goes on. -/
def endS : Int → List Hp → Int
  | s, [] => s
  | _, h :: p => endS h.r.to p
def endY : Int → List Hp → Int
  | y, [] => y
  | _, h :: p => endY (h.z + 3) p

theorem endS_append (s : Int) (p q : List Hp) : endS s (p ++ q) = endS (endS s p) q := by
  induction p generalizing s with
  | nil => rfl
  | cons h p ih => exact ih _

theorem endY_append (y : Int) (p q : List Hp) : endY y (p ++ q) = endY (endY y p) q := by
  induction p generalizing y with
  | nil => rfl
  | cons h p ih => exact ih _

theorem isWay_append (H : List Hp) (s y : Int) (p q : List Hp) : isWay H s y (p ++ q) ↔ isWay H s y p ∧ isWay H (endS s p) (endY y p) q := by
  induction p generalizing s y with
  | nil => simp [isWay, endS, endY]
  | cons h p ih =>
    simp only [List.cons_append, isWay, endS, endY, ih]
    constructor
    · rintro ⟨h1, h2, h3, h4, h5⟩
      exact ⟨⟨h1, h2, h3, h4⟩, h5⟩
    · rintro ⟨⟨h1, h2, h3, h4⟩, h5⟩
      exact ⟨h1, h2, h3, h4, h5⟩

theorem isWay_snoc (H : List Hp) (s y : Int) (p : List Hp) (h : Hp) : isWay H s y (p ++ [h]) ↔ isWay H s y p ∧ h ∈ H ∧ h.r.fr = endS s p ∧ endY y p ≤ h.d := by
  rw [isWay_append]
  simp [isWay]

/-- A way may begin earlier. -/
theorem isWay_earlier {H : List Hp} {s y y' : Int} {p : List Hp} (h : isWay H s y p) (hy : y' ≤ y) : isWay H s y' p := by
  cases p with
  | nil => trivial
  | cons h0 p => exact ⟨h.1, h.2.1, by have := h.2.2.1; omega, h.2.2.2⟩

/-- Its rides. -/
def ridesOf (p : List Hp) : List Ri := p.map fun h => h.r

theorem ridesOf_length (p : List Hp) : (ridesOf p).length = p.length := by simp [ridesOf]

theorem ridesOf_append (p q : List Hp) : ridesOf (p ++ q) = ridesOf p ++ ridesOf q := by simp [ridesOf]

/-- A journey: a way of one to six hops that ends at a station. -/
def isTrip (H : List Hp) (s y to : Int) (p : List Hp) : Prop := isWay H s y p ∧ 1 ≤ p.length ∧ p.length ≤ 6 ∧ endS s p = to

/-- No other arrives sooner, nor as soon with fewer rides, nor so with rides that come first. -/
def isBest (H : List Hp) (s y to : Int) (p : List Hp) : Prop := isTrip H s y to p ∧ ∀ q, isTrip H s y to q → endY y p < endY y q ∨ (endY y p = endY y q ∧ (p.length < q.length ∨ (p.length = q.length ∧ less (ridesOf q) (ridesOf p) = false)))

/-- There is one best answer. -/
theorem best_one {H : List Hp} {s y to : Int} {p q : List Hp} (hp : isBest H s y to p) (hq : isBest H s y to q) : endY y p = endY y q ∧ ridesOf p = ridesOf q := by
  have h1 := hp.2 q hq.1
  have h2 := hq.2 p hp.1
  have he : endY y p = endY y q := by omega
  have hl : p.length = q.length := by
    rcases h1 with h1 | ⟨-, h1 | ⟨h1, -⟩⟩
    · omega
    · rcases h2 with h2 | ⟨-, h2 | ⟨h2, -⟩⟩ <;> omega
    · exact h1
  refine ⟨he, ?_⟩
  have l1 : less (ridesOf q) (ridesOf p) = false := by
    rcases h1 with h1 | ⟨-, h1 | ⟨-, h1⟩⟩
    · omega
    · omega
    · exact h1
  have l2 : less (ridesOf p) (ridesOf q) = false := by
    rcases h2 with h2 | ⟨-, h2 | ⟨-, h2⟩⟩
    · omega
    · omega
    · exact h2
  rcases less_tri (ridesOf p) (ridesOf q) (by rw [ridesOf_length, ridesOf_length, hl]) with h | h | h
  · rw [l2] at h; cases h
  · exact h
  · rw [l1] at h; cases h

/-- A way whose beginning is put in the place of another that leads there as soon, of the same number of hops, with rides that come first. -/
theorem swap_less {H : List Hp} {s y : Int} {p p' q : List Hp} (hl : p.length = p'.length) (h : less (ridesOf p') (ridesOf p) = true) : less (ridesOf (p' ++ q)) (ridesOf (p ++ q)) = true := by
  rw [ridesOf_append, ridesOf_append, less_append _ _ _ _ (by rw [ridesOf_length, ridesOf_length, hl])]
  exact Or.inl h

/-- A way goes on as well from another that is at the same station as soon. -/
theorem swap_way {H : List Hp} {s y : Int} {p p' q : List Hp} (hw : isWay H s y (p ++ q)) (hp : isWay H s y p') (hs : endS s p' = endS s p) (hy : endY y p' ≤ endY y p) : isWay H s y (p' ++ q) := by
  rw [isWay_append] at hw ⊢
  rw [hs]
  exact ⟨hp, isWay_earlier hw.2 hy⟩

/-- Behind at least one hop more the hour is the last hop's. -/
theorem endY_same (y y' : Int) (q : List Hp) (h : q ≠ []) : endY y q = endY y' q := by
  cases q with
  | nil => exact absurd rfl h
  | cons h0 q => rfl

end Rd
end Go.Proofs.Ytfoccmhmgdengaa

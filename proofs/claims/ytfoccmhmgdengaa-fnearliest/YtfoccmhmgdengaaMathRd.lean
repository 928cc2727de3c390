/- The mathematics of rides: lists of them compared one by one. -/
import Derived.Test.YtfoccmhmgdengaaTnRides
namespace Go.Proofs.Ytfoccmhmgdengaa
namespace Rd
set_option linter.unusedSimpArgs false
set_option linter.unusedVariables false

/-- The first number in which two lists differ decides. -/
def lexlt : List Int → List Int → Bool
  | a :: p, b :: q => decide (a < b) || (decide (a = b) && lexlt p q)
  | _, _ => false

theorem lexlt_irrefl (a : List Int) : lexlt a a = false := by
  induction a with
  | nil => rfl
  | cons x a ih => simp [lexlt, ih]

theorem lexlt_cons (x y : Int) (a b : List Int) : lexlt (x :: a) (y :: b) = true ↔ x < y ∨ (x = y ∧ lexlt a b = true) := by
  simp [lexlt]

theorem lexlt_trans {a b c : List Int} (h1 : lexlt a b = true) (h2 : lexlt b c = true) : lexlt a c = true := by
  induction a generalizing b c with
  | nil => simp [lexlt] at h1
  | cons x a ih =>
    cases b with
    | nil => simp [lexlt] at h1
    | cons y b =>
      cases c with
      | nil => simp [lexlt] at h2
      | cons z c =>
        rw [lexlt_cons] at h1 h2 ⊢
        rcases h1 with h1 | ⟨rfl, h1⟩
        · rcases h2 with h2 | ⟨rfl, h2⟩
          · exact Or.inl (by omega)
          · exact Or.inl h1
        · rcases h2 with h2 | ⟨rfl, h2⟩
          · exact Or.inl h2
          · exact Or.inr ⟨rfl, ih h1 h2⟩

theorem lexlt_asymm {a b : List Int} (h : lexlt a b = true) : lexlt b a = false := by
  cases h2 : lexlt b a with
  | false => rfl
  | true =>
    have := lexlt_trans h h2
    rw [lexlt_irrefl] at this
    exact this.symm

/-- Of two lists of one length one is the first, or they are one. -/
theorem lexlt_tri (a b : List Int) (h : a.length = b.length) : lexlt a b = true ∨ a = b ∨ lexlt b a = true := by
  induction a generalizing b with
  | nil =>
    cases b with
    | nil => exact Or.inr (Or.inl rfl)
    | cons y b => simp at h
  | cons x a ih =>
    cases b with
    | nil => simp at h
    | cons y b =>
      rw [lexlt_cons, lexlt_cons]
      rcases Int.lt_trichotomy x y with h1 | rfl | h1
      · exact Or.inl (Or.inl h1)
      · rcases ih b (by simpa using h) with h2 | rfl | h2
        · exact Or.inl (Or.inr ⟨rfl, h2⟩)
        · exact Or.inr (Or.inl rfl)
        · exact Or.inr (Or.inr (Or.inr ⟨rfl, h2⟩))
      · exact Or.inr (Or.inr (Or.inl h1))

/-- What stands ahead decides first. -/
theorem lexlt_append (a b c d : List Int) (h : a.length = b.length) : lexlt (a ++ c) (b ++ d) = true ↔ lexlt a b = true ∨ (a = b ∧ lexlt c d = true) := by
  induction a generalizing b with
  | nil =>
    cases b with
    | nil => simp [lexlt]
    | cons y b => simp at h
  | cons x a ih =>
    cases b with
    | nil => simp at h
    | cons y b =>
      rw [List.cons_append, List.cons_append, lexlt_cons, lexlt_cons, ih b (by simpa using h)]
      constructor
      · rintro (h1 | ⟨rfl, h1 | ⟨rfl, h1⟩⟩)
        · exact Or.inl (Or.inl h1)
        · exact Or.inl (Or.inr ⟨rfl, h1⟩)
        · exact Or.inr ⟨rfl, h1⟩
      · rintro ((h1 | ⟨rfl, h1⟩) | ⟨h1, h2⟩)
        · exact Or.inl h1
        · exact Or.inr ⟨rfl, Or.inl h1⟩
        · simp only [List.cons.injEq] at h1
          exact Or.inr ⟨h1.1, Or.inr ⟨h1.2, h2⟩⟩

/-- The numbers of rides, one behind the other. -/
def flat (rs : List Ri) : List Int := rs.flatMap fun r => [r.tr, r.dy, r.fr, r.to]

theorem flat_length (rs : List Ri) : (flat rs).length = rs.length * 4 := by
  induction rs with
  | nil => rfl
  | cons r rs ih =>
    have : flat (r :: rs) = [r.tr, r.dy, r.fr, r.to] ++ flat rs := by simp [flat]
    rw [this, List.length_append, ih, List.length_cons]
    simp
    omega

theorem flat_append (a b : List Ri) : flat (a ++ b) = flat a ++ flat b := by simp [flat]

theorem flat_inj {a b : List Ri} (h : a.length = b.length) (e : flat a = flat b) : a = b := by
  induction a generalizing b with
  | nil =>
    cases b with
    | nil => rfl
    | cons y b => simp at h
  | cons x a ih =>
    cases b with
    | nil => simp at h
    | cons y b =>
      obtain ⟨x0, x1, x2, x3⟩ := x
      obtain ⟨y0, y1, y2, y3⟩ := y
      simp [flat] at e
      obtain ⟨rfl, rfl, rfl, rfl, e⟩ := e
      rw [ih (by simpa using h) (by simpa [flat] using e)]

/-- Whether some rides come first when they are compared one by one. -/
def less (a b : List Ri) : Bool := lexlt (flat a) (flat b)

theorem less_irrefl (a : List Ri) : less a a = false := lexlt_irrefl _

theorem less_trans {a b c : List Ri} (h1 : less a b = true) (h2 : less b c = true) : less a c = true := lexlt_trans h1 h2

theorem less_tri (a b : List Ri) (h : a.length = b.length) : less a b = true ∨ a = b ∨ less b a = true := by
  rcases lexlt_tri (flat a) (flat b) (by rw [flat_length, flat_length, h]) with h1 | h1 | h1
  · exact Or.inl h1
  · exact Or.inr (Or.inl (flat_inj h h1))
  · exact Or.inr (Or.inr h1)

/-- What is ahead decides; where that is one, what is behind. -/
theorem less_append (a b c d : List Ri) (h : a.length = b.length) : less (a ++ c) (b ++ d) = true ↔ less a b = true ∨ (a = b ∧ less c d = true) := by
  unfold less
  rw [flat_append, flat_append, lexlt_append _ _ _ _ (by rw [flat_length, flat_length, h])]
  constructor
  · rintro (h1 | ⟨h1, h2⟩)
    · exact Or.inl h1
    · exact Or.inr ⟨flat_inj h h1, h2⟩
  · rintro (h1 | ⟨rfl, h2⟩)
    · exact Or.inl h1
    · exact Or.inr ⟨rfl, h2⟩

end Rd
end Go.Proofs.Ytfoccmhmgdengaa

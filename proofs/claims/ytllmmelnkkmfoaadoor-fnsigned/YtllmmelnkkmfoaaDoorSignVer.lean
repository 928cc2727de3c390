/- Contract of the model's Verify. -/
import Derived.Test.YtllmmelnkkmfoaaDoorSignSpec2
namespace Go.Proofs.YtllmmelnkkmfoaaDoor
namespace Num
open Go.ChangeShapes Go.WideShapes Go.ChangeAt Go.RowKit
set_option linter.unusedSimpArgs false
set_option linter.unusedVariables false

/-- Whether all that the equation is made of is in its bounds. -/
def verOk (p q g o r s : Int) (t : ByteArray) : Bool := okP p q g && opOk p q o && inQ q r && inQ q s && decide (t.size ≤ 5000)

/-- What Verify answers. -/
def verV (p q g o r s : Int) (t : ByteArray) : Bool := verOk p q g o r s t && (eqV p q g o (hV t q) r s == r)

theorem two_new (w : World) (a b : Obj) : Below w.heap.size w ((w.alloc a).alloc b) ∧ ((w.alloc a).alloc b).heap[w.heap.size]? = some a ∧ ((w.alloc a).alloc b).heap[w.heap.size + 1]? = some b := by
  refine ⟨((Below.refl _ _).alloc (Nat.le_refl _) _).alloc (by simp) _, heap_old (heap_new w a) b, ?_⟩
  have := heap_new (w.alloc a) b
  simpa using this

theorem ver_cases (p q g o r s : Int) (t : ByteArray) : (okP p q g = false ∧ verOk p q g o r s t = false) ∨ (okP p q g = true ∧ ¬ (2 ≤ o ∧ o ≤ p - 1) ∧ verOk p q g o r s t = false) ∨ (okP p q g = true ∧ (2 ≤ o ∧ o ≤ p - 1) ∧ powV o q p ≠ 1 ∧ verOk p q g o r s t = false)
    ∨ (okP p q g = true ∧ (2 ≤ o ∧ o ≤ p - 1) ∧ powV o q p = 1 ∧ ¬ (1 ≤ r ∧ r ≤ q - 1) ∧ verOk p q g o r s t = false) ∨ (okP p q g = true ∧ (2 ≤ o ∧ o ≤ p - 1) ∧ powV o q p = 1 ∧ (1 ≤ r ∧ r ≤ q - 1) ∧ ¬ (1 ≤ s ∧ s ≤ q - 1) ∧ verOk p q g o r s t = false)
    ∨ (okP p q g = true ∧ (2 ≤ o ∧ o ≤ p - 1) ∧ powV o q p = 1 ∧ (1 ≤ r ∧ r ≤ q - 1) ∧ (1 ≤ s ∧ s ≤ q - 1) ∧ 5000 < t.size ∧ verOk p q g o r s t = false) ∨ (okP p q g = true ∧ (2 ≤ o ∧ o ≤ p - 1) ∧ powV o q p = 1 ∧ (1 ≤ r ∧ r ≤ q - 1) ∧ (1 ≤ s ∧ s ≤ q - 1) ∧ t.size ≤ 5000 ∧ verOk p q g o r s t = true) := by
  cases h1 : okP p q g
  · exact Or.inl ⟨rfl, by simp [verOk, h1]⟩
  by_cases h2 : 2 ≤ o ∧ o ≤ p - 1
  · by_cases h3 : powV o q p = 1
    · by_cases h4 : 1 ≤ r ∧ r ≤ q - 1
      · by_cases h5 : 1 ≤ s ∧ s ≤ q - 1
        · by_cases h6 : t.size ≤ 5000
          · exact Or.inr (Or.inr (Or.inr (Or.inr (Or.inr (Or.inr ⟨rfl, h2, h3, h4, h5, h6, by simp [verOk, opOk, inQ, h1, h2, h3, h4, h5, h6]⟩)))))
          · exact Or.inr (Or.inr (Or.inr (Or.inr (Or.inr (Or.inl ⟨rfl, h2, h3, h4, h5, by omega, by simp [verOk, h6]⟩)))))
        · exact Or.inr (Or.inr (Or.inr (Or.inr (Or.inl ⟨rfl, h2, h3, h4, h5, by rw [verOk, show inQ q s = false from decide_eq_false h5]; simp⟩))))
      · exact Or.inr (Or.inr (Or.inr (Or.inl ⟨rfl, h2, h3, h4, by rw [verOk, show inQ q r = false from decide_eq_false h4]; simp⟩)))
    · exact Or.inr (Or.inr (Or.inl ⟨rfl, h2, h3, by simp [verOk, opOk, h3]⟩))
  · exact Or.inr (Or.inl ⟨rfl, h2, by rw [verOk, show opOk p q o = false from by rw [opOk, decide_eq_false h2]; rfl]; simp⟩)

theorem verV_no {p q g o r s : Int} {t : ByteArray} (h : verOk p q g o r s t = false) : verV p q g o r s t = false := by rw [verV, h]; rfl

theorem specPowMod_is (a n m v : Int) (h : powV a n m = v) (w : World) :
    Calls Tryd.prog 63 #[.int .i64 a, .int .i64 n, .int .i64 m] w fun e w' => e = .returned (.int .i64 v) ∧ Drawn w w' := by
  subst h
  exact specPowMod_val a n m w

end Num
end Go.Proofs.YtllmmelnkkmfoaaDoor

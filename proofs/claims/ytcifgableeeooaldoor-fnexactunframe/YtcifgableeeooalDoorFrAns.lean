/- What Unframe answers. -/
import Derived.Test.YtcifgableeeooalDoorFrMath
import Derived.Test.YtcifgableeeooalDoorSignRead
namespace Go.Proofs.YtcifgableeeooalDoor
namespace Fr
open Math (unpC unpT)
open Num (rmR rmS)
set_option linter.unusedVariables false

def fC (s : ByteArray) : Nat := if ¬ 5 ≤ s.size ∨ s.extract 0 5 ≠ hd5 then 1 else if s.size < 17 ∨ dg (s.extract 5 9) 4 = none then 2 else if s.size < 21 ∨ dg (s.extract 17 21) 4 ≠ some (s.size - 21) then 3 else if unpC (s.extract 21 s.size) ≠ 0 then 4 else 0
def fN (s : ByteArray) : Int := if fC s = 0 then digI (s.extract 5 9) else 0
def fR (s : ByteArray) : Int := if fC s = 0 then rmR (s.extract 9 17) else 0
def fS (s : ByteArray) : Int := if fC s = 0 then rmS (s.extract 9 17) else 0
def fP (s : ByteArray) : ByteArray := if fC s = 0 then unpT (s.extract 21 s.size) else ⟨#[]⟩

theorem f_no {s : ByteArray} (h : fC s ≠ 0) : fN s = 0 ∧ fR s = 0 ∧ fS s = 0 ∧ fP s = ⟨#[]⟩ := ⟨if_neg h, if_neg h, if_neg h, if_neg h⟩
theorem f_yes {s : ByteArray} (h : fC s = 0) : fN s = digI (s.extract 5 9) ∧ fR s = rmR (s.extract 9 17) ∧ fS s = rmS (s.extract 9 17) ∧ fP s = unpT (s.extract 21 s.size) := ⟨if_pos h, if_pos h, if_pos h, if_pos h⟩

theorem f_cases (s : ByteArray) : (Bad1 s ∧ fC s = 1) ∨ (¬ Bad1 s ∧ Bad2 s ∧ fC s = 2) ∨ (¬ Bad1 s ∧ ¬ Bad2 s ∧ Bad3 s ∧ fC s = 3) ∨ (¬ Bad1 s ∧ ¬ Bad2 s ∧ ¬ Bad3 s ∧ Bad4 s ∧ fC s = 4) ∨ (¬ Bad1 s ∧ ¬ Bad2 s ∧ ¬ Bad3 s ∧ ¬ Bad4 s ∧ fC s = 0) := by
  unfold Bad1 Bad2 Bad3 Bad4
  by_cases h1 : ¬ 5 ≤ s.size ∨ s.extract 0 5 ≠ hd5
  · exact Or.inl ⟨h1, by unfold fC; rw [if_pos h1]⟩
  by_cases h2 : s.size < 17 ∨ dg (s.extract 5 9) 4 = none
  · exact Or.inr (Or.inl ⟨h1, h2, by unfold fC; rw [if_neg h1, if_pos h2]⟩)
  by_cases h3 : s.size < 21 ∨ dg (s.extract 17 21) 4 ≠ some (s.size - 21)
  · exact Or.inr (Or.inr (Or.inl ⟨h1, h2, h3, by unfold fC; rw [if_neg h1, if_neg h2, if_pos h3]⟩))
  by_cases h4 : unpC (s.extract 21 s.size) ≠ 0
  · exact Or.inr (Or.inr (Or.inr (Or.inl ⟨h1, h2, h3, h4, by unfold fC; rw [if_neg h1, if_neg h2, if_neg h3, if_pos h4]⟩)))
  · exact Or.inr (Or.inr (Or.inr (Or.inr ⟨h1, h2, h3, h4, by unfold fC; rw [if_neg h1, if_neg h2, if_neg h3, if_neg h4]⟩)))

/-- The answer. -/
abbrev u4 (n r s : Int) (p : ByteArray) (c : Int) : Go.Value := .tuple #[.int .i64 n, .agg #[.int .i64 r, .int .i64 s], .string p, .int .i64 c]

end Fr
end Go.Proofs.YtcifgableeeooalDoor

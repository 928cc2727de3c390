/- The mathematics of chapter 3: the pieces of a text. -/
import Derived.Test.YtcifgableeeooabDoorMathWhole
namespace Go.Proofs.YtcifgableeeooabDoor
namespace Math

/-- How many bytes from the place l on, behind n, are as those from the place e on (as far as the fuel goes). -/
def runFrom (s : ByteArray) (e l : Nat) : Nat → Nat → Nat
  | 0, n => n
  | f + 1, n => if l + n < s.size ∧ s[e + n]? = s[l + n]? then runFrom s e l f (n + 1) else n

/-- How many bytes from l on are as those from e on, at most 258. -/
def run (s : ByteArray) (e l : Nat) : Nat := runFrom s e l 258 0

theorem runFrom_le (s : ByteArray) (e l f n : Nat) : runFrom s e l f n ≤ n + f := by
  induction f generalizing n with
  | zero => exact Nat.le_refl _
  | succ f ih =>
    unfold runFrom
    split
    · have := ih (n + 1); omega
    · omega

theorem runFrom_fits (s : ByteArray) (e l f n : Nat) (h : l + n ≤ s.size) : l + runFrom s e l f n ≤ s.size := by
  induction f generalizing n with
  | zero => exact h
  | succ f ih =>
    unfold runFrom
    split
    · rename_i h1
      exact ih (n + 1) (by omega)
    · exact h

theorem run_le (s : ByteArray) (e l : Nat) : run s e l ≤ 258 := by
  have := runFrom_le s e l 258 0
  unfold run
  omega

theorem run_fits (s : ByteArray) (e l : Nat) (h : l ≤ s.size) : l + run s e l ≤ s.size := runFrom_fits s e l 258 0 h

theorem runFrom_yes (s : ByteArray) (e l n : Nat) (hn : n < 258) (h : l + n < s.size) (hs : s[e + n]? = s[l + n]?) : runFrom s e l (258 - n) n = runFrom s e l (258 - (n + 1)) (n + 1) := by
  rw [show 258 - n = (258 - (n + 1)) + 1 by omega, runFrom, if_pos ⟨h, hs⟩]

theorem runFrom_no (s : ByteArray) (e l n : Nat) (h : ¬ (n < 258 ∧ l + n < s.size ∧ s[e + n]? = s[l + n]?)) : runFrom s e l (258 - n) n = n := by
  by_cases hn : n < 258
  · rw [show 258 - n = (258 - (n + 1)) + 1 by omega, runFrom, if_neg (by intro h1; exact h ⟨hn, h1.1, h1.2⟩)]
  · rw [show 258 - n = 0 by omega]
    rfl

/-- The longest run among the ways back up to k, and the nearest way back that has it. -/
def best (s : ByteArray) (i : Nat) : Nat → Nat × Nat
  | 0 => (0, 0)
  | k + 1 => if (best s i k).1 < run s (i - (k + 1)) i then (run s (i - (k + 1)) i, k + 1) else best s i k

theorem best_le (s : ByteArray) (i k : Nat) : (best s i k).1 ≤ 258 ∧ (best s i k).2 ≤ k := by
  induction k with
  | zero => exact ⟨by simp [best], by simp [best]⟩
  | succ k ih =>
    unfold best
    split
    · exact ⟨run_le _ _ _, Nat.le_refl _⟩
    · exact ⟨ih.1, by omega⟩

theorem best_fits (s : ByteArray) (i k : Nat) (h : i ≤ s.size) : i + (best s i k).1 ≤ s.size := by
  induction k with
  | zero => simpa [best] using h
  | succ k ih =>
    unfold best
    split
    · exact run_fits _ _ _ h
    · exact ih

/-- How far back is looked at a place. -/
def far (i : Nat) : Nat := min i 1024

/-- The piece at a place, and how far it goes. -/
def pieceAt (s : ByteArray) (i : Nat) : Pc := if 3 ≤ (best s i (far i)).1 then ⟨0, (best s i (far i)).1, (best s i (far i)).2⟩ else ⟨((s.data.toList.getD i 0).toNat : Int), 0, 0⟩
def stepAt (s : ByteArray) (i : Nat) : Nat := if 3 ≤ (best s i (far i)).1 then (best s i (far i)).1 else 1

/-- The pieces from a place on. -/
def pcsFrom (s : ByteArray) : Nat → Nat → List Pc
  | 0, _ => []
  | f + 1, i => if i < s.size then pieceAt s i :: pcsFrom s f (i + stepAt s i) else []

/-- The pieces of a text. -/
def pieces (s : ByteArray) : List Pc := if s.size ≤ 3000 then pcsFrom s s.size 0 else []

theorem stepAt_pos (s : ByteArray) (i : Nat) : 1 ≤ stepAt s i := by
  unfold stepAt
  split
  · omega
  · omega

theorem stepAt_fits (s : ByteArray) (i : Nat) (h : i < s.size) : i + stepAt s i ≤ s.size := by
  unfold stepAt
  split
  · exact best_fits s i _ (by omega)
  · omega

theorem pcsFrom_step (s : ByteArray) (n i : Nat) (hi : i < s.size) (hn : n ≤ i) : pcsFrom s (s.size - n) i = pieceAt s i :: pcsFrom s (s.size - (n + 1)) (i + stepAt s i) := by
  rw [show s.size - n = (s.size - (n + 1)) + 1 by omega, pcsFrom, if_pos hi]

theorem pcsFrom_end (s : ByteArray) (f i : Nat) (hi : ¬ i < s.size) : pcsFrom s f i = [] := by
  cases f with
  | zero => rfl
  | succ f => rw [pcsFrom, if_neg hi]

end Math
end Go.Proofs.YtcifgableeeooabDoor

/- The mathematics of trains: when one is right, where it stops, on which days it runs. -/
import Derived.Test.YtfoccmhmgdengaaTnStops
namespace Go.Proofs.Ytfoccmhmgdengaa
namespace Tn
set_option linter.unusedSimpArgs false
set_option linter.unusedVariables false

/-- A number lies between two. -/
def inB (x a b : Int) : Bool := decide (a ≤ x ∧ x ≤ b)

theorem inB_yes {x a b : Int} (h : inB x a b = true) : a ≤ x ∧ x ≤ b := of_decide_eq_true h

/-- A train's numbers but for its stops. -/
structure Hd where
  id : Int
  dy : Int
  co : Int
  se : Int

def seatB (t : Hd) : Bool := (decide (t.co = 0) && decide (t.se = 0)) || (inB t.co 1 20 && inB t.se 1 90)

def headB (t : Hd) : Bool := inB t.id 1 9999 && inB t.dy 1 127 && seatB t

def stB (s : St) : Bool := inB s.st 1 9999 && inB s.ar 0 4000 && inB s.dp s.ar 4000

/-- The number of the first stop at a station, from a place on; -1 where there is none. -/
def idx : List St → Int → Nat → Int
  | [], _, _ => -1
  | s :: l, x, i => if s.st = x then i else idx l x (i + 1)

def z0 : St := ⟨0, 0, 0⟩

def gapB (l : List St) (i : Nat) : Bool := decide (i = 0) || decide ((l.getD (i - 1) z0).dp < (l.getD i z0).ar)

def stepB (l : List St) (i : Nat) : Bool := stB (l.getD i z0) && decide (idx l (l.getD i z0).st 0 = i) && gapB l i

def stepsFrom (l : List St) (i : Nat) : Bool := ((List.range l.length).drop i).all (stepB l)

def stopsB (l : List St) : Bool := inB l.length 2 20 && stepsFrom l 0

def okB (t : Hd) (l : List St) : Bool := headB t && stopsB l

theorem stepsFrom_step (l : List St) (i : Nat) (h : i < l.length) : stepsFrom l i = (stepB l i && stepsFrom l (i + 1)) := by
  unfold stepsFrom
  rw [List.drop_eq_getElem_cons (by simpa using h), List.all_cons]
  simp

theorem stepsFrom_end (l : List St) (i : Nat) (h : ¬ i < l.length) : stepsFrom l i = true := by
  unfold stepsFrom
  rw [List.drop_eq_nil_of_le (by simp; omega)]
  rfl

theorem getD_at (l : List St) (i : Nat) (h : i < l.length) : l.getD i z0 = l[i] := by simp [List.getD, h]

theorem idx_drop (l : List St) (x : Int) (k j : Nat) (h : ∀ i (hi : i < l.length), i < k → l[i].st ≠ x) : idx l x j = idx (l.drop k) x (j + k) := by
  induction k generalizing l j with
  | zero => rfl
  | succ k ih =>
    cases l with
    | nil => rfl
    | cons s l =>
      rw [List.drop_succ_cons]
      have h0 := h 0 (by simp) (by omega)
      simp at h0
      rw [idx, if_neg h0, ih l (j + 1) (fun i hi hk => by
        have := h (i + 1) (by simpa using hi) (by omega)
        simpa using this)]
      congr 1
      omega

theorem idx_at (l : List St) (x : Int) (k : Nat) (h : ∀ i (hi : i < l.length), i < k → l[i].st ≠ x) (hk : k < l.length) (e : l[k].st = x) : idx l x 0 = k := by
  rw [idx_drop l x k 0 h, List.drop_eq_getElem_cons hk, idx, if_pos e, Nat.zero_add]

theorem idx_none (l : List St) (x : Int) (h : ∀ i (hi : i < l.length), l[i].st ≠ x) : idx l x 0 = -1 := by
  rw [idx_drop l x l.length 0 (fun i hi _ => h i hi), List.drop_length]
  rfl

theorem idx_from (l : List St) (x : Int) (j : Nat) : (idx l x j = -1 ∧ ∀ i (hi : i < l.length), l[i].st ≠ x) ∨ ∃ k, ∃ hk : k < l.length, idx l x j = (j + k : Nat) ∧ l[k].st = x ∧ ∀ i (hi : i < l.length), i < k → l[i].st ≠ x := by
  induction l generalizing j with
  | nil => exact Or.inl ⟨rfl, fun i hi => by simp at hi⟩
  | cons s l ih =>
    by_cases e : s.st = x
    · exact Or.inr ⟨0, by simp, by rw [idx, if_pos e]; rfl, e, fun i _ h => by omega⟩
    · rw [idx, if_neg e]
      rcases ih (j + 1) with ⟨h, h1⟩ | ⟨k, hk, h, h1, h2⟩
      · refine Or.inl ⟨h, fun i hi => ?_⟩
        cases i with
        | zero => exact e
        | succ i => exact h1 i (by simpa using hi)
      · refine Or.inr ⟨k + 1, by simpa using hk, by rw [h]; congr 1; omega, h1, fun i hi hik => ?_⟩
        cases i with
        | zero => exact e
        | succ i => exact h2 i (by simpa using hi) (by omega)

/-- What the number of a stop tells. -/
theorem idx_is (l : List St) (x : Int) : (idx l x 0 = -1 ∧ ∀ i (hi : i < l.length), l[i].st ≠ x) ∨ ∃ k, ∃ hk : k < l.length, idx l x 0 = k ∧ l[k].st = x ∧ ∀ i (hi : i < l.length), i < k → l[i].st ≠ x := by
  rcases idx_from l x 0 with h | ⟨k, hk, h, h1, h2⟩
  · exact Or.inl h
  · exact Or.inr ⟨k, hk, by rw [h, Nat.zero_add], h1, h2⟩

theorem idx_bds (l : List St) (x : Int) : -1 ≤ idx l x 0 ∧ idx l x 0 < l.length := by
  rcases idx_is l x with ⟨h, -⟩ | ⟨k, hk, h, -⟩ <;> omega

/-- A station twice: the later stop's number is not the first's. -/
theorem idx_twice (l : List St) (i k : Nat) (hi : i < l.length) (hk : k < i) (e : l[k].st = l[i].st) : idx l l[i].st 0 ≠ i := by
  rcases idx_is l l[i].st with ⟨-, h⟩ | ⟨j, hj, h, h1, h2⟩
  · exact absurd rfl (h i hi)
  · intro h3
    have : j = i := by omega
    subst this
    exact h2 k (by omega) hk e

theorem seat_is (t : Hd) : (inB t.co 0 20 && inB t.se 0 90 && ((t.co == 0) == (t.se == 0))) = seatB t := by
  obtain ⟨id, dy, co, se⟩ := t
  unfold seatB inB
  dsimp only
  rw [Bool.eq_iff_iff]
  by_cases h1 : co = 0
  · by_cases h2 : se = 0
    · simp [h1, h2]
    · simp [h1, h2]
  · by_cases h2 : se = 0
    · simp [h1, h2]
    · have e1 : (co == 0) = false := beq_eq_false_iff_ne.2 h1
      have e2 : (se == 0) = false := beq_eq_false_iff_ne.2 h2
      rw [e1, e2]
      simp [h1, h2]
      omega

end Tn
end Go.Proofs.Ytfoccmhmgdengaa

/- The mathematics of chapter 3: what a list of pieces makes up. -/
import Derived.Test.YtcifgableeeooalDoorRows
namespace Go.Proofs.YtcifgableeeooalDoor
namespace Math

/-- A piece: its byte, its length, its way back. -/
structure Pc where
  x : Int
  n : Int
  d : Int

/-- A text with a copy behind it. -/
def copyN (l : List UInt8) (d : Nat) : Nat → List UInt8
  | 0 => l
  | n + 1 => copyN l d n ++ [(copyN l d n).getD ((copyN l d n).length - d) 0]

theorem copyN_length (l : List UInt8) (d n : Nat) : (copyN l d n).length = l.length + n := by
  induction n with
  | zero => rfl
  | succ n ih => rw [copyN, List.length_append, ih]; rfl

/-- Whether a piece tells a byte, or a copy. -/
def Pc.isB (p : Pc) : Bool := decide (p.n = 0 ∧ p.d = 0 ∧ 0 ≤ p.x ∧ p.x ≤ 255)
def Pc.isC (p : Pc) : Bool := decide (p.x = 0 ∧ 3 ≤ p.n ∧ p.n ≤ 258 ∧ 1 ≤ p.d ∧ p.d ≤ 1024)

/-- A text with a piece more, if it may have it. -/
def step (l : List UInt8) (p : Pc) : Option (List UInt8) :=
  if p.isB = true ∧ l.length < 3000 then some (l ++ [UInt8.ofNat p.x.toNat])
  else if p.isC = true ∧ p.d ≤ l.length ∧ l.length + p.n ≤ 3000 then some (copyN l p.d.toNat p.n.toNat)
  else none

/-- What the first k pieces make up. -/
def wholeAt (ps : List Pc) : Nat → Option (List UInt8)
  | 0 => some []
  | k + 1 => (wholeAt ps k).bind fun l => step l (ps.getD k ⟨0, 0, 0⟩)

theorem wholeAt_none (ps : List Pc) (k m : Nat) (h : wholeAt ps k = none) (hm : k ≤ m) : wholeAt ps m = none := by
  induction m with
  | zero => rw [show (0 : Nat) = k by omega]; exact h
  | succ m ih =>
    by_cases e : k = m + 1
    · subst e; exact h
    · rw [wholeAt, ih (by omega)]
      rfl

theorem wholeAt_succ (ps : List Pc) (k : Nat) (l : List UInt8) (h : wholeAt ps k = some l) : wholeAt ps (k + 1) = step l (ps.getD k ⟨0, 0, 0⟩) := by
  rw [wholeAt, h]
  rfl

/-- What Whole answers. -/
def wholeS (ps : List Pc) : ByteArray := ⟨((wholeAt ps ps.length).getD []).toArray⟩
def wholeB (ps : List Pc) : Bool := (wholeAt ps ps.length).isSome

theorem whole_no (ps : List Pc) (k : Nat) (hk : k ≤ ps.length) (h : wholeAt ps k = none) : wholeS ps = ⟨#[]⟩ ∧ wholeB ps = false := by
  have := wholeAt_none ps k ps.length h hk
  unfold wholeS wholeB
  rw [this]
  exact ⟨rfl, rfl⟩

theorem whole_yes (ps : List Pc) (l : List UInt8) (h : wholeAt ps ps.length = some l) : wholeS ps = ⟨l.toArray⟩ ∧ wholeB ps = true := by
  unfold wholeS wholeB
  rw [h]
  exact ⟨rfl, rfl⟩

theorem step_byte (l : List UInt8) (p : Pc) (h : p.isB = true) (hl : l.length < 3000) : step l p = some (l ++ [UInt8.ofNat p.x.toNat]) := if_pos ⟨h, hl⟩

theorem step_copy (l : List UInt8) (p : Pc) (hb : p.isB = false) (h : p.isC = true) (h1 : p.d ≤ l.length) (h2 : l.length + p.n ≤ 3000) : step l p = some (copyN l p.d.toNat p.n.toNat) := by
  unfold step
  rw [if_neg (by rw [hb]; simp), if_pos ⟨h, h1, h2⟩]

theorem isB_not_isC (p : Pc) (h : p.isB = true) : p.isC = false := by
  have := of_decide_eq_true h
  exact decide_eq_false (by omega)

theorem step_none (l : List UInt8) (p : Pc) (h : (p.isB = true → 3000 ≤ l.length) ∧ (p.isC = true → p.d ≤ l.length → 3000 < l.length + p.n)) : step l p = none := by
  unfold step
  rw [if_neg (by intro g; have := h.1 g.1; omega), if_neg (by intro g; have := h.2 g.1 g.2.1; omega)]

theorem step_length (l m : List UInt8) (p : Pc) (h : step l p = some m) : m.length ≤ 3000 := by
  unfold step at h
  by_cases h1 : p.isB = true ∧ l.length < 3000
  · rw [if_pos h1] at h
    simp only [Option.some.injEq] at h
    rw [← h, List.length_append, List.length_singleton]
    omega
  · rw [if_neg h1] at h
    by_cases h2 : p.isC = true ∧ p.d ≤ l.length ∧ l.length + p.n ≤ 3000
    · rw [if_pos h2] at h
      simp only [Option.some.injEq] at h
      have := of_decide_eq_true h2.1
      rw [← h, copyN_length]
      omega
    · rw [if_neg h2] at h
      cases h

end Math
end Go.Proofs.YtcifgableeeooalDoor

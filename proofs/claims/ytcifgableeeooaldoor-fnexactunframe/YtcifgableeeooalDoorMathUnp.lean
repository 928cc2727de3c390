/- The mathematics of chapter 3: bits that are read. -/
import Derived.Test.YtcifgableeeooalDoorRows
namespace Go.Proofs.YtcifgableeeooalDoor
namespace Math

/-- Bit number i of a text; behind its end noughts. -/
def bitAt (s : ByteArray) (i : Nat) : Nat := (s.data.toList.getD (i / 8) 0).toNat / 2 ^ (i % 8) % 2

theorem bitAt_le (s : ByteArray) (i : Nat) : bitAt s i ≤ 1 := by unfold bitAt; omega

theorem bitAt_far (s : ByteArray) (i : Nat) (h : 8 * s.size ≤ i) : bitAt s i = 0 := by
  unfold bitAt
  rw [List.getD_eq_getElem?_getD, List.getElem?_eq_none (by rw [Array.length_toList]; show s.size ≤ i / 8; omega)]
  show 0 / 2 ^ (i % 8) % 2 = 0
  rw [Nat.zero_div]

theorem bitAt_in (s : ByteArray) (i : Nat) (h : i / 8 < s.size) : bitAt s i = s[i / 8].toNat / 2 ^ (i % 8) % 2 := by
  unfold bitAt
  have h1 : i / 8 < s.data.toList.length := by rw [Array.length_toList]; exact h
  rw [List.getD_eq_getElem?_getD, List.getElem?_eq_getElem h1]
  rfl

/-- The number of n bits from a place on, the lowest first; the highest first. -/
def lowAt (s : ByteArray) (a : Nat) : Nat → Nat
  | 0 => 0
  | n + 1 => lowAt s a n + bitAt s (a + n) * 2 ^ n

def topAt (s : ByteArray) (a : Nat) : Nat → Nat
  | 0 => 0
  | n + 1 => 2 * topAt s a n + bitAt s (a + n)

theorem lowAt_lt (s : ByteArray) (a n : Nat) : lowAt s a n < 2 ^ n := by
  induction n with
  | zero => simp [lowAt]
  | succ n ih =>
    have h1 := bitAt_le s (a + n)
    have h2 : bitAt s (a + n) * 2 ^ n ≤ 1 * 2 ^ n := Nat.mul_le_mul_right _ h1
    rw [lowAt, Nat.pow_succ]
    omega

theorem topAt_lt (s : ByteArray) (a n : Nat) : topAt s a n < 2 ^ n := by
  induction n with
  | zero => simp [topAt]
  | succ n ih =>
    have h1 := bitAt_le s (a + n)
    rw [topAt, Nat.pow_succ]
    omega

/-- The symbol at a place, and how many bits it takes. -/
def symAt (s : ByteArray) (a : Nat) : Nat :=
  if topAt s a 7 < 24 then 256 + topAt s a 7
  else if topAt s a 8 < 192 then topAt s a 8 - 48
  else if topAt s a 8 < 200 then 280 + topAt s a 8 - 192
  else 144 + topAt s a 9 - 400

def symLen (s : ByteArray) (a : Nat) : Nat := if topAt s a 7 < 24 then 7 else if topAt s a 8 < 200 then 8 else 9

end Math
end Go.Proofs.YtcifgableeeooalDoor

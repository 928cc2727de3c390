/- What a square is behind a quarter: the mathematics. -/
import Derived.Test.YtkhibgicejcmlamSqIdx
namespace Go.Proofs.Ytkhibgicejcmlam
namespace Sq
open Go.ChangeShapes Go.WideShapes Go.ChangeAt Go.RowKit
set_option linter.unusedSimpArgs false
set_option linter.unusedVariables false

/-- The byte at a place of a text. -/
def tb (s : ByteArray) (i : Nat) : UInt8 := s.data.toList.getD i 0

/-- The place of an index. -/
def cX (h j : Nat) : Int := ((j % (2 * h + 1) : Nat) : Int) - h

def cY (h j : Nat) : Int := ((j / (2 * h + 1) : Nat) : Int) - h

theorem idx_of (h j : Nat) : idx h (cX h j) (cY h j) = j := by
  unfold idx cX cY
  have e1 : ((j / (2 * h + 1) : Nat) : Int) - h + h = ((j / (2 * h + 1) : Nat) : Int) := by omega
  have e2 : ((j % (2 * h + 1) : Nat) : Int) - h + h = ((j % (2 * h + 1) : Nat) : Int) := by omega
  rw [e1, e2, Int.toNat_natCast, Int.toNat_natCast, Nat.mul_comm]
  exact Nat.div_add_mod j (2 * h + 1)

theorem cX_idx {h : Nat} {x y : Int} (hx1 : -(h : Int) ≤ x) (hx2 : x ≤ h) : cX h (idx h x y) = x := by
  unfold cX idx
  rw [Nat.mul_comm, Nat.mul_add_mod, Nat.mod_eq_of_lt (by omega)]
  omega

theorem cY_idx {h : Nat} {x y : Int} (hx1 : -(h : Int) ≤ x) (hx2 : x ≤ h) (hy1 : -(h : Int) ≤ y) : cY h (idx h x y) = y := by
  unfold cY idx
  rw [Nat.mul_comm, Nat.mul_add_div (by omega), Nat.div_eq_of_lt (a := (x + h).toNat) (by omega)]
  omega

theorem c_in {h j : Nat} (hj : j < (2 * h + 1) * (2 * h + 1)) : (-(h : Int) ≤ cX h j ∧ cX h j ≤ h) ∧ (-(h : Int) ≤ cY h j ∧ cY h j ≤ h) := by
  unfold cX cY
  have h1 : j % (2 * h + 1) < 2 * h + 1 := Nat.mod_lt _ (by omega)
  have h2 : j / (2 * h + 1) < 2 * h + 1 := Nat.div_lt_of_lt_mul hj
  generalize j / (2 * h + 1) = q at *
  generalize j % (2 * h + 1) = r at *
  omega

/-- The byte at an index of the turned square. -/
def turnF (h : Nat) (s : ByteArray) (j : Nat) : UInt8 := tb s (idx h (cY h j) (-(cX h j)))

/-- The text with these bytes. -/
def strT (c : Nat) (f : Nat → UInt8) : ByteArray := ⟨((List.range c).map f).toArray⟩

theorem strT_size (c : Nat) (f : Nat → UInt8) : (strT c f).size = c := by simp [strT, ByteArray.size]

theorem strT_at (c : Nat) (f : Nat → UInt8) (i : Nat) (h : i < c) : tb (strT c f) i = f i := by
  unfold tb strT
  rw [List.getD_eq_getElem?_getD]
  simp [h]

theorem strT_congr {c : Nat} {f g : Nat → UInt8} (h : ∀ j, j < c → f j = g j) : strT c f = strT c g := by
  unfold strT
  congr 2
  exact List.map_congr_left fun j hj => h j (List.mem_range.1 hj)

theorem strT_self (s : ByteArray) : strT s.size (tb s) = s := by
  cases s with
  | mk a =>
    unfold strT
    congr 1
    apply Array.ext
    · simp [ByteArray.size]
    · intro i h1 h2
      simp [tb]
      rw [Array.getElem?_eq_getElem h2]
      rfl

theorem text_ext {s t : ByteArray} (hs : s.size = t.size) (h : ∀ j, j < s.size → tb s j = tb t j) : s = t := by
  rw [← strT_self s, ← strT_self t, ← hs]
  exact strT_congr h

def turnS (h : Nat) (s : ByteArray) : ByteArray := strT ((2 * h + 1) * (2 * h + 1)) (turnF h s)

/-- What Turn makes of a square's signs. -/
def turnV (n : Int) (s : ByteArray) : ByteArray := if okQ n s = true then turnS (Int.tdiv n 2).toNat s else s

theorem turnV_ok {h : Nat} {s : ByteArray} (hok : okQ (2 * (h : Int) + 1) s = true) : turnV (2 * (h : Int) + 1) s = turnS h s := by
  unfold turnV
  rw [if_pos hok, half_is, Int.toNat_natCast]

theorem turnV_no {n : Int} {s : ByteArray} (hok : okQ n s = false) : turnV n s = s := by
  unfold turnV
  rw [if_neg (by rw [hok]; decide)]

/-- The cells of the program's turned square behind k fields of the way. -/
def tI (h : Nat) (s : ByteArray) (k j : Nat) : Value := if kOf (cY h j) (-(cX h j)) < k then .int .u8 ((turnF h s j).toNat : Int) else .int .u8 0

theorem tI_step (h : Nat) (s : ByteArray) (k : Nat) (hk : k < (2 * h + 1) * (2 * h + 1)) (j : Nat) (hj : j < (2 * h + 1) * (2 * h + 1)) :
    tI h s (k + 1) j = if j = idx h (-(wy k)) (wx k) then .int .u8 ((tb s (idx h (wx k) (wy k))).toNat : Int) else tI h s k j := by
  obtain ⟨a1, a2, a3, a4⟩ := dist_in (way_dist k h hk)
  unfold tI
  by_cases e : j = idx h (-(wy k)) (wx k)
  · rw [if_pos e]
    subst e
    unfold turnF
    rw [cX_idx (by omega) (by omega), cY_idx (by omega) (by omega) (by omega), Int.neg_neg, kOf_way, if_pos (by omega)]
  · rw [if_neg e]
    have hne : kOf (cY h j) (-(cX h j)) ≠ k := by
      intro hk
      obtain ⟨w1, w2⟩ := way_kOf (cY h j) (-(cX h j))
      rw [hk] at w1 w2
      apply e
      rw [w1, w2, Int.neg_neg, idx_of]
    by_cases hl : kOf (cY h j) (-(cX h j)) < k
    · rw [if_pos hl, if_pos (by omega)]
    · rw [if_neg hl, if_neg (by omega)]

theorem tI_end (h : Nat) (s : ByteArray) (j : Nat) (hj : j < (2 * h + 1) * (2 * h + 1)) : tI h s ((2 * h + 1) * (2 * h + 1)) j = .int .u8 ((turnF h s j).toNat : Int) := by
  unfold tI
  obtain ⟨⟨a, b⟩, c, d⟩ := c_in hj
  rw [if_pos (kOf_lt (in_dist ⟨c, d⟩ ⟨by omega, by omega⟩))]

/-- The cells of the model's turned square behind c fields, row by row. -/
def tS (h : Nat) (s : ByteArray) (c j : Nat) : Value := if idx h (cY h j) (-(cX h j)) < c then .int .u8 ((turnF h s j).toNat : Int) else .int .u8 ((tb s j).toNat : Int)

theorem tS_step (h : Nat) (s : ByteArray) (x y : Int) (hx1 : -(h : Int) ≤ x) (hx2 : x ≤ h) (hy1 : -(h : Int) ≤ y) (hy2 : y ≤ h) (j : Nat) (hj : j < (2 * h + 1) * (2 * h + 1)) :
    tS h s (idx h (x + 1) y) j = if j = idx h (-y) x then .int .u8 ((tb s (idx h x y)).toNat : Int) else tS h s (idx h x y) j := by
  have hs : idx h (x + 1) y = idx h x y + 1 := by
    unfold idx
    have : (x + 1 + h).toNat = (x + h).toNat + 1 := by omega
    rw [this]; omega
  rw [hs]
  obtain ⟨⟨a, b⟩, c, d⟩ := c_in hj
  unfold tS
  by_cases e : j = idx h (-y) x
  · rw [if_pos e]
    subst e
    unfold turnF
    rw [cX_idx (by omega) (by omega), cY_idx (by omega) (by omega) (by omega), Int.neg_neg, if_pos (by omega)]
  · rw [if_neg e]
    have hne : idx h (cY h j) (-(cX h j)) ≠ idx h x y := by
      intro hk
      have e1 := cX_idx (h := h) (x := cY h j) (y := -(cX h j)) c d
      have e2 := cY_idx (h := h) (x := cY h j) (y := -(cX h j)) c d (by omega)
      rw [hk, cX_idx hx1 hx2] at e1
      rw [hk, cY_idx hx1 hx2 hy1] at e2
      apply e
      rw [e1, e2, Int.neg_neg, idx_of]
    by_cases hl : idx h (cY h j) (-(cX h j)) < idx h x y
    · rw [if_pos hl, if_pos (by omega)]
    · rw [if_neg hl, if_neg (by omega)]

theorem idx_row (h : Nat) (y : Int) (hy1 : -(h : Int) ≤ y) : idx h ((h : Int) + 1) y = idx h (-(h : Int)) (y + 1) := by
  unfold idx
  have e1 : ((h : Int) + 1 + h).toNat = 2 * h + 1 := by omega
  have e2 : (-(h : Int) + h).toNat = 0 := by omega
  have e3 : (y + 1 + h).toNat = (y + h).toNat + 1 := by omega
  rw [e1, e2, e3, Nat.add_mul]
  omega

theorem idx_first (h : Nat) : idx h (-(h : Int)) (-(h : Int)) = 0 := by
  unfold idx
  have e2 : (-(h : Int) + h).toNat = 0 := by omega
  rw [e2]
  omega

theorem idx_last (h : Nat) : idx h (-(h : Int)) ((h : Int) + 1) = (2 * h + 1) * (2 * h + 1) := by
  unfold idx
  have e1 : ((h : Int) + 1 + h).toNat = 2 * h + 1 := by omega
  have e2 : (-(h : Int) + h).toNat = 0 := by omega
  rw [e1, e2]
  omega

theorem tS_zero (h : Nat) (s : ByteArray) (j : Nat) : tS h s 0 j = .int .u8 ((tb s j).toNat : Int) := by
  unfold tS
  rw [if_neg (by omega)]

theorem tS_end (h : Nat) (s : ByteArray) (j : Nat) (hj : j < (2 * h + 1) * (2 * h + 1)) : tS h s ((2 * h + 1) * (2 * h + 1)) j = .int .u8 ((turnF h s j).toNat : Int) := by
  unfold tS
  obtain ⟨⟨a, b⟩, c, d⟩ := c_in hj
  rw [if_pos (idx_lt c d (by omega) (by omega))]

theorem tab_bytes (c : Nat) (f : Nat → UInt8) : (List.range c).map (fun j => Value.int .u8 ((f j).toNat : Int)) = Pk.bcells ((List.range c).map f) := by
  unfold Pk.bcells
  rw [List.map_map]
  rfl

/-- The text of a row of bytes. -/
theorem row_text {w : World} {g c : Nat} {f : Nat → Value} {b : Nat → UInt8} (h : w.heap[g]? = some (.cells (tab c f) 5)) (hc : c ≤ maxLen) (hf : ∀ j, j < c → f j = .int .u8 ((b j).toNat : Int)) :
    (convert 50 9 (.slice (some ⟨g, 0, none⟩) c c)).run Try.prog w = .ok (.string (strT c b)) w := by
  rw [tab_congr hf] at h
  have := row_own h hc (B := 0) (Nat.zero_le _)
  rw [tab_bytes] at this
  exact Pk.conv_own this

end Sq
end Go.Proofs.Ytkhibgicejcmlam

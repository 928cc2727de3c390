/- The mathematics of chapter 3: bits as bytes. -/
import Derived.Test.YtfoccmhmgdengaaRows
import Derived.Handy
import Derived.Laws.Bits64
import Derived.Laws.BitsLemmas
namespace Go.Proofs.Ytfoccmhmgdengaa
namespace Math

/-- A list of bits. -/
def Bits (l : List Nat) : Prop := ∀ b ∈ l, b ≤ 1

theorem Bits.nil : Bits [] := by intro b h; cases h

theorem Bits.append {l m : List Nat} (h : Bits l) (g : Bits m) : Bits (l ++ m) := by
  intro b hb
  rcases List.mem_append.1 hb with hb | hb
  · exact h b hb
  · exact g b hb

theorem Bits.one {b : Nat} (h : b ≤ 1) : Bits [b] := by
  intro c hc
  rw [List.mem_singleton] at hc
  omega

theorem Bits.at {l : List Nat} (h : Bits l) (i : Nat) : l.getD i 0 ≤ 1 := by
  rw [List.getD_eq_getElem?_getD]
  cases e : l[i]? with
  | none => simp
  | some v => exact h v (List.mem_of_getElem? e)

/-- What the eight bits from the place 8 i on tell. -/
def byteAt (l : List Nat) (i : Nat) : Nat :=
  l.getD (8 * i) 0 + 2 * l.getD (8 * i + 1) 0 + 4 * l.getD (8 * i + 2) 0 + 8 * l.getD (8 * i + 3) 0 + 16 * l.getD (8 * i + 4) 0 + 32 * l.getD (8 * i + 5) 0 + 64 * l.getD (8 * i + 6) 0 + 128 * l.getD (8 * i + 7) 0

theorem byteAt_lt {l : List Nat} (h : Bits l) (i : Nat) : byteAt l i < 256 := by
  have h0 := h.at (8 * i); have h1 := h.at (8 * i + 1); have h2 := h.at (8 * i + 2); have h3 := h.at (8 * i + 3)
  have h4 := h.at (8 * i + 4); have h5 := h.at (8 * i + 5); have h6 := h.at (8 * i + 6); have h7 := h.at (8 * i + 7)
  unfold byteAt
  omega

/-- Bits as bytes. -/
def bytesOf (l : List Nat) : List UInt8 := (List.range ((l.length + 7) / 8)).map fun i => UInt8.ofNat (byteAt l i)

theorem bytesOf_length (l : List Nat) : (bytesOf l).length = (l.length + 7) / 8 := by simp [bytesOf]

theorem getD_snoc (l : List Nat) (b i : Nat) : (l ++ [b]).getD i 0 = if i = l.length then b else l.getD i 0 := by
  rw [List.getD_eq_getElem?_getD, List.getD_eq_getElem?_getD]
  by_cases h : i < l.length
  · rw [List.getElem?_append_left h, if_neg (by omega)]
  · rw [List.getElem?_append_right (by omega)]
    by_cases e : i = l.length
    · subst e; simp
    · rw [if_neg e, List.getElem?_eq_none (l := l) (by omega), List.getElem?_eq_none (by simp; omega)]

theorem getD_far (l : List Nat) (i : Nat) (h : l.length ≤ i) : l.getD i 0 = 0 := by
  rw [List.getD_eq_getElem?_getD, List.getElem?_eq_none h]; rfl

theorem byteAt_far (l : List Nat) (i : Nat) (h : l.length ≤ 8 * i) : byteAt l i = 0 := by
  unfold byteAt
  rw [getD_far l _ (by omega), getD_far l _ (by omega), getD_far l _ (by omega), getD_far l _ (by omega), getD_far l _ (by omega), getD_far l _ (by omega), getD_far l _ (by omega), getD_far l _ (by omega)]

theorem byteAt_snoc (l : List Nat) (b i : Nat) : byteAt (l ++ [b]) i = byteAt l i + if i = l.length / 8 then b * 2 ^ (l.length % 8) else 0 := by
  unfold byteAt
  simp only [getD_snoc]
  by_cases e : i = l.length / 8
  · rw [if_pos e]
    have hr : l.length % 8 < 8 := Nat.mod_lt _ (by omega)
    have hz : ∀ j, l.length ≤ j → l[j]?.getD 0 = 0 := fun j hj => by rw [List.getElem?_eq_none hj]; rfl
    have hl : l.length = 8 * i + l.length % 8 := by omega
    generalize hq : l.length % 8 = r at *
    rw [hl]
    match r, hr with
    | 0, _ => simp [hz (8 * i) (by omega)]; omega
    | 1, _ => simp [hz (8 * i + 1) (by omega)]; omega
    | 2, _ => simp [hz (8 * i + 2) (by omega)]; omega
    | 3, _ => simp [hz (8 * i + 3) (by omega)]; omega
    | 4, _ => simp [hz (8 * i + 4) (by omega)]; omega
    | 5, _ => simp [hz (8 * i + 5) (by omega)]; omega
    | 6, _ => simp [hz (8 * i + 6) (by omega)]; omega
    | 7, _ => simp [hz (8 * i + 7) (by omega)]; omega
  · rw [if_neg e]
    rw [if_neg (by omega), if_neg (by omega), if_neg (by omega), if_neg (by omega), if_neg (by omega), if_neg (by omega), if_neg (by omega), if_neg (by omega)]
    rfl

theorem byteAt_low {l : List Nat} (h : Bits l) : byteAt l (l.length / 8) < 2 ^ (l.length % 8) := by
  have h0 := h.at (8 * (l.length / 8)); have h1 := h.at (8 * (l.length / 8) + 1); have h2 := h.at (8 * (l.length / 8) + 2); have h3 := h.at (8 * (l.length / 8) + 3)
  have h4 := h.at (8 * (l.length / 8) + 4); have h5 := h.at (8 * (l.length / 8) + 5); have h6 := h.at (8 * (l.length / 8) + 6); have h7 := h.at (8 * (l.length / 8) + 7)
  have hr : l.length % 8 < 8 := Nat.mod_lt _ (by omega)
  have hz : ∀ j, l.length ≤ j → l.getD j 0 = 0 := fun j hj => getD_far l j hj
  unfold byteAt
  have hl : l.length = 8 * (l.length / 8) + l.length % 8 := by omega
  generalize hq : l.length % 8 = r at *
  generalize hi : l.length / 8 = i at *
  match r, hr with
  | 0, _ => rw [hz (8 * i) (by omega), hz (8 * i + 1) (by omega), hz (8 * i + 2) (by omega), hz (8 * i + 3) (by omega), hz (8 * i + 4) (by omega), hz (8 * i + 5) (by omega), hz (8 * i + 6) (by omega), hz (8 * i + 7) (by omega)]; decide
  | 1, _ => rw [hz (8 * i + 1) (by omega), hz (8 * i + 2) (by omega), hz (8 * i + 3) (by omega), hz (8 * i + 4) (by omega), hz (8 * i + 5) (by omega), hz (8 * i + 6) (by omega), hz (8 * i + 7) (by omega)]; omega
  | 2, _ => rw [hz (8 * i + 2) (by omega), hz (8 * i + 3) (by omega), hz (8 * i + 4) (by omega), hz (8 * i + 5) (by omega), hz (8 * i + 6) (by omega), hz (8 * i + 7) (by omega)]; omega
  | 3, _ => rw [hz (8 * i + 3) (by omega), hz (8 * i + 4) (by omega), hz (8 * i + 5) (by omega), hz (8 * i + 6) (by omega), hz (8 * i + 7) (by omega)]; omega
  | 4, _ => rw [hz (8 * i + 4) (by omega), hz (8 * i + 5) (by omega), hz (8 * i + 6) (by omega), hz (8 * i + 7) (by omega)]; omega
  | 5, _ => rw [hz (8 * i + 5) (by omega), hz (8 * i + 6) (by omega), hz (8 * i + 7) (by omega)]; omega
  | 6, _ => rw [hz (8 * i + 6) (by omega), hz (8 * i + 7) (by omega)]; omega
  | 7, _ => rw [hz (8 * i + 7) (by omega)]; omega

theorem bytesOf_new (l : List Nat) (b : Nat) (h : l.length % 8 = 0) : bytesOf (l ++ [b]) = bytesOf l ++ [UInt8.ofNat b] := by
  unfold bytesOf
  rw [List.length_append, List.length_singleton, show (l.length + 1 + 7) / 8 = (l.length + 7) / 8 + 1 by omega, List.range_succ, List.map_append, List.map_singleton]
  congr 1
  · apply List.map_congr_left
    intro i hi
    rw [List.mem_range] at hi
    rw [byteAt_snoc, if_neg (by omega), Nat.add_zero]
  · rw [byteAt_snoc, if_pos (by omega), byteAt_far l _ (by omega), h]
    simp

theorem bytesOf_more (l : List Nat) (b : Nat) (h : l.length % 8 ≠ 0) : bytesOf (l ++ [b]) = (bytesOf l).set (l.length / 8) (UInt8.ofNat (byteAt l (l.length / 8) + b * 2 ^ (l.length % 8))) := by
  apply List.ext_getElem
  · rw [List.length_set, bytesOf_length, bytesOf_length, List.length_append, List.length_singleton]
    omega
  · intro i h1 h2
    rw [List.getElem_set]
    rw [bytesOf_length, List.length_append, List.length_singleton] at h1
    by_cases e : l.length / 8 = i
    · rw [if_pos e]
      subst e
      simp only [bytesOf, List.getElem_map, List.getElem_range]
      rw [byteAt_snoc, if_pos rfl]
    · rw [if_neg e]
      simp only [bytesOf, List.getElem_map, List.getElem_range]
      rw [byteAt_snoc, if_neg (fun h => e h.symm), Nat.add_zero]

/-- Some bits of a number, the lowest first; the highest first. -/
def lowL (x n : Nat) : List Nat := (List.range n).map fun j => x / 2 ^ j % 2
def highL (x n : Nat) : List Nat := (List.range n).map fun j => x / 2 ^ (n - 1 - j) % 2

theorem lowL_bits (x n : Nat) : Bits (lowL x n) := by
  intro b hb
  obtain ⟨j, -, rfl⟩ := List.mem_map.1 hb
  omega

theorem highL_bits (x n : Nat) : Bits (highL x n) := by
  intro b hb
  obtain ⟨j, -, rfl⟩ := List.mem_map.1 hb
  omega

theorem lowL_length (x n : Nat) : (lowL x n).length = n := by simp [lowL]
theorem highL_length (x n : Nat) : (highL x n).length = n := by simp [highL]

theorem lowL_succ (x n : Nat) : lowL x (n + 1) = lowL x n ++ [x / 2 ^ n % 2] := by
  unfold lowL
  rw [List.range_succ, List.map_append]
  rfl

/-- The first k of them. -/
def highP (x n k : Nat) : List Nat := (List.range k).map fun j => x / 2 ^ (n - 1 - j) % 2

theorem highP_succ (x n k : Nat) : highP x n (k + 1) = highP x n k ++ [x / 2 ^ (n - 1 - k) % 2] := by
  unfold highP
  rw [List.range_succ, List.map_append]
  rfl

theorem highP_all (x n : Nat) : highP x n n = highL x n := rfl

theorem or_low (x b r : Nat) (h : x < 2 ^ r) : x ||| b * 2 ^ r = x + b * 2 ^ r := by
  have := Nat.shiftLeft_add_eq_or_of_lt h b
  rw [Nat.shiftLeft_eq] at this
  rw [Nat.or_comm, ← this, Nat.add_comm]

theorem ofInt_small (a : Nat) (ha : a < 4611686018427387904) : (BitVec.ofInt 64 (a : Int)).toNat = a := by
  rw [BitVec.ofInt_natCast, BitVec.toNat_ofNat]; exact Nat.mod_eq_of_lt (by omega)

theorem bits_and_i64 (a b : Nat) (ha : a < 4611686018427387904) (hb : b < 4611686018427387904) :
    bits .and .i64 (a : Int) (b : Int) = ((a &&& b : Nat) : Int) := by
  have hx : a &&& b < 2 ^ 62 := Nat.and_lt_two_pow _ (by omega)
  show IntKind.i64.wrap ((BitVec.ofInt 64 (a : Int) &&& BitVec.ofInt 64 (b : Int)).toNat : Int) = _
  rw [BitVec.toNat_and, ofInt_small a ha, ofInt_small b hb, IntKind.wrap_i64]
  omega

theorem bits_or_i64 (a b : Nat) (ha : a < 4611686018427387904) (hb : b < 4611686018427387904) :
    bits .or .i64 (a : Int) (b : Int) = ((a ||| b : Nat) : Int) := by
  have hx : a ||| b < 2 ^ 62 := Nat.or_lt_two_pow (by omega) (by omega)
  show IntKind.i64.wrap ((BitVec.ofInt 64 (a : Int) ||| BitVec.ofInt 64 (b : Int)).toNat : Int) = _
  rw [BitVec.toNat_or, ofInt_small a ha, ofInt_small b hb, IntKind.wrap_i64]
  omega

theorem bits_xor_i64 (a b : Nat) (ha : a < 4611686018427387904) (hb : b < 4611686018427387904) :
    bits .xor .i64 (a : Int) (b : Int) = ((a ^^^ b : Nat) : Int) := by
  have hx : a ^^^ b < 2 ^ 62 := Nat.xor_lt_two_pow (by omega) (by omega)
  show IntKind.i64.wrap ((BitVec.ofInt 64 (a : Int) ^^^ BitVec.ofInt 64 (b : Int)).toNat : Int) = _
  rw [BitVec.toNat_xor, ofInt_small a ha, ofInt_small b hb, IntKind.wrap_i64]
  omega

theorem bits_or_u8 (a b : Nat) (ha : a < 256) (hb : b < 256) :
    bits .or .u8 (a : Int) (b : Int) = ((a ||| b : Nat) : Int) := by
  have hx : a ||| b < 2 ^ 8 := Nat.or_lt_two_pow (by omega) (by omega)
  have h1 : (BitVec.ofInt 8 (a : Int)).toNat = a := by
    rw [BitVec.ofInt_natCast, BitVec.toNat_ofNat]; exact Nat.mod_eq_of_lt (by omega)
  have h2 : (BitVec.ofInt 8 (b : Int)).toNat = b := by
    rw [BitVec.ofInt_natCast, BitVec.toNat_ofNat]; exact Nat.mod_eq_of_lt (by omega)
  show IntKind.u8.wrap ((BitVec.ofInt 8 (a : Int) ||| BitVec.ofInt 8 (b : Int)).toNat : Int) = _
  rw [BitVec.toNat_or, h1, h2, IntKind.wrap_u8]
  omega

theorem and_one_i64 (a : Nat) (ha : a < 4611686018427387904) : bits .and .i64 (a : Int) 1 = ((a % 2 : Nat) : Int) := by
  have h := bits_and_i64 a 1 ha (by omega)
  rw [Nat.and_one_is_mod] at h
  exact h

theorem and_mask_i64 (a m : Nat) (ha : a < 4611686018427387904) (hm : m ≤ 60) : bits .and .i64 (a : Int) ((2 : Int) ^ m - 1) = ((a % 2 ^ m : Nat) : Int) := by
  have h1 := Nat.two_pow_pos m
  have h2 : 2 ^ m ≤ 2 ^ 60 := Nat.pow_le_pow_right (by omega) hm
  have e : (2 : Int) ^ m - 1 = ((2 ^ m - 1 : Nat) : Int) := by
    rw [Int.natCast_sub (by omega)]
    simp
  rw [e, bits_and_i64 a _ ha (by omega), Nat.and_two_pow_sub_one_eq_mod]

end Math
end Go.Proofs.Ytfoccmhmgdengaa

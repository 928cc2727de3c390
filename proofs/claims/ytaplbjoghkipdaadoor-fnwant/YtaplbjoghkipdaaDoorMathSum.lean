/- Plain facts on the sum of a text (CRC-32), on its folding, and on lists of bytes. -/
import Derived.Handy
import Derived.Laws.Bits64
import Derived.Laws.BitsLemmas
namespace Go.Proofs.YtaplbjoghkipdaaDoor
namespace Math

theorem bits_xor_u32 (a b : Nat) (ha : a < 4294967296) (hb : b < 4294967296) :
    bits .xor .u32 (a : Int) (b : Int) = ((a ^^^ b : Nat) : Int) := by
  have hx : a ^^^ b < 2 ^ 32 := Nat.xor_lt_two_pow (by omega) (by omega)
  have h1 : (BitVec.ofInt 32 (a : Int)).toNat = a := by
    rw [BitVec.ofInt_natCast, BitVec.toNat_ofNat]; exact Nat.mod_eq_of_lt (by omega)
  have h2 : (BitVec.ofInt 32 (b : Int)).toNat = b := by
    rw [BitVec.ofInt_natCast, BitVec.toNat_ofNat]; exact Nat.mod_eq_of_lt (by omega)
  show IntKind.u32.wrap ((BitVec.ofInt 32 (a : Int) ^^^ BitVec.ofInt 32 (b : Int)).toNat : Int) = _
  rw [BitVec.toNat_xor, h1, h2, IntKind.wrap_u32]
  omega

theorem bits_and_u32 (a b : Nat) (ha : a < 4294967296) (hb : b < 4294967296) :
    bits .and .u32 (a : Int) (b : Int) = ((a &&& b : Nat) : Int) := by
  have hx : a &&& b < 2 ^ 32 := Nat.and_lt_two_pow _ (by omega)
  have h1 : (BitVec.ofInt 32 (a : Int)).toNat = a := by
    rw [BitVec.ofInt_natCast, BitVec.toNat_ofNat]; exact Nat.mod_eq_of_lt (by omega)
  have h2 : (BitVec.ofInt 32 (b : Int)).toNat = b := by
    rw [BitVec.ofInt_natCast, BitVec.toNat_ofNat]; exact Nat.mod_eq_of_lt (by omega)
  show IntKind.u32.wrap ((BitVec.ofInt 32 (a : Int) &&& BitVec.ofInt 32 (b : Int)).toNat : Int) = _
  rw [BitVec.toNat_and, h1, h2, IntKind.wrap_u32]
  omega

theorem and_one_u32 (a : Nat) (ha : a < 4294967296) : bits .and .u32 (a : Int) 1 = ((a % 2 : Nat) : Int) := by
  have h := bits_and_u32 a 1 ha (by omega)
  rw [Nat.and_one_is_mod] at h
  exact h

/-- The turned polynomial. -/
def poly : Nat := 3988292384

/-- One bit of the sum. -/
def bit1 (x : Nat) : Nat := if x % 2 = 1 then x / 2 ^^^ poly else x / 2

/-- k bits of the sum. -/
def bitN : Nat → Nat → Nat
  | 0, x => x
  | k + 1, x => bit1 (bitN k x)

/-- One byte of the sum. -/
def crcStep (x : Nat) (b : UInt8) : Nat := bitN 8 (x ^^^ b.toNat)

/-- The sum behind the bytes l, not yet turned. -/
def crcAt (l : List UInt8) : Nat := l.foldl crcStep 4294967295

/-- The sum of the bytes l. -/
def crc (l : List UInt8) : Nat := crcAt l ^^^ 4294967295

theorem poly_lt : poly < 4294967296 := by unfold poly; omega

theorem xor_half (y : Nat) (hy : y < 4294967296) : bits .xor .u32 ((y : Int) / 2) 3988292384 = ((y / 2 ^^^ poly : Nat) : Int) := by
  have h := bits_xor_u32 (y / 2) poly (by omega) poly_lt
  rw [← h]
  rfl

theorem xor_all (y : Nat) (hy : y < 4294967296) : bits .xor .u32 (y : Int) 4294967295 = ((y ^^^ 4294967295 : Nat) : Int) :=
  bits_xor_u32 y 4294967295 hy (by omega)

theorem xor_byte (y : Nat) (b : UInt8) (hy : y < 4294967296) : bits .xor .u32 (y : Int) (b.toNat : Int) = ((y ^^^ b.toNat : Nat) : Int) :=
  bits_xor_u32 y b.toNat hy (by have := b.toNat_lt; omega)

theorem xor_byte' (y : Nat) (b : UInt8) (hy : y < 4294967296) : bits .xor .u32 (y : Int) ((b.toNat : Int) % 4294967296) = ((y ^^^ b.toNat : Nat) : Int) := by
  rw [show ((b.toNat : Int) % 4294967296) = (b.toNat : Int) from by have := b.toNat_lt; omega]
  exact xor_byte y b hy

theorem bit1_odd (y : Nat) (h : y % 2 = 1) : bit1 y = y / 2 ^^^ poly := if_pos h

theorem bit1_even (y : Nat) (h : ¬ y % 2 = 1) : bit1 y = y / 2 := if_neg h

theorem xor_lt (a b : Nat) (ha : a < 4294967296) (hb : b < 4294967296) : a ^^^ b < 4294967296 := Nat.xor_lt_two_pow (n := 32) ha hb

theorem bit1_lt (x : Nat) (h : x < 4294967296) : bit1 x < 4294967296 := by
  unfold bit1
  split
  · exact xor_lt _ _ (by omega) poly_lt
  · omega

theorem bitN_lt (k x : Nat) (h : x < 4294967296) : bitN k x < 4294967296 := by
  induction k with
  | zero => exact h
  | succ k ih => exact bit1_lt _ ih

theorem byte_lt (b : UInt8) : b.toNat < 4294967296 := by have := b.toNat_lt; omega

theorem crcStep_lt (x : Nat) (b : UInt8) (h : x < 4294967296) : crcStep x b < 4294967296 := bitN_lt 8 _ (xor_lt _ _ h (byte_lt b))

theorem foldl_lt (l : List UInt8) : ∀ x, x < 4294967296 → l.foldl crcStep x < 4294967296 := by
  induction l with
  | nil => intro x h; exact h
  | cons b l ih => intro x h; exact ih _ (crcStep_lt x b h)

theorem crcAt_lt (l : List UInt8) : crcAt l < 4294967296 := foldl_lt l _ (by omega)

theorem crc_lt (l : List UInt8) : crc l < 4294967296 := xor_lt _ _ (crcAt_lt l) (by omega)

theorem crcAt_snoc (l : List UInt8) (b : UInt8) : crcAt (l ++ [b]) = crcStep (crcAt l) b := by
  unfold crcAt
  rw [List.foldl_append]
  rfl

theorem take_snoc (s : ByteArray) (k : Nat) (h : k < s.size) : s.data.toList.take (k + 1) = s.data.toList.take k ++ [s[k]] := by
  rw [List.take_succ_eq_append_getElem (by simpa using h)]; rfl

theorem take_all (s : ByteArray) : s.data.toList.take s.size = s.data.toList := List.take_of_length_le (Nat.le_refl _)

/-- One byte of the folding. -/
def foldStep (x : Nat) (b : UInt8) : Nat := (257 * x + b.toNat + 1) % 2147483647

/-- The bytes l folded. -/
def foldAt (l : List UInt8) : Nat := l.foldl foldStep 1

theorem foldStep_lt (x : Nat) (b : UInt8) : foldStep x b < 2147483647 := Nat.mod_lt _ (by omega)

theorem foldl_fold_lt (l : List UInt8) : ∀ x, x < 2147483647 → l.foldl foldStep x < 2147483647 := by
  induction l with
  | nil => intro x h; exact h
  | cons b l ih => intro x h; exact ih _ (foldStep_lt x b)

theorem foldAt_lt (l : List UInt8) : foldAt l < 2147483647 := foldl_fold_lt l _ (by omega)

theorem foldAt_snoc (l : List UInt8) (b : UInt8) : foldAt (l ++ [b]) = foldStep (foldAt l) b := by
  unfold foldAt
  rw [List.foldl_append]
  rfl

theorem foldStep_int (x : Nat) (b : UInt8) : ((foldStep x b : Nat) : Int) = (257 * (x : Int) + (b.toNat : Int) + 1) % 2147483647 := by
  unfold foldStep
  omega

theorem foldStep_plus (x : Nat) (b : UInt8) : ((x : Int) * 257 % 2147483647 + ((b.toNat : Int) + 1)) % 2147483647 = ((foldStep x b : Nat) : Int) := by
  unfold foldStep
  omega

theorem xor_cancel (a b c : Nat) (h : a ^^^ c = b ^^^ c) : a = b := by
  have h1 : (a ^^^ c) ^^^ c = (b ^^^ c) ^^^ c := by rw [h]
  rwa [Nat.xor_assoc, Nat.xor_assoc, Nat.xor_self, Nat.xor_zero, Nat.xor_zero] at h1

theorem xor_cancel' (a b c : Nat) (h : c ^^^ a = c ^^^ b) : a = b := by
  rw [Nat.xor_comm c a, Nat.xor_comm c b] at h
  exact xor_cancel a b c h

theorem top_bit (x y : Nat) (hx : x < 4294967296) (hy : y < 4294967296) (h : x / 2 ^^^ poly = y / 2) : False := by
  have h1 : (x / 2 ^^^ poly).testBit 31 = (y / 2).testBit 31 := by rw [h]
  rw [Nat.testBit_xor, Nat.testBit_lt_two_pow (show x / 2 < 2 ^ 31 by omega), Nat.testBit_lt_two_pow (show y / 2 < 2 ^ 31 by omega)] at h1
  have h2 : poly.testBit 31 = true := by decide
  rw [h2] at h1
  exact absurd h1 (by decide)

theorem bit1_inj (x y : Nat) (hx : x < 4294967296) (hy : y < 4294967296) (h : bit1 x = bit1 y) : x = y := by
  unfold bit1 at h
  by_cases h1 : x % 2 = 1 <;> by_cases h2 : y % 2 = 1
  · rw [if_pos h1, if_pos h2] at h
    have := xor_cancel _ _ _ h
    omega
  · rw [if_pos h1, if_neg h2] at h
    exact (top_bit x y hx hy h).elim
  · rw [if_neg h1, if_pos h2] at h
    exact (top_bit y x hy hx h.symm).elim
  · rw [if_neg h1, if_neg h2] at h
    omega

theorem bitN_inj (k x y : Nat) (hx : x < 4294967296) (hy : y < 4294967296) (h : bitN k x = bitN k y) : x = y := by
  induction k with
  | zero => exact h
  | succ k ih => exact ih (bit1_inj _ _ (bitN_lt k x hx) (bitN_lt k y hy) h)

theorem crcStep_inj (x y : Nat) (b : UInt8) (hx : x < 4294967296) (hy : y < 4294967296) (h : crcStep x b = crcStep y b) : x = y :=
  xor_cancel _ _ _ (bitN_inj 8 _ _ (xor_lt _ _ hx (byte_lt b)) (xor_lt _ _ hy (byte_lt b)) h)

theorem crcStep_inj' (x : Nat) (b c : UInt8) (hx : x < 4294967296) (h : crcStep x b = crcStep x c) : b = c :=
  UInt8.toNat_inj.1 (xor_cancel' _ _ _ (bitN_inj 8 _ _ (xor_lt _ _ hx (byte_lt b)) (xor_lt _ _ hx (byte_lt c)) h))

theorem foldl_inj (l : List UInt8) : ∀ x y, x < 4294967296 → y < 4294967296 → l.foldl crcStep x = l.foldl crcStep y → x = y := by
  induction l with
  | nil => intro x y _ _ h; exact h
  | cons b l ih => intro x y hx hy h; exact crcStep_inj x y b hx hy (ih _ _ (crcStep_lt x b hx) (crcStep_lt y b hy) h)

/-- A text with one byte changed has another sum. -/
theorem crc_set (l : List UInt8) (i : Nat) (hi : i < l.length) (v : UInt8) (hv : v ≠ l[i]) : crc (l.set i v) ≠ crc l := by
  intro h
  have h1 : crcAt (l.set i v) = crcAt l := xor_cancel _ _ _ h
  have e1 : l.set i v = l.take i ++ v :: l.drop (i + 1) := by rw [List.set_eq_take_append_cons_drop, if_pos hi]
  have e2 : l = l.take i ++ l[i] :: l.drop (i + 1) := by rw [List.getElem_cons_drop, List.take_append_drop]
  have e3 : crcAt l = (l.drop (i + 1)).foldl crcStep (crcStep (crcAt (l.take i)) l[i]) := by
    conv => lhs; rw [e2]
    unfold crcAt
    rw [List.foldl_append, List.foldl_cons]
  have e4 : crcAt (l.set i v) = (l.drop (i + 1)).foldl crcStep (crcStep (crcAt (l.take i)) v) := by
    rw [e1]
    unfold crcAt
    rw [List.foldl_append, List.foldl_cons]
  rw [e3, e4] at h1
  have hp := crcAt_lt (l.take i)
  exact hv (crcStep_inj' _ _ _ hp (foldl_inj _ _ _ (crcStep_lt _ _ hp) (crcStep_lt _ _ hp) h1))

theorem crc_nil : crc [] = 0 := by
  unfold crc crcAt
  exact Nat.xor_self _

theorem xor_ne (b : UInt8) (d : Nat) (h0 : 0 < d) (h1 : d ≤ 255) : b ^^^ UInt8.ofNat d ≠ b := by
  intro h
  have h2 := congrArg UInt8.toNat h
  rw [UInt8.toNat_xor, UInt8.toNat_ofNat', Nat.mod_eq_of_lt (show d < 2 ^ 8 by omega)] at h2
  have h3 : b.toNat ^^^ d = b.toNat ^^^ 0 := by rw [Nat.xor_zero]; exact h2
  have := xor_cancel' _ _ _ h3
  omega

theorem bits_xor_u8 (a : UInt8) (d : Nat) (hd : d ≤ 255) : bits .xor .u8 (a.toNat : Int) (d : Int) = ((a ^^^ UInt8.ofNat d).toNat : Int) := by
  have ha := a.toNat_lt
  have hx : a.toNat ^^^ d < 2 ^ 8 := Nat.xor_lt_two_pow (by omega) (by omega)
  have h1 : (BitVec.ofInt 8 (a.toNat : Int)).toNat = a.toNat := by
    rw [BitVec.ofInt_natCast, BitVec.toNat_ofNat]; exact Nat.mod_eq_of_lt (by omega)
  have h2 : (BitVec.ofInt 8 (d : Int)).toNat = d := by
    rw [BitVec.ofInt_natCast, BitVec.toNat_ofNat]; exact Nat.mod_eq_of_lt (by omega)
  rw [UInt8.toNat_xor, UInt8.toNat_ofNat', Nat.mod_eq_of_lt (show d < 2 ^ 8 by omega)]
  show IntKind.u8.wrap ((BitVec.ofInt 8 (a.toNat : Int) ^^^ BitVec.ofInt 8 (d : Int)).toNat : Int) = _
  rw [BitVec.toNat_xor, h1, h2, IntKind.wrap_u8]
  omega
end Math
end Go.Proofs.YtaplbjoghkipdaaDoor

/- The mathematics of chapter 3: a text comes back from what was packed of it, and from what was stored; what is unpacked with something behind it is none. -/
import Derived.Test.YtcifgableeeooabDoorMathPk
import Derived.Test.YtcifgableeeooabDoorMathPcs
import Derived.Test.YtcifgableeeooabDoorPkStored
import Derived.Test.YtcifgableeeooabDoorUnSpec
namespace Go.Proofs.YtcifgableeeooabDoor
namespace Math
open Pk (fixL pcBits pcsBits packL packS lenC lenB lenX backC backB backX storedHead storedS)

theorem bitAt_of (L : List Nat) (hL : Bits L) (i : Nat) : bitAt ⟨(bytesOf L).toArray⟩ i = L.getD i 0 := by
  by_cases h : i / 8 < (L.length + 7) / 8
  · have hd := Nat.div_add_mod i 8
    have hm : i % 8 < 8 := Nat.mod_lt _ (by omega)
    unfold bitAt
    rw [List.toList_toArray, List.getD_eq_getElem?_getD, List.getElem?_eq_getElem (by rw [bytesOf_length]; exact h), Option.getD_some]
    simp only [bytesOf, List.getElem_map, List.getElem_range]
    have hlt := byteAt_lt hL (i / 8)
    rw [UInt8.toNat_ofNat_of_lt' (by simpa using hlt)]
    generalize hq : i / 8 = q at *
    generalize hr : i % 8 = r at *
    obtain rfl : i = 8 * q + r := by omega
    have h0 := hL.at (8 * q); have h1 := hL.at (8 * q + 1); have h2 := hL.at (8 * q + 2); have h3 := hL.at (8 * q + 3)
    have h4 := hL.at (8 * q + 4); have h5 := hL.at (8 * q + 5); have h6 := hL.at (8 * q + 6); have h7 := hL.at (8 * q + 7)
    unfold byteAt
    match r, hm with
    | 0, _ => show _ / 1 % 2 = L.getD (8 * q) 0; omega
    | 1, _ => show _ / 2 % 2 = _; omega
    | 2, _ => show _ / 4 % 2 = _; omega
    | 3, _ => show _ / 8 % 2 = _; omega
    | 4, _ => show _ / 16 % 2 = _; omega
    | 5, _ => show _ / 32 % 2 = _; omega
    | 6, _ => show _ / 64 % 2 = _; omega
    | 7, _ => show _ / 128 % 2 = _; omega
  · rw [getD_far L i (by omega)]
    refine bitAt_far _ _ ?_
    show 8 * (bytesOf L).toArray.size ≤ i
    rw [List.size_toArray, bytesOf_length]
    omega

/-- The bits l stand in a text from the place a on. -/
def Has (s : ByteArray) (a : Nat) (l : List Nat) : Prop := ∀ j, j < l.length → bitAt s (a + j) = l.getD j 0

theorem Has.split {s : ByteArray} {a : Nat} {l m : List Nat} (h : Has s a (l ++ m)) : Has s a l ∧ Has s (a + l.length) m := by
  refine ⟨fun j hj => ?_, fun j hj => ?_⟩
  · rw [h j (by rw [List.length_append]; omega), List.getD_eq_getElem?_getD, List.getD_eq_getElem?_getD, List.getElem?_append_left hj]
  · rw [Nat.add_assoc, h (l.length + j) (by rw [List.length_append]; omega), List.getD_eq_getElem?_getD, List.getD_eq_getElem?_getD, List.getElem?_append_right (by omega), Nat.add_sub_cancel_left]

theorem has_high {s : ByteArray} {a v n : Nat} (h : Has s a (highL v n)) (hv : v < 2 ^ n) : topAt s a n = v := by
  have key : ∀ k, k ≤ n → topAt s a k = v / 2 ^ (n - k) := by
    intro k
    induction k with
    | zero => intro _; rw [topAt, Nat.sub_zero, Nat.div_eq_of_lt hv]
    | succ k ih =>
      intro hk
      have hb := h k (by rw [highL_length]; omega)
      have e : (highL v n).getD k 0 = v / 2 ^ (n - 1 - k) % 2 := by
        rw [List.getD_eq_getElem?_getD, List.getElem?_eq_getElem (by rw [highL_length]; omega)]
        simp [highL]
      rw [topAt, ih (by omega), hb, e, show n - k = (n - 1 - k) + 1 by omega, Nat.pow_succ, ← Nat.div_div_eq_div_mul, show n - (k + 1) = n - 1 - k by omega]
      omega
  have := key n (Nat.le_refl _)
  rw [this, Nat.sub_self, Nat.pow_zero, Nat.div_one]

theorem has_low {s : ByteArray} {a x n : Nat} (h : Has s a (lowL x n)) : lowAt s a n = x % 2 ^ n := by
  have key : ∀ k, k ≤ n → lowAt s a k = x % 2 ^ k := by
    intro k
    induction k with
    | zero => intro _; rw [lowAt, Nat.pow_zero, Nat.mod_one]
    | succ k ih =>
      intro hk
      have hb := h k (by rw [lowL_length]; omega)
      have e : (lowL x n).getD k 0 = x / 2 ^ k % 2 := by
        rw [List.getD_eq_getElem?_getD, List.getElem?_eq_getElem (by rw [lowL_length]; omega)]
        simp [lowL]
      rw [lowAt, ih (by omega), hb, e, Nat.mod_pow_succ, Nat.mul_comm]
  exact key n (Nat.le_refl _)

theorem top87 (s : ByteArray) (a : Nat) : topAt s a 7 = topAt s a 8 / 2 := by
  have h := bitAt_le s (a + 7)
  have e : topAt s a 8 = 2 * topAt s a 7 + bitAt s (a + 7) := rfl
  omega

theorem top98 (s : ByteArray) (a : Nat) : topAt s a 8 = topAt s a 9 / 2 := by
  have h := bitAt_le s (a + 8)
  have e : topAt s a 9 = 2 * topAt s a 8 + bitAt s (a + 8) := rfl
  omega

/-- A symbol is read from its code. -/
theorem sym_read {s : ByteArray} {a : Nat} (y : Nat) (hy : y ≤ 285) (h : Has s a (fixL (y : Int))) : symAt s a = y ∧ symLen s a = (fixL (y : Int)).length := by
  have h87 := top87 s a
  have h98 := top98 s a
  unfold fixL at h ⊢
  by_cases h1 : (0 : Int) ≤ (y : Int) ∧ (y : Int) ≤ 143
  · rw [if_pos h1] at h ⊢
    have ht := has_high h (by omega)
    rw [highL_length]
    unfold symAt symLen
    rw [if_neg (by omega), if_pos (by omega), if_neg (by omega), if_pos (by omega)]
    omega
  · rw [if_neg h1] at h ⊢
    by_cases h2 : (144 : Int) ≤ (y : Int) ∧ (y : Int) ≤ 255
    · rw [if_pos h2] at h ⊢
      have ht := has_high h (by omega)
      rw [highL_length]
      unfold symAt symLen
      rw [if_neg (by omega), if_neg (by omega), if_neg (by omega), if_neg (by omega), if_neg (by omega)]
      omega
    · rw [if_neg h2] at h ⊢
      by_cases h3 : (256 : Int) ≤ (y : Int) ∧ (y : Int) ≤ 279
      · rw [if_pos h3] at h ⊢
        have ht := has_high h (by omega)
        rw [highL_length]
        unfold symAt symLen
        rw [if_pos (by omega), if_pos (by omega)]
        omega
      · rw [if_neg h3, if_pos (by omega)] at h ⊢
        have ht := has_high h (by omega)
        rw [highL_length]
        unfold symAt symLen
        rw [if_neg (by omega), if_neg (by omega), if_pos (by omega), if_neg (by omega), if_pos (by omega)]
        omega

theorem cb4 : ∀ c, c < 28 → cbits 4 c ≤ 5 := by decide +kernel
theorem cb2 : ∀ c, c < 20 → cbits 2 c ≤ 8 := by decide +kernel

/-- What is known of a length's code. -/
theorem len_code (n : Nat) (h1 : 3 ≤ n) (h2 : n ≤ 258) : ∃ y : Nat, lenC (n : Int) = (y : Int) ∧ 257 ≤ y ∧ y ≤ 285 ∧ (lenB (n : Int)).toNat = lenBits y ∧ lenBits y ≤ 5 ∧ (∀ s a, Has s a (lowL (lenX (n : Int)).toNat (lenBits y)) → lenTold s a y = n) := by
  by_cases e : n = 258
  · subst e
    obtain ⟨e1, e2, e3⟩ := Pk.len_top
    refine ⟨285, e1, by omega, by omega, ?_, by unfold lenBits; rw [if_pos rfl]; omega, ?_⟩
    · rw [show (((258 : Nat) : Int)) = 258 from rfl, e2]; rfl
    · intro s a _
      unfold lenTold
      rw [if_pos rfl]
  · obtain ⟨m, rfl⟩ : ∃ m, n = m + 3 := ⟨n - 3, by omega⟩
    obtain ⟨e1, e2, e3⟩ := Pk.len_yes m (by omega)
    rw [show (((m + 3 : Nat) : Int)) = (m : Int) + 3 by omega]
    obtain ⟨c, c1, c2⟩ := code_at 4 m (by omega)
    obtain ⟨d1, d2, d3⟩ : codeC 2 m = c ∧ nbits 2 m = cbits 4 c ∧ codeX 2 m = m - cleast 4 c := code_of 2 c m c1 c2
    have hc : c < 28 := by
      apply Classical.byContradiction
      intro hn
      have g1 : cleast 4 28 ≤ cleast 4 c := cleast_mono 4 28 c (by omega) (by omega)
      have g2 : cleast 4 28 = 256 := by decide
      omega
    have hl : lenBits (257 + c) = cbits 4 c := by
      unfold lenBits
      rw [if_neg (by omega), show 257 + c - 257 = c by omega]
    refine ⟨257 + c, by rw [e1, d1]; omega, by omega, by omega, by rw [e2, d2, hl]; rfl, by rw [hl]; exact cb4 c hc, ?_⟩
    intro s a H
    rw [e3, hl, d3] at H
    have := has_low H
    rw [Int.toNat_natCast] at this
    unfold lenTold
    rw [if_neg (by omega), show 257 + c - 257 = c by omega, this, Nat.mod_eq_of_lt (by omega)]
    omega

/-- What is known of a way back's code. -/
theorem back_code (d : Nat) (h1 : 1 ≤ d) (h2 : d ≤ 1024) : ∃ c : Nat, (backC (d : Int)).toNat = c ∧ c ≤ 19 ∧ (backB (d : Int)).toNat = cbits 2 c ∧ cbits 2 c ≤ 8 ∧ (∀ s a, Has s a (lowL (backX (d : Int)).toNat (cbits 2 c)) → backTold s a c = d) := by
  obtain ⟨k, rfl⟩ : ∃ k, d = k + 1 := ⟨d - 1, by omega⟩
  obtain ⟨e1, e2, e3⟩ := Pk.back_yes k (by omega)
  rw [show (((k + 1 : Nat) : Int)) = (k : Int) + 1 by omega]
  obtain ⟨c, c1, c2⟩ := code_at 2 k (by omega)
  obtain ⟨d1, d2, d3⟩ : codeC 1 k = c ∧ nbits 1 k = cbits 2 c ∧ codeX 1 k = k - cleast 2 c := code_of 1 c k c1 c2
  have hc : c < 20 := by
    apply Classical.byContradiction
    intro hn
    have g1 : cleast 2 20 ≤ cleast 2 c := cleast_mono 2 20 c (by omega) (by omega)
    have g2 : cleast 2 20 = 1024 := by decide
    omega
  refine ⟨c, by rw [e1, d1]; rfl, by omega, by rw [e2, d2]; rfl, cb2 c hc, ?_⟩
  intro s a H
  rw [e3, d3] at H
  have := has_low H
  rw [Int.toNat_natCast] at this
  unfold backTold
  rw [this, Nat.mod_eq_of_lt (by omega)]
  omega

/-- How many bits a piece has, at most. -/
theorem pc_bound (s : ByteArray) (i : Nat) (hi : i < s.size) : 7 ≤ (pcBits (pieceAt s i)).length ∧ (pcBits (pieceAt s i)).length ≤ 9 * stepAt s i := by
  rcases piece_cases s i hi with ⟨n, d, e1, e2, h3, h4, h5, h6, h7, -, -, -⟩ | ⟨e1, e2⟩
  · obtain ⟨y, y1, y2, y3, y4, y5, -⟩ := len_code n h3 h4
    obtain ⟨c, c1, c2, c3, c4, -⟩ := back_code d h5 h7
    have l1 := Pk.fixL_pos (y : Int) (by omega) (by omega)
    have l2 : (fixL (y : Int)).length ≤ 8 := by
      unfold fixL
      rw [if_neg (by omega), if_neg (by omega)]
      split
      · rw [highL_length]; omega
      split
      · rw [highL_length]; omega
      · simp
    rw [e1, e2]
    unfold pcBits
    rw [if_neg (by show ¬ ((n : Int) = 0); omega)]
    show 7 ≤ (fixL (lenC (n : Int)) ++ lowL (lenX (n : Int)).toNat (lenB (n : Int)).toNat ++ highL (backC (d : Int)).toNat 5 ++ lowL (backX (d : Int)).toNat (backB (d : Int)).toNat).length ∧ (fixL (lenC (n : Int)) ++ lowL (lenX (n : Int)).toNat (lenB (n : Int)).toNat ++ highL (backC (d : Int)).toNat 5 ++ lowL (backX (d : Int)).toNat (backB (d : Int)).toNat).length ≤ _
    rw [List.length_append, List.length_append, List.length_append, lowL_length, lowL_length, highL_length, y1, y4, c3]
    omega
  · rw [e1, e2]
    have hb := s[i].toNat_lt
    unfold pcBits
    rw [if_pos rfl]
    show 7 ≤ (fixL (s[i].toNat : Int)).length ∧ (fixL (s[i].toNat : Int)).length ≤ _
    have l1 := Pk.fixL_pos (s[i].toNat : Int) (by omega) (by omega)
    have l2 := Pk.fixL_length (s[i].toNat : Int)
    omega

/-- The bits of the first k pieces. -/
def bitsAt (s : ByteArray) (k : Nat) : List Nat := pcsBits ((pieces s).take k)

theorem bits_succ (s : ByteArray) (hs : s.size ≤ 3000) (k : Nat) (hk : k < (pieces s).length) : bitsAt s (k + 1) = bitsAt s k ++ pcBits (pieceAt s (posAt s k)) := by
  unfold bitsAt
  rw [Pk.pcsBits_take _ _ hk, (pos_at s hs k hk).1]

theorem bits_bound (s : ByteArray) (hs : s.size ≤ 3000) (k : Nat) (hk : k ≤ (pieces s).length) : 7 * k ≤ (bitsAt s k).length ∧ (bitsAt s k).length ≤ 9 * posAt s k := by
  induction k with
  | zero => exact ⟨Nat.zero_le _, by simp [bitsAt, pcsBits, posAt]⟩
  | succ k ih =>
    obtain ⟨h1, h2⟩ := ih (by omega)
    obtain ⟨h3, h4⟩ := pc_bound s (posAt s k) (pos_at s hs k (by omega)).2
    rw [bits_succ s hs k (by omega), List.length_append, posAt]
    omega

theorem bits_all (s : ByteArray) : bitsAt s (pieces s).length = pcsBits (pieces s) := by
  unfold bitsAt
  rw [List.take_length]

theorem bits_rest (s : ByteArray) (hs : s.size ≤ 3000) (k : Nat) (hk : k < (pieces s).length) : pcsBits (pieces s) = bitsAt s k ++ pcBits (pieceAt s (posAt s k)) ++ pcsBits ((pieces s).drop (k + 1)) := by
  rw [← bits_succ s hs k hk]
  unfold bitsAt
  rw [← Pk.pcsBits_append, List.take_append_drop]

/-- A piece that is read. -/
theorem piece_read (p s : ByteArray) (hs : s.size ≤ 3000) (i a g : Nat) (hi : i < s.size) (H : Has p a (pcBits (pieceAt s i))) (hp : a + (pcBits (pieceAt s i)).length ≤ 8 * p.size) :
    fixFrom p (g + 1) a (s.data.toList.take i) = fixFrom p g (a + (pcBits (pieceAt s i)).length) (s.data.toList.take (i + stepAt s i)) := by
  have hl : s.data.toList.length = s.size := Array.length_toList
  have hlen : (s.data.toList.take i).length = i := by rw [List.length_take]; omega
  have hfit := stepAt_fits s i hi
  rcases piece_cases s i hi with ⟨n, d, e1, e2, h3, h4, h5, h6, h7, h8, h9, -⟩ | ⟨e1, e2⟩
  · obtain ⟨y, y1, y2, y3, y4, y5, y6⟩ := len_code n h3 h4
    obtain ⟨c, c1, c2, c3, c4, c6⟩ := back_code d h5 h7
    have eb : pcBits (pieceAt s i) = fixL (y : Int) ++ lowL (lenX (n : Int)).toNat (lenBits y) ++ highL c 5 ++ lowL (backX (d : Int)).toNat (cbits 2 c) := by
      rw [e1]
      unfold pcBits
      rw [if_neg (by show ¬ ((n : Int) = 0); omega)]
      show fixL (lenC (n : Int)) ++ lowL (lenX (n : Int)).toNat (lenB (n : Int)).toNat ++ highL (backC (d : Int)).toNat 5 ++ lowL (backX (d : Int)).toNat (backB (d : Int)).toNat = _
      rw [y1, y4, c1, c3]
    rw [eb] at H hp ⊢
    simp only [List.length_append, lowL_length, highL_length] at hp ⊢
    obtain ⟨H123, H4⟩ := H.split
    obtain ⟨H12, H3⟩ := H123.split
    obtain ⟨H1, H2⟩ := H12.split
    simp only [List.length_append, lowL_length, highL_length] at H2 H3 H4
    obtain ⟨s1, s2⟩ := sym_read y (by omega) H1
    have t1 := has_high H3 (by omega)
    have q1 : p1 p a = a + ((fixL (y : Int)).length + lenBits y) := by unfold p1; rw [s1, s2]; omega
    have q2 : bk p a = c := by unfold bk; rw [q1]; exact t1
    have q3 : p2' p a = a + ((fixL (y : Int)).length + lenBits y + 5 + cbits 2 c) := by unfold p2'; rw [q1, q2]; omega
    have q4 : dd p a = d := by
      unfold dd
      rw [q1, q2]
      refine c6 p _ ?_
      rw [show a + ((fixL (y : Int)).length + lenBits y) + 5 = a + ((fixL (y : Int)).length + lenBits y + 5) by omega]
      exact H4
    have q5 : nn p a = n := by unfold nn; rw [s1, s2]; exact y6 p _ H2
    rw [fix_copy (by rw [s2]; omega) (by omega) (by omega) (by rw [q1]; omega) (by rw [q2]; omega) (by rw [q3]; omega) (by rw [q4, hlen]; omega) (by rw [q5, hlen]; omega), q3, q4, q5, e2, copy_take s i d n h5 h6 h8 h9 n (Nat.le_refl _)]
  · have hb := s[i].toNat_lt
    have eb : pcBits (pieceAt s i) = fixL ((s[i].toNat : Nat) : Int) := by
      rw [e1]
      unfold pcBits
      rw [if_pos rfl]
    rw [eb] at H hp ⊢
    obtain ⟨s1, s2⟩ := sym_read s[i].toNat (by omega) H
    have hi' : i < s.data.toList.length := by omega
    rw [fix_byte (by rw [s2]; omega) (by omega) (by rw [hlen]; omega), s1, s2, e2, List.take_add_one, List.getElem?_eq_getElem hi', UInt8.ofNat_toNat]
    rfl

theorem fix_pieces (p s : ByteArray) (hs : s.size ≤ 3000) (H : Has p 3 (pcsBits (pieces s))) (hp : 3 + (pcsBits (pieces s)).length ≤ 8 * p.size) (k : Nat) (hk : k ≤ (pieces s).length) :
    ∀ g, fixFrom p (g + k) 3 [] = fixFrom p g (3 + (bitsAt s k).length) (s.data.toList.take (posAt s k)) := by
  induction k with
  | zero => intro g; simp [bitsAt, pcsBits, posAt]
  | succ k ih =>
    intro g
    rw [show g + (k + 1) = (g + 1) + k by omega, ih (by omega)]
    have hr := bits_rest s hs k (by omega)
    rw [hr] at H hp
    obtain ⟨H12, -⟩ := H.split
    obtain ⟨-, H2⟩ := H12.split
    rw [List.length_append, List.length_append] at hp
    rw [piece_read p s hs (posAt s k) _ g (pos_at s hs k (by omega)).2 H2 (by omega), bits_succ s hs k (by omega), List.length_append, posAt, Nat.add_assoc]

theorem rst_ok (s : ByteArray) (n : Nat) : ∀ a, a ≤ 8 * s.size → 8 * s.size < a + 8 → 8 * s.size ≤ a + n → (∀ j, a ≤ j → bitAt s j = 0) → rst s n a = 0 := by
  induction n with
  | zero => intro a h1 h2 h3 _; rw [rst, if_neg (by omega)]
  | succ n ih =>
    intro a h1 h2 h3 h4
    rw [rst]
    by_cases e : a % 8 = 0
    · rw [if_pos e, if_neg (by omega)]
    · rw [if_neg e, if_neg (by rw [h4 a (Nat.le_refl _)]; omega)]
      exact ih (a + 1) (by omega) (by omega) (by omega) fun j hj => h4 j (by omega)

theorem packL_bits (s : ByteArray) : Bits (packL s) := by
  unfold packL
  refine Bits.append (Bits.append ?_ (Pk.pcsBits_bits _)) (Pk.fixL_bits _)
  intro b hb
  simp at hb
  omega

theorem packL_length (s : ByteArray) (hs : s.size ≤ 3000) : (packL s).length = 10 + (pcsBits (pieces s)).length ∧ (pcsBits (pieces s)).length ≤ 9 * s.size ∧ 7 * (pieces s).length ≤ (pcsBits (pieces s)).length := by
  have h1 := bits_bound s hs _ (Nat.le_refl _)
  rw [bits_all, pos_end s hs] at h1
  refine ⟨?_, h1.2, h1.1⟩
  unfold packL
  have e : (fixL 256).length = 7 := by decide
  rw [List.length_append, List.length_append, e]
  show 3 + _ + 7 = _
  omega

theorem packS_size (s : ByteArray) (hs : s.size ≤ 3000) : (packS s).size = ((packL s).length + 7) / 8 := by
  rw [Pk.packS_yes s hs]
  show (bytesOf (packL s)).toArray.size = _
  rw [List.size_toArray, bytesOf_length]

theorem packS_bound (s : ByteArray) (hs : s.size ≤ 3000) : 1 ≤ (packS s).size ∧ (packS s).size ≤ s.size * 9 / 8 + 3 := by
  have h := packL_length s hs
  rw [packS_size s hs]
  omega

theorem packS_bit (s : ByteArray) (hs : s.size ≤ 3000) (i : Nat) : bitAt (packS s) i = (packL s).getD i 0 := by
  rw [Pk.packS_yes s hs]
  exact bitAt_of _ (packL_bits s) i

theorem packS_body (s : ByteArray) (hs : s.size ≤ 3000) : bitAt (packS s) 0 = 1 ∧ lowAt (packS s) 1 2 = 1 ∧ body (packS s) = (0, s.data.toList, (packL s).length) := by
  have hl := packL_length s hs
  have hz := packS_size s hs
  have HA : Has (packS s) 0 (packL s) := fun j _ => by rw [Nat.zero_add]; exact packS_bit s hs j
  have h0 : bitAt (packS s) 0 = 1 := by rw [packS_bit s hs]; rfl
  have h1 : bitAt (packS s) 1 = 1 := by rw [packS_bit s hs]; rfl
  have h2 : bitAt (packS s) 2 = 0 := by rw [packS_bit s hs]; rfl
  have h3 : lowAt (packS s) 1 2 = 1 := by
    show 0 + bitAt (packS s) (1 + 0) * 2 ^ 0 + bitAt (packS s) (1 + 1) * 2 ^ 1 = 1
    rw [show 1 + 0 = 1 from rfl, show 1 + 1 = 2 from rfl, h1, h2]
  refine ⟨h0, h3, ?_⟩
  unfold body
  rw [if_pos h3]
  unfold packL at HA
  obtain ⟨HB, H3⟩ := HA.split
  obtain ⟨-, H2⟩ := HB.split
  rw [List.length_append, Nat.zero_add] at H3
  rw [Nat.zero_add] at H2
  obtain ⟨g, hg⟩ : ∃ g, 8 * (packS s).size + 1 = (g + 1) + (pieces s).length := ⟨8 * (packS s).size - (pieces s).length, by omega⟩
  obtain ⟨s1, s2⟩ := sym_read 256 (by omega) H3
  have e7 : (fixL ((256 : Nat) : Int)).length = 7 := by decide
  rw [e7] at s2
  have e3 : [1, 1, 0].length = 3 := rfl
  rw [e3] at s1 s2 H2
  rw [hg, fix_pieces (packS s) s hs H2 (by omega) _ (Nat.le_refl _) (g + 1), bits_all, pos_end s hs, fix_end (by rw [s2]; omega) s1, s2, List.take_of_length_le (by rw [Array.length_toList]; exact Nat.le_refl _), hl.1]
  simp only [Prod.mk.injEq, true_and]
  omega

/-- A text comes back from what was packed of it. -/
theorem unp_pack (s : ByteArray) (hs : s.size ≤ 3000) : unpC (packS s) = 0 ∧ unpT (packS s) = s := by
  obtain ⟨h0, h1, h2⟩ := packS_body s hs
  have hb := packS_bound s hs
  have hl := packL_length s hs
  have hz := packS_size s hs
  obtain ⟨-, hB⟩ := unp_body (s := packS s) (by omega) (by omega) (by rw [h0, h1]; omega) h2
  obtain ⟨c1, c2⟩ := hB rfl
  have hr : rst (packS s) 8 (packL s).length = 0 := rst_ok _ 8 _ (by omega) (by omega) (by omega) fun j hj => by rw [packS_bit s hs, getD_far _ _ hj]
  rw [hr] at c1
  exact ⟨c1, c2 c1⟩

theorem bitAt_left (a b : ByteArray) (i : Nat) (h : i < 8 * a.size) : bitAt (a ++ b) i = bitAt a i := by
  have h1 : i / 8 < a.size := by omega
  unfold bitAt
  have e : (a ++ b).data.toList = a.data.toList ++ b.data.toList := by simp
  rw [e, List.getD_eq_getElem?_getD, List.getD_eq_getElem?_getD, List.getElem?_append_left (by rw [Array.length_toList]; exact h1)]

theorem lowAt_left (a b : ByteArray) (i n : Nat) (h : i + n ≤ 8 * a.size) : lowAt (a ++ b) i n = lowAt a i n := by
  induction n with
  | zero => rfl
  | succ n ih => rw [lowAt, lowAt, ih (by omega), bitAt_left a b _ (by omega)]

theorem topAt_left (a b : ByteArray) (i n : Nat) (h : i + n ≤ 8 * a.size) : topAt (a ++ b) i n = topAt a i n := by
  induction n with
  | zero => rfl
  | succ n ih => rw [topAt, topAt, ih (by omega), bitAt_left a b _ (by omega)]

theorem stored_size (s : ByteArray) (hs : s.size ≤ 3000) : (storedS s).size = s.size + 5 := by
  rw [Pk.storedS_yes s hs, ByteArray.size_append]
  show 5 + s.size = _
  omega

theorem stored_body (s : ByteArray) (hs : s.size ≤ 3000) : bitAt (storedS s) 0 = 1 ∧ lowAt (storedS s) 1 2 = 0 ∧ body (storedS s) = (0, s.data.toList, 40 + 8 * s.size) := by
  have hz := stored_size s hs
  have hh : (⟨(storedHead s.size).toArray⟩ : ByteArray).size = 5 := rfl
  generalize hL : [1] ++ lowL 0 2 ++ lowL 0 5 ++ lowL s.size 16 ++ lowL (65535 - s.size) 16 = L
  have hb := Pk.stored_bytes s.size hs
  rw [hL] at hb
  have hBits : Bits L := by
    rw [← hL]
    exact ((((Bits.one (Nat.le_refl _)).append (lowL_bits _ _)).append (lowL_bits _ _)).append (lowL_bits _ _)).append (lowL_bits _ _)
  have hlen : L.length = 40 := by rw [← hL]; simp only [List.length_append, lowL_length, List.length_singleton]
  have HA : Has (storedS s) 0 L := by
    intro j hj
    rw [Nat.zero_add, Pk.storedS_yes s hs, bitAt_left _ _ _ (by omega), ← hb, bitAt_of L hBits]
  rw [← hL] at HA
  obtain ⟨HB, H5⟩ := HA.split
  obtain ⟨HC, H4⟩ := HB.split
  obtain ⟨HD, -⟩ := HC.split
  obtain ⟨H1, H2⟩ := HD.split
  simp only [List.length_append, lowL_length, List.length_singleton, Nat.zero_add, Nat.reduceAdd] at H2 H4 H5
  have h0 : bitAt (storedS s) 0 = 1 := H1 0 (by simp)
  have h2 : lowAt (storedS s) 1 2 = 0 := by rw [has_low H2]
  have h4 : lowAt (storedS s) 8 16 = s.size := by rw [has_low H4, Nat.mod_eq_of_lt (by omega)]
  have h5 : lowAt (storedS s) 24 16 = 65535 - s.size := by rw [has_low H5, Nat.mod_eq_of_lt (by omega)]
  have hc : storedC (storedS s) = 0 := by
    unfold storedC
    rw [if_neg (by omega), if_neg (by omega), if_neg (by omega), if_neg (by omega)]
  have ht : storedT (storedS s) = s := by
    unfold storedT
    rw [if_pos hc, h4, Pk.storedS_yes s hs]
    apply ByteArray.ext
    rw [ByteArray.data_extract, ByteArray.data_append]
    apply Array.toList_inj.1
    rw [Array.toList_extract, List.extract_eq_take_drop, Array.toList_append]
    show List.take (5 + s.size - 5) (List.drop 5 ((storedHead s.size) ++ s.data.toList)) = _
    rw [List.drop_append_of_le_length (by show 5 ≤ 5; omega), show List.drop 5 (storedHead s.size) = [] from rfl, List.nil_append, List.take_of_length_le (by rw [Array.length_toList]; show s.size ≤ _; omega)]
  refine ⟨h0, h2, ?_⟩
  unfold body
  rw [if_neg (by omega), hc, ht, h4]

/-- A text comes back from what was stored of it. -/
theorem unp_stored (s : ByteArray) (hs : s.size ≤ 3000) : unpC (storedS s) = 0 ∧ unpT (storedS s) = s := by
  obtain ⟨h0, h1, h2⟩ := stored_body s hs
  have hz := stored_size s hs
  obtain ⟨-, hB⟩ := unp_body (s := storedS s) (by omega) (by omega) (by rw [h0, h1]; omega) h2
  obtain ⟨c1, c2⟩ := hB rfl
  rw [rst_end _ _ _ (by omega), if_neg (by omega)] at c1
  exact ⟨c1, c2 c1⟩

end Math
end Go.Proofs.YtcifgableeeooabDoor

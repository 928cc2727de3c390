/- What Paint makes: the mathematics. -/
import Derived.Test.YtkhibgicejcmlamSqBits
namespace Go.Proofs.Ytkhibgicejcmlam
namespace Sq
open Go.ChangeShapes Go.WideShapes Go.ChangeAt Go.RowKit
open Pk (icells)
set_option linter.unusedSimpArgs false
set_option linter.unusedVariables false

/-- The two bytes of a length. -/
def lenS (n : Nat) : ByteArray := ⟨#[UInt8.ofNat (n / 256), UInt8.ofNat (n % 256)]⟩

/-- What stands behind the heart. -/
def bodyS (s : ByteArray) : ByteArray := lenS s.size ++ s ++ Num.wordS (Math.crc s.data.toList)

theorem bodyS_size (s : ByteArray) : (bodyS s).size = s.size + 6 := by
  unfold bodyS
  rw [ByteArray.size_append, ByteArray.size_append, Num.wordS_size]
  show 2 + s.size + 4 = _
  omega

def bodyB (s : ByteArray) : List Nat := bitsL (bodyS s).data.toList

theorem bodyB_length (s : ByteArray) : (bodyB s).length = 8 * (s.size + 6) := by
  unfold bodyB
  rw [bitsL_length, Array.length_toList]
  show 8 * (bodyS s).size = _
  rw [bodyS_size]

theorem bitsL_bit (l : List UInt8) : ∀ b ∈ bitsL l, b = 0 ∨ b = 1 := by
  intro b hb
  obtain ⟨x, -, h⟩ := List.mem_flatMap.1 hb
  obtain ⟨j, -, rfl⟩ := List.mem_map.1 h
  omega

/-- The bit at a place behind the heart, nought behind the end. -/
def bitAt (s : ByteArray) (i : Nat) : Nat := (bodyB s).getD i 0

theorem bitAt_or (s : ByteArray) (i : Nat) : bitAt s i = 0 ∨ bitAt s i = 1 := by
  unfold bitAt
  rw [List.getD_eq_getElem?_getD]
  by_cases h : i < (bodyB s).length
  · rw [List.getElem?_eq_getElem h]
    exact bitsL_bit _ _ (List.getElem_mem h)
  · rw [List.getElem?_eq_none (by omega)]
    exact .inl rfl

/-- The sign at field k of the way. -/
def pSign (s : ByteArray) (k : Nat) : UInt8 := if k < 25 then tb hsS k else UInt8.ofNat (48 + bitAt s (k - 25))

theorem pSign_heart (s : ByteArray) (k : Nat) (h : k < 25) : ((pSign s k).toNat : Int) = 48 + heartI (wx k) (wy k) := by
  unfold pSign
  rw [if_pos h, heart_tab k h]
  omega

theorem pSign_bit (s : ByteArray) (k : Nat) (h : ¬ k < 25) : (pSign s k).toNat = 48 + bitAt s (k - 25) := by
  unfold pSign
  rw [if_neg h, UInt8.toNat_ofNat']
  rcases bitAt_or s (k - 25) with e | e <;> rw [e]

theorem hs_or : ∀ k, k < 25 → (tb hsS k).toNat = 48 ∨ (tb hsS k).toNat = 49 := by decide

theorem pSign_or (s : ByteArray) (k : Nat) : (pSign s k).toNat = 48 ∨ (pSign s k).toNat = 49 := by
  by_cases h : k < 25
  · unfold pSign
    rw [if_pos h]
    exact hs_or k h
  · rw [pSign_bit s k h]
    rcases bitAt_or s (k - 25) with e | e <;> rw [e] <;> simp

theorem bitAt_end (s : ByteArray) (i : Nat) (h : ¬ i < 8 * (s.size + 6)) : bitAt s i = 0 := by
  unfold bitAt
  rw [List.getD_eq_getElem?_getD, List.getElem?_eq_none (by rw [bodyB_length]; omega)]
  rfl

/-- Half the size of a text's square. -/
def pH (s : ByteArray) : Nat := szH (8 * (s.size + 6))

theorem pH_bd (s : ByteArray) : 4 ≤ pH s ∧ pH s ≤ 30 := szFrom_bd _ 26 4

theorem pH_ge (s : ByteArray) (hs : s.size ≤ 400) : 8 * (s.size + 6) + 25 ≤ (2 * pH s + 1) * (2 * pH s + 1) := szFrom_ge _ 26 4 (by omega)

/-- The signs of a text's square. -/
def paintS (s : ByteArray) : ByteArray := strT ((2 * pH s + 1) * (2 * pH s + 1)) (fun j => pSign s (kOf (cX (pH s) j) (cY (pH s) j)))

/-- The cells behind k fields. -/
def pF (h : Nat) (g : Nat → UInt8) (k j : Nat) : Value := if kOf (cX h j) (cY h j) < k then .int .u8 ((g (kOf (cX h j) (cY h j))).toNat : Int) else .int .u8 48

theorem pF_zero (h : Nat) (g : Nat → UInt8) (j : Nat) : pF h g 0 j = .int .u8 48 := by
  unfold pF
  rw [if_neg (by omega)]

theorem pF_step (h : Nat) (g : Nat → UInt8) (k : Nat) (hk : k < (2 * h + 1) * (2 * h + 1)) (j : Nat) : pF h g (k + 1) j = if j = idx h (wx k) (wy k) then .int .u8 ((g k).toNat : Int) else pF h g k j := by
  obtain ⟨a1, a2, a3, a4⟩ := dist_in (way_dist k h hk)
  unfold pF
  by_cases e : j = idx h (wx k) (wy k)
  · rw [if_pos e]
    subst e
    rw [cX_idx a1 a2, cY_idx a1 a2 a3, kOf_way, if_pos (by omega)]
  · rw [if_neg e]
    have hne : kOf (cX h j) (cY h j) ≠ k := by
      intro hk
      obtain ⟨w1, w2⟩ := way_kOf (cX h j) (cY h j)
      rw [hk] at w1 w2
      apply e
      rw [w1, w2, idx_of]
    by_cases hl : kOf (cX h j) (cY h j) < k
    · rw [if_pos hl, if_pos (by omega)]
    · rw [if_neg hl, if_neg (by omega)]

theorem pF_end (h : Nat) (g : Nat → UInt8) (j : Nat) (hj : j < (2 * h + 1) * (2 * h + 1)) : pF h g ((2 * h + 1) * (2 * h + 1)) j = .int .u8 ((g (kOf (cX h j) (cY h j))).toNat : Int) := by
  unfold pF
  obtain ⟨⟨a, b⟩, c, d⟩ := c_in hj
  rw [if_pos (kOf_lt (in_dist ⟨a, b⟩ ⟨c, d⟩))]

/-- The cells of a row of a function's own. -/
theorem own_Cl {w : World} {base e g n cap : Nat} {xs : List Value} {f : Nat → Value} (h : w.ownsRow base e 1 (.slice (some ⟨g, 0, none⟩) n cap) n xs) (hf : ∀ j, j < n → xs[j]? = some (f j)) : Cl w g n f := by
  intro j hj
  have h' := h
  obtain ⟨-, h2⟩ := h'
  obtain ⟨g', cap', e1, -, -, u', hu', hc⟩ := Pk.own_at h j hj
  simp only [Value.slice.injEq, Option.some.injEq, Addr.mk.injEq] at e1
  refine ⟨by rw [e1.1.1, hc, ← hu', hf j hj], ?_⟩
  rcases h2 with ⟨hv, -⟩ | ⟨g2, cap2, cur, hv, -, hh, -⟩
  · cases hv
  · simp only [Value.slice.injEq, Option.some.injEq, Addr.mk.injEq] at hv
    rw [hv.1.1]
    exact Pk.frozen_at hh j

theorem conv2 (n : Nat) (hn : n ≤ 400) (W : World) (g : Nat) (h0 : W.cell? ⟨g, 0, none⟩ = some (.int .u8 ((n / 256 : Nat) : Int))) (h1 : W.cell? ⟨g, 1, none⟩ = some (.int .u8 ((n % 256 : Nat) : Int))) :
    (convert 50 9 (.slice (some ⟨g, 0, none⟩) 2 2)).run Try.prog W = .ok (.string (lenS n)) W := by
  refine run_convert_bytes_back W 50 9 5 ⟨g, 0, none⟩ 2 [UInt8.ofNat (n / 256), UInt8.ofNat (n % 256)] Try.underlying50 Try.underlying5 Try.underlying9 ?_
  intro j hj
  rw [show Addr.add ⟨g, 0, none⟩ j = ⟨g, j, none⟩ from by simp [Addr.add]; exact Eq.symm]
  match j, hj with
  | 0, _ =>
    rw [h0]
    show _ = some (Value.int .u8 ((UInt8.ofNat (n / 256)).toNat : Int))
    rw [UInt8.toNat_ofNat', Nat.mod_eq_of_lt (by omega)]
  | 1, _ =>
    rw [h1]
    show _ = some (Value.int .u8 ((UInt8.ofNat (n % 256)).toNat : Int))
    rw [UInt8.toNat_ofNat', show n % 256 % 2 ^ 8 = n % 256 from Nat.mod_mod n 256]

end Sq
end Go.Proofs.Ytkhibgicejcmlam

/- A text comes back from its square, whichever way it is held; one wrong field is never taken for the text: the mathematics. -/
import Derived.Test.YtkhibgicejcmlacSqScanM
import Derived.Test.YtkhibgicejcmlacSqFour
namespace Go.Proofs.Ytkhibgicejcmlac
namespace Sq
open Go.ChangeShapes Go.WideShapes Go.ChangeAt Go.RowKit
set_option linter.unusedSimpArgs false
set_option linter.unusedVariables false

theorem paint_size (s : ByteArray) : (paintS s).size = (2 * pH s + 1) * (2 * pH s + 1) := by
  unfold paintS
  rw [strT_size]

theorem paint_along (s : ByteArray) (k : Nat) (hk : k < (2 * pH s + 1) * (2 * pH s + 1)) : alongF (pH s) (paintS s) k = pSign s k := by
  obtain ⟨a1, a2, a3, a4⟩ := dist_in (way_dist k (pH s) hk)
  unfold alongF paintS
  rw [strT_at _ _ _ (idxLt a1 a2 a3 a4), cX_idx a1 a2, cY_idx a1 a2 a3, kOf_way]

theorem paint_ok (s : ByteArray) : okQ (2 * (pH s : Int) + 1) (paintS s) = true := by
  refine ok_mk (pH_bd s).1 (pH_bd s).2 (paint_size s) ?_
  intro j hj
  rw [paint_size] at hj
  unfold paintS
  rw [strT_at _ _ _ hj]
  exact pSign_or _ _

theorem h25 {h : Nat} (h4 : 4 ≤ h) : 81 ≤ (2 * h + 1) * (2 * h + 1) := Nat.mul_le_mul (by omega : 9 ≤ 2 * h + 1) (by omega : 9 ≤ 2 * h + 1)

/-- Where a field of the way stood ahead of a quarter. -/
def rho (k : Nat) : Nat := kOf (wy k) (-(wx k))

theorem rho_lt {h k : Nat} (hk : k < (2 * h + 1) * (2 * h + 1)) : rho k < (2 * h + 1) * (2 * h + 1) := by
  obtain ⟨a1, a2, a3, a4⟩ := dist_in (way_dist k h hk)
  exact kOf_lt (in_dist ⟨a3, a4⟩ ⟨by omega, by omega⟩)

theorem rho_25 {k : Nat} (hk : k < 25) : rho k < 25 := rho_lt (h := 2) hk

theorem turn_along {h : Nat} {s : ByteArray} {k : Nat} (hk : k < (2 * h + 1) * (2 * h + 1)) : alongF h (turnS h s) k = alongF h s (rho k) := by
  obtain ⟨a1, a2, a3, a4⟩ := dist_in (way_dist k h hk)
  unfold alongF
  obtain ⟨e1, e2⟩ := way_kOf (wy k) (-(wx k))
  rw [tbAt a1 a2 a3 a4]
  unfold rho
  rw [e1, e2]

/-- Places ahead of m quarters. -/
def rhoN : Nat → Nat → Nat
  | 0, k => k
  | m + 1, k => rhoN m (rho k)

theorem rhoN_25 : ∀ m {k : Nat}, k < 25 → rhoN m k < 25
  | 0, _, h => h
  | m + 1, _, h => rhoN_25 m (rho_25 h)

theorem rhoN_lt {h : Nat} : ∀ m {k : Nat}, k < (2 * h + 1) * (2 * h + 1) → rhoN m k < (2 * h + 1) * (2 * h + 1)
  | 0, _, h => h
  | m + 1, _, h => rhoN_lt m (rho_lt h)

theorem turnN_along {h : Nat} {s : ByteArray} (hok : okQ (2 * (h : Int) + 1) s = true) : ∀ m {k : Nat}, k < (2 * h + 1) * (2 * h + 1) → alongF h (turnN (2 * (h : Int) + 1) s m) k = alongF h s (rhoN m k)
  | 0, _, _ => rfl
  | m + 1, k, hk => by
    show alongF h (turnV (2 * (h : Int) + 1) (turnN (2 * (h : Int) + 1) s m)) k = _
    rw [turnV_ok (ok_turnN hok m), turn_along hk, turnN_along hok m (rho_lt hk)]
    rfl

theorem hs_turned : ∀ m : Fin 4, m.val ≠ 0 → ∃ k : Fin 25, tb hsS (rhoN m.val k.val) ≠ tb hsS k.val := by decide +kernel

theorem hs_flip : ∀ (i : Fin 25) (m : Fin 4), ∃ k : Fin 25, (if k = i then 97 - tb hsS k.val else tb hsS k.val) ≠ tb hsS (rhoN m.val k.val) := by decide +kernel

theorem paint_hs (s : ByteArray) (k : Nat) (hk : k < 25) : alongF (pH s) (paintS s) k = tb hsS k := by
  have := h25 (pH_bd s).1
  rw [paint_along s k (by omega)]
  unfold pSign
  rw [if_pos hk]

theorem heart_is (s : ByteArray) (m : Nat) (hm : m < 4) : hOk (pH s) (turnN (2 * (pH s : Int) + 1) (paintS s) m) 25 = decide (m = 0) := by
  have hb := h25 (pH_bd s).1
  have e : ∀ k, k < 25 → alongF (pH s) (turnN (2 * (pH s : Int) + 1) (paintS s) m) k = tb hsS (rhoN m k) := by
    intro k hk
    rw [turnN_along (paint_ok s) m (by omega), paint_hs s _ (rhoN_25 m hk)]
  by_cases h0 : m = 0
  · rw [decide_eq_true h0]
    unfold hOk
    rw [List.all_eq_true]
    intro k hk
    rw [decide_eq_true_eq, e k (List.mem_range.1 hk), h0]
    rfl
  · rw [decide_eq_false h0]
    obtain ⟨k, hk⟩ := hs_turned ⟨m, hm⟩ h0
    unfold hOk
    rw [List.all_eq_false]
    refine ⟨k.val, List.mem_range.2 k.isLt, ?_⟩
    rw [decide_eq_true_eq, e k.val k.isLt]
    exact hk

theorem heart_any (s : ByteArray) (m : Nat) (hm : m < 8) : hOk (pH s) (turnN (2 * (pH s : Int) + 1) (paintS s) m) 25 = decide (m % 4 = 0) := by
  by_cases h : m < 4
  · rw [heart_is s m h, Nat.mod_eq_of_lt h]
  · obtain ⟨j, rfl⟩ : ∃ j, m = 4 + j := ⟨m - 4, by omega⟩
    rw [← turnN_add, four_n (paint_ok s), heart_is s j (by omega), show (4 + j) % 4 = j from by omega]

theorem heart_back (s : ByteArray) (a : Nat) (ha : a < 4) : heartV (2 * (pH s : Int) + 1) (turnN (2 * (pH s : Int) + 1) (paintS s) a) = (((4 - a) % 4 : Nat) : Int) := by
  rw [heartV_ok (ok_turnN (paint_ok s) a)]
  have e : ∀ m, m < 4 → hAt (pH s) (2 * (pH s : Int) + 1) (turnN (2 * (pH s : Int) + 1) (paintS s) a) m = decide ((a + m) % 4 = 0) := by
    intro m hm
    unfold hAt
    rw [turnN_add, heart_any s _ (by omega)]
  generalize hAt (pH s) (2 * (pH s : Int) + 1) (turnN (2 * (pH s : Int) + 1) (paintS s) a) = P at *
  have e0 := e 0 (by omega)
  have e1 := e 1 (by omega)
  have e2 := e 2 (by omega)
  have e3 := e 3 (by omega)
  simp only [hv, e0, e1, e2, e3, decide_eq_true_eq]
  have : a = 0 ∨ a = 1 ∨ a = 2 ∨ a = 3 := by omega
  rcases this with rfl | rfl | rfl | rfl <;> simp

theorem turned_back (s : ByteArray) (a : Nat) (ha : a < 4) : turnN (2 * (pH s : Int) + 1) (turnN (2 * (pH s : Int) + 1) (paintS s) a) ((((4 - a) % 4 : Nat) : Int) % 4).toNat = paintS s := by
  have e : ((((4 - a) % 4 : Nat) : Int) % 4).toNat = (4 - a) % 4 := by omega
  rw [e, turnN_add]
  by_cases h0 : a = 0
  · subst h0
    rfl
  · rw [show a + (4 - a) % 4 = 4 from by omega]
    exact four_n (paint_ok s)

/-- The bit at a place of bytes. -/
theorem bits_at : ∀ (l : List UInt8) (j i : Nat), j < l.length → i < 8 → (bitsL l).getD (8 * j + i) 0 = (l.getD j 0).toNat / 2 ^ (7 - i) % 2
  | [], j, i, hj, _ => by simp at hj
  | b :: l, 0, i, _, hi => by
    have e : bitsL (b :: l) = Math.highL b.toNat 8 ++ bitsL l := rfl
    rw [e, List.getD_eq_getElem?_getD, List.getElem?_append_left (by rw [Math.highL_length]; omega)]
    unfold Math.highL
    rw [List.getElem?_map, List.getElem?_range (by omega)]
    simp
  | b :: l, j + 1, i, hj, hi => by
    have e : bitsL (b :: l) = Math.highL b.toNat 8 ++ bitsL l := rfl
    rw [e, List.getD_eq_getElem?_getD, List.getElem?_append_right (by rw [Math.highL_length]; omega), Math.highL_length, show 8 * (j + 1) + i - 8 = 8 * j + i from by omega, ← List.getD_eq_getElem?_getD, bits_at l j i (by simp at hj; omega) hi]
    simp

theorem bv_congr {f g : Nat → Nat} {j n : Nat} (h : ∀ i, i < n → f (8 * j + i) = g (8 * j + i)) : bv f j n = bv g j n := by
  induction n with
  | zero => rfl
  | succ n ih => rw [bv, bv, ih (fun i hi => h i (by omega)), h n (by omega)]

theorem bv_byte (f : Nat → Nat) (j b : Nat) (hb : b < 256) (h : ∀ i, i < 8 → f (8 * j + i) = b / 2 ^ (7 - i) % 2) : ∀ n, n ≤ 8 → bv f j n = b / 2 ^ (8 - n)
  | 0, _ => by
    rw [bv]
    exact (Nat.div_eq_of_lt hb).symm
  | n + 1, hn => by
    rw [bv, bv_byte f j b hb h n (by omega), h n (by omega)]
    have : n = 0 ∨ n = 1 ∨ n = 2 ∨ n = 3 ∨ n = 4 ∨ n = 5 ∨ n = 6 ∨ n = 7 := by omega
    rcases this with rfl | rfl | rfl | rfl | rfl | rfl | rfl | rfl <;> simp <;> omega

theorem body_at (s : ByteArray) (hs : s.size ≤ 400) (j : Nat) (hj : j < s.size + 6) : tb (bodyR (pH s) (paintS s)) j = tb (bodyS s) j := by
  have hb := h25 (pH_bd s).1
  have hg := pH_ge s hs
  have hz := paint_size s
  have hrz : (restS (pH s) (paintS s)).size = (paintS s).size - 25 := restS_size (by omega)
  unfold bodyR
  rw [strT_at _ _ _ (by omega)]
  have hB := (tb (bodyS s) j).toNat_lt
  have e : bv (sbit (restS (pH s) (paintS s))) j 8 = (tb (bodyS s) j).toNat / 2 ^ (8 - 8) := by
    refine bv_byte _ j _ hB ?_ 8 (by omega)
    intro i hi
    have hi2 : 8 * j + i < (restS (pH s) (paintS s)).size := by omega
    have e1 : tb (restS (pH s) (paintS s)) (8 * j + i) = pSign s (25 + (8 * j + i)) := by
      unfold restS
      rw [tb_extract (by omega) (by rw [strT_size]; omega), strT_at _ _ _ (by omega), paint_along s _ (by omega)]
    have e2 : bitAt s (8 * j + i) = (tb (bodyS s) j).toNat / 2 ^ (7 - i) % 2 := by
      unfold bitAt bodyB tb
      exact bits_at _ j i (by rw [Array.length_toList]; show j < (bodyS s).size; rw [bodyS_size]; exact hj) hi
    unfold sbit
    rw [e1, pSign_bit s _ (by omega), show 25 + (8 * j + i) - 25 = 8 * j + i from by omega, e2]
    split <;> omega
  rw [e, show (8 - 8 : Nat) = 0 from rfl, Nat.pow_zero, Nat.div_one, UInt8.ofNat_toNat]

theorem bodyR_size (s : ByteArray) (hs : s.size ≤ 400) : s.size + 6 ≤ (bodyR (pH s) (paintS s)).size := by
  have hb := h25 (pH_bd s).1
  have hg := pH_ge s hs
  have hz := paint_size s
  have hrz : (restS (pH s) (paintS s)).size = (paintS s).size - 25 := restS_size (by omega)
  unfold bodyR
  rw [strT_size]
  omega

theorem tb_left {a b : ByteArray} {i : Nat} (h : i < a.size) : tb (a ++ b) i = tb a i := by
  unfold tb
  rw [ByteArray.data_append, Array.toList_append, List.getD_eq_getElem?_getD, List.getD_eq_getElem?_getD, List.getElem?_append_left (by rw [Array.length_toList]; exact h)]

theorem tb_right {a b : ByteArray} {i : Nat} : tb (a ++ b) (a.size + i) = tb b i := by
  unfold tb
  have e : a.data.toList.length = a.size := Array.length_toList
  rw [ByteArray.data_append, Array.toList_append, List.getD_eq_getElem?_getD, List.getD_eq_getElem?_getD, List.getElem?_append_right (by rw [e]; omega), e, show a.size + i - a.size = i from by omega]

theorem told_back (s : ByteArray) (hs : s.size ≤ 400) : told (bodyR (pH s) (paintS s)) = s.size := by
  have l2 : (lenS s.size).size = 2 := rfl
  have l3 : (lenS s.size ++ s).size = 2 + s.size := by rw [ByteArray.size_append, l2]
  unfold told
  rw [body_at s hs 0 (by omega), body_at s hs 1 (by omega)]
  unfold bodyS
  rw [tb_left (by omega), tb_left (by omega), tb_left (by omega), tb_left (by omega)]
  show (UInt8.ofNat (s.size / 256)).toNat * 256 + (UInt8.ofNat (s.size % 256)).toNat = _
  rw [UInt8.toNat_ofNat', UInt8.toNat_ofNat', Nat.mod_eq_of_lt (by omega), Nat.mod_eq_of_lt (by omega)]
  omega

theorem text_back (s : ByteArray) (hs : s.size ≤ 400) : (bodyR (pH s) (paintS s)).extract 2 (2 + s.size) = s := by
  have l2 : (lenS s.size).size = 2 := rfl
  have l3 : (lenS s.size ++ s).size = 2 + s.size := by rw [ByteArray.size_append, l2]
  have hz := bodyR_size s hs
  have e : ((bodyR (pH s) (paintS s)).extract 2 (2 + s.size)).size = s.size := by rw [ByteArray.size_extract]; omega
  apply text_ext e
  intro j hj
  rw [e] at hj
  rw [tb_extract (by omega) (by omega), body_at s hs _ (by omega)]
  unfold bodyS
  rw [tb_left (by omega), show 2 + j = (lenS s.size).size + j from by rw [l2], tb_right]

theorem word_back (s : ByteArray) (hs : s.size ≤ 400) : (bodyR (pH s) (paintS s)).extract (2 + s.size) (2 + s.size + 4) = Num.wordS (Math.crc s.data.toList) := by
  have l2 : (lenS s.size).size = 2 := rfl
  have l3 : (lenS s.size ++ s).size = 2 + s.size := by rw [ByteArray.size_append, l2]
  have hz := bodyR_size s hs
  have e : ((bodyR (pH s) (paintS s)).extract (2 + s.size) (2 + s.size + 4)).size = 4 := by rw [ByteArray.size_extract]; omega
  apply text_ext (by rw [e, Num.wordS_size])
  intro j hj
  rw [e] at hj
  rw [tb_extract (by omega) (by omega), body_at s hs _ (by omega)]
  unfold bodyS
  rw [show 2 + s.size + j = (lenS s.size ++ s).size + j from by rw [l3], tb_right]

/-- A text comes back from its square. -/
theorem scan_back (s : ByteArray) (hs : s.size ≤ 400) : scanT (2 * (pH s : Int) + 1) (paintS s) (bodyR (pH s) (paintS s)) = s ∧ scanC (2 * (pH s : Int) + 1) (paintS s) (bodyR (pH s) (paintS s)) = 0 := by
  have e1 := told_back s hs
  have e2 := text_back s hs
  have e3 := word_back s hs
  have e4 := bodyR_size s hs
  have e5 : pnV s = 2 * (pH s : Int) + 1 := by unfold pnV; rw [if_pos hs]
  have e6 : ptV s = paintS s := by unfold ptV; rw [if_pos hs]
  constructor
  · unfold scanT
    rw [e1, e2, if_pos ⟨hs, e4, e3, e5, e6⟩]
  · unfold scanC
    rw [e1, e2, if_neg (fun h => h ⟨hs, e4⟩), if_neg (fun h => h e3), if_neg (fun h => h ⟨e5, e6⟩)]

/-- A square in which one field is wrong is never the square of the text, whichever way it is held. -/
theorem flip_never (s p : ByteArray) (i : Nat) (hi : i < (2 * pH s + 1) * (2 * pH s + 1)) (hz : p.size = (2 * pH s + 1) * (2 * pH s + 1)) (hp : ∀ j, j < (2 * pH s + 1) * (2 * pH s + 1) → tb p j = if j = i then 97 - tb (paintS s) j else tb (paintS s) j) (t : Nat) (ht : t < 4) : turnN (2 * (pH s : Int) + 1) p t ≠ paintS s := by
  intro he
  have hb := h25 (pH_bd s).1
  have hne : ∀ x : UInt8, 97 - x ≠ x := by
    intro x
    have h2 : ∀ n : Fin 256, 97 - UInt8.ofNat n.val ≠ UInt8.ofNat n.val := by decide +kernel
    have h3 := h2 ⟨x.toNat, x.toNat_lt⟩
    rw [UInt8.ofNat_toNat] at h3
    exact h3
  have hok : okQ (2 * (pH s : Int) + 1) p = true := by
    refine ok_mk (pH_bd s).1 (pH_bd s).2 hz ?_
    intro j hj
    rw [hz] at hj
    have h1 : (tb (paintS s) j).toNat = 48 ∨ (tb (paintS s) j).toNat = 49 := by
      unfold paintS
      rw [strT_at _ _ _ hj]
      exact pSign_or _ _
    rw [hp j hj]
    split
    · rcases h1 with h1 | h1
      · right
        rw [show tb (paintS s) j = 48 from UInt8.toNat_inj.1 h1]
        rfl
      · left
        rw [show tb (paintS s) j = 49 from UInt8.toNat_inj.1 h1]
        rfl
    · exact h1
  have hpt : p = turnN (2 * (pH s : Int) + 1) (paintS s) ((4 - t) % 4) := by
    rw [← he, turnN_add]
    by_cases h0 : t = 0
    · subst h0
      rfl
    · rw [show t + (4 - t) % 4 = 4 from by omega]
      exact (four_n hok).symm
  obtain ⟨m, hm, hme⟩ : ∃ m, m < 4 ∧ (4 - t) % 4 = m := ⟨_, by omega, rfl⟩
  rw [hme] at hpt
  obtain ⟨⟨x1, x2⟩, y1, y2⟩ := c_in hi
  obtain ⟨k, hk, hkN⟩ : ∃ k, kOf (cX (pH s) i) (cY (pH s) i) = k ∧ k < (2 * pH s + 1) * (2 * pH s + 1) := ⟨_, rfl, kOf_lt (in_dist ⟨x1, x2⟩ ⟨y1, y2⟩)⟩
  have hal : ∀ j, j < (2 * pH s + 1) * (2 * pH s + 1) → alongF (pH s) p j = if j = k then 97 - pSign s j else pSign s j := by
    intro j hj
    obtain ⟨a1, a2, a3, a4⟩ := dist_in (way_dist j (pH s) hj)
    have hpa := paint_along s j hj
    unfold alongF at hpa ⊢
    rw [hp _ (idxLt a1 a2 a3 a4), hpa]
    by_cases e : j = k
    · rw [if_pos e, if_pos]
      rw [e, ← hk, (way_kOf _ _).1, (way_kOf _ _).2, idx_of]
    · rw [if_neg e, if_neg]
      intro e2
      apply e
      rw [← hk, ← e2, cX_idx a1 a2, cY_idx a1 a2 a3, kOf_way]
  have hrel : ∀ j, j < (2 * pH s + 1) * (2 * pH s + 1) → alongF (pH s) p j = pSign s (rhoN m j) := by
    intro j hj
    rw [hpt, turnN_along (paint_ok s) m hj, paint_along s _ (rhoN_lt m hj)]
  have hsg : ∀ j, j < 25 → pSign s j = tb hsS j := by
    intro j hj
    unfold pSign
    rw [if_pos hj]
  by_cases hk25 : k < 25
  · obtain ⟨j, hj⟩ := hs_flip ⟨k, hk25⟩ ⟨m, hm⟩
    have h1 := hal j.val (by omega)
    rw [hrel j.val (by omega), hsg _ (rhoN_25 m j.isLt), hsg _ j.isLt] at h1
    apply hj
    rw [h1]
    by_cases e : j.val = k
    · rw [if_pos e, if_pos (Fin.ext e)]
    · rw [if_neg e, if_neg (fun h => e (by rw [h]))]
  · by_cases hm0 : m = 0
    · subst hm0
      have h1 := hal k hkN
      rw [if_pos rfl, hrel k hkN] at h1
      exact hne _ h1.symm
    · obtain ⟨j, hj⟩ := hs_turned ⟨m, hm⟩ hm0
      have h1 := hal j.val (by omega)
      rw [hrel j.val (by omega), if_neg (by omega), hsg _ (rhoN_25 m j.isLt), hsg _ j.isLt] at h1
      exact hj h1

end Sq
end Go.Proofs.Ytkhibgicejcmlac

/- The mathematics of chapter 4: four digits, and the parts of a frame. -/
import Derived.Test.YtcifgableeeooalDoorShelf
import Derived.Test.YtcifgableeeooalDoorUnSpec
namespace Go.Proofs.YtcifgableeeooalDoor
namespace Fr
open Math (unpC unpT)
set_option linter.unusedVariables false

/-- The number of the first k bytes of a text, where they are digits. -/
def dg (t : ByteArray) : Nat → Option Nat
  | 0 => some 0
  | k + 1 => (dg t k).bind fun n => if 48 ≤ (t.data.toList.getD k 0).toNat ∧ (t.data.toList.getD k 0).toNat ≤ 57 then some (10 * n + ((t.data.toList.getD k 0).toNat - 48)) else none

theorem dg_lt (t : ByteArray) (k n : Nat) (h : dg t k = some n) : n < 10 ^ k := by
  induction k generalizing n with
  | zero => simp [dg] at h; omega
  | succ k ih =>
    rw [dg] at h
    cases e : dg t k with
    | none => rw [e] at h; simp at h
    | some m =>
      rw [e] at h
      have hm := ih m e
      simp only [Option.bind_some] at h
      split at h
      · simp only [Option.some.injEq] at h
        rw [Nat.pow_succ]
        omega
      · simp at h

theorem dg_none (t : ByteArray) (k j : Nat) (h : dg t k = none) (hj : k ≤ j) : dg t j = none := by
  induction j with
  | zero => rw [show (0 : Nat) = k by omega]; exact h
  | succ j ih =>
    by_cases e : k = j + 1
    · subst e; exact h
    · rw [dg, ih (by omega)]
      rfl

theorem dg_at (t : ByteArray) (k n : Nat) (hk : k < t.size) (h : dg t k = some n) : dg t (k + 1) = if 48 ≤ t[k].toNat ∧ t[k].toNat ≤ 57 then some (10 * n + (t[k].toNat - 48)) else none := by
  have h1 : k < t.data.toList.length := by rw [Array.length_toList]; exact hk
  have e : t.data.toList.getD k 0 = t[k] := by rw [List.getD_eq_getElem?_getD, List.getElem?_eq_getElem h1]; rfl
  rw [dg, h, e]
  rfl

theorem dg_ext (t u : ByteArray) (k : Nat) (h : ∀ j, j < k → t.data.toList.getD j 0 = u.data.toList.getD j 0) : dg t k = dg u k := by
  induction k with
  | zero => rfl
  | succ k ih => rw [dg, dg, ih fun j hj => h j (by omega), h k (by omega)]

theorem getD_extract (s : ByteArray) (a b j : Nat) (h : a + j < b) (hb : b ≤ s.size) : (s.extract a b).data.toList.getD j 0 = s.data.toList.getD (a + j) 0 := by
  have e : (s.extract a b).data.toList = (s.data.toList.take b).drop a := by
    rw [ByteArray.data_extract, Array.toList_extract, List.extract_eq_take_drop, List.take_drop]
    congr 2
    omega
  rw [e, List.getD_eq_getElem?_getD, List.getElem?_drop, List.getElem?_take, if_pos (by omega), List.getD_eq_getElem?_getD]

/-- What cutFourDigits answers. -/
def cutB (r : ByteArray) : Bool := decide (4 ≤ r.size) && (dg r 4).isSome
def cutN (r : ByteArray) : Nat := if cutB r = true then (dg r 4).getD 0 else 0
def cutR (r : ByteArray) : ByteArray := if cutB r = true then r.extract 4 r.size else ⟨#[]⟩

theorem cut_yes {r : ByteArray} {n : Nat} (h : 4 ≤ r.size) (hd : dg r 4 = some n) : cutB r = true ∧ cutN r = n ∧ cutR r = r.extract 4 r.size := by
  have e : cutB r = true := by unfold cutB; rw [hd]; simp [h]
  exact ⟨e, by unfold cutN; rw [if_pos e, hd]; rfl, by unfold cutR; rw [if_pos e]⟩

theorem cut_no {r : ByteArray} (h : ¬ (4 ≤ r.size) ∨ dg r 4 = none) : cutB r = false ∧ cutN r = 0 ∧ cutR r = ⟨#[]⟩ := by
  have e : cutB r = false := by
    unfold cutB
    rcases h with h | h
    · simp [h]
    · rw [h]; simp
  exact ⟨e, by unfold cutN; rw [if_neg (by rw [e]; simp)], by unfold cutR; rw [if_neg (by rw [e]; simp)]⟩

/-- The number of four digits, or -1. -/
def digI (t : ByteArray) : Int := match dg t 4 with
  | some n => n
  | none => -1

theorem digI_some {t : ByteArray} {n : Nat} (h : dg t 4 = some n) : digI t = n := by unfold digI; rw [h]
theorem digI_none {t : ByteArray} (h : dg t 4 = none) : digI t = -1 := by unfold digI; rw [h]

theorem cut_rest (s : ByteArray) (a : Nat) (h : a + 4 ≤ s.size) : dg (s.extract a s.size) 4 = dg (s.extract a (a + 4)) 4 :=
  dg_ext _ _ 4 fun j hj => by rw [getD_extract s a s.size j (by omega) (Nat.le_refl _), getD_extract s a (a + 4) j (by omega) h]

theorem ext_size (s : ByteArray) (a b : Nat) (h : b ≤ s.size) : (s.extract a b).size = b - a := by rw [ByteArray.size_extract]; omega

theorem ext_ext (s : ByteArray) (a b : Nat) : (s.extract a s.size).extract b (s.extract a s.size).size = s.extract (a + b) s.size := by
  rw [ByteArray.extract_extract, ByteArray.size_extract]
  by_cases h : a ≤ s.size
  · congr 1
    omega
  · apply ByteArray.ext
    rw [ByteArray.data_extract, ByteArray.data_extract, Array.extract_empty_of_size_le_start (by show s.size ≤ _; omega), Array.extract_empty_of_size_le_start (by show s.size ≤ _; omega)]

theorem ext_in (s : ByteArray) (a b c : Nat) (h : a + c ≤ s.size) : (s.extract a s.size).extract b c = s.extract (a + b) (a + c) := by
  rw [ByteArray.extract_extract]
  congr 1
  omega

def hd5 : ByteArray := ⟨#[35, 85, 84, 48, 49]⟩

theorem take5 (s : ByteArray) (h : 5 ≤ s.size) : (s.extract 0 5).data.toList = s.data.toList.take 5 := by
  rw [ByteArray.data_extract, Array.toList_extract, List.extract_eq_take_drop]
  rfl

/-- A text that begins as a frame does. -/
theorem prefix_yes (s : ByteArray) (h : 5 ≤ s.size) (he : s.extract 0 5 = hd5) : Lib.hasPrefix s.data.toList hd5.data.toList = true ∧ (⟨(Lib.trimPrefix s.data.toList hd5.data.toList).toArray⟩ : ByteArray) = s.extract 5 s.size := by
  have e : s.data.toList.take 5 = hd5.data.toList := by rw [← take5 s h, he]
  have hp : Lib.hasPrefix s.data.toList hd5.data.toList = true := by
    unfold Lib.hasPrefix
    rw [List.isPrefixOf_iff_prefix, ← e]
    exact List.take_prefix 5 _
  refine ⟨hp, ?_⟩
  unfold Lib.trimPrefix
  rw [if_pos hp]
  apply ByteArray.ext
  apply Array.toList_inj.1
  rw [ByteArray.data_extract, Array.toList_extract, List.extract_eq_take_drop, List.take_of_length_le (by rw [List.length_drop, Array.length_toList]; show s.size - 5 ≤ s.size - 5; omega)]
  rfl

theorem prefix_no (s : ByteArray) (h : ¬ 5 ≤ s.size ∨ s.extract 0 5 ≠ hd5) : Lib.hasPrefix s.data.toList hd5.data.toList = false := by
  apply Bool.eq_false_iff.2
  intro hp
  unfold Lib.hasPrefix at hp
  rw [List.isPrefixOf_iff_prefix] at hp
  have hl := hp.length_le
  have h5 : 5 ≤ s.size := by rw [Array.length_toList] at hl; exact hl
  rcases h with h | h
  · exact h h5
  · apply h
    apply ByteArray.ext
    apply Array.toList_inj.1
    rw [take5 s h5]
    exact (List.prefix_iff_eq_take.1 hp).symm

/-- What is told of a frame. -/
def Bad1 (s : ByteArray) : Prop := ¬ 5 ≤ s.size ∨ s.extract 0 5 ≠ hd5
def Bad2 (s : ByteArray) : Prop := s.size < 17 ∨ dg (s.extract 5 9) 4 = none
def Bad3 (s : ByteArray) : Prop := s.size < 21 ∨ dg (s.extract 17 21) 4 ≠ some (s.size - 21)
def Bad4 (s : ByteArray) : Prop := unpC (s.extract 21 s.size) ≠ 0

end Fr
end Go.Proofs.YtcifgableeeooalDoor

/- A record with a byte changed is none: the mathematics. -/
import Derived.Test.YtdfejmaekdgcdaeLgRun2
namespace Go.Proofs.Ytdfejmaekdgcdae
namespace Lg10
open Go.ChangeShapes Go.WideShapes Go.ChangeAt Go.RowKit
set_option linter.unusedSimpArgs false
set_option linter.unusedVariables false

abbrev bl (s : ByteArray) : List UInt8 := s.data.toList

theorem bl_ext {a b : ByteArray} (h : bl a = bl b) : a = b := Go.WideShapes.bytes_inj h

theorem bl_length (s : ByteArray) : (bl s).length = s.size := Array.length_toList

theorem bl_extract (s : ByteArray) (f i : Nat) : bl (s.extract f i) = ((bl s).take i).drop f := by
  unfold bl
  rw [ByteArray.data_extract, Array.toList_extract, List.extract_eq_take_drop, List.drop_take]

/-- A part of a text with a byte changed. -/
theorem set_part {m b : ByteArray} {i : Nat} {v : UInt8} (h : bl b = (bl m).set i v) (x y : Nat) : bl (b.extract x y) = if x ≤ i ∧ i < y then (bl (m.extract x y)).set (i - x) v else bl (m.extract x y) := by
  rw [bl_extract, bl_extract, h, List.take_set, List.drop_set]
  by_cases h1 : i < x
  · rw [if_pos h1, if_neg (by omega)]
  · rw [if_neg h1]
    by_cases h2 : i < y
    · rw [if_pos ⟨by omega, h2⟩]
    · rw [if_neg (by omega)]
      apply List.set_eq_of_length_le
      rw [List.length_drop, List.length_take]
      omega

theorem wordS_inj {a b : Nat} (ha : a < 4294967296) (hb : b < 4294967296) (h : Num.wordS a = Num.wordS b) : a = b := by
  rw [← word_part a ha, h, word_part b hb]

theorem spoilt_recs {l s b : ByteArray} {i : Nat} {v : UInt8} (h : l.size ≤ 200000) (hs : s.size ≤ 3000) (hm : (more l s).size ≤ 200000) (h1 : rsE l + 4 ≤ i) (h2 : i < (more l s).size) (hb : bl b = (bl (more l s)).set i v) (hv : v ≠ (bl (more l s))[i]'(by rw [bl_length]; exact h2)) : rsL b = rsL l ∧ rsE b = rsE l := by
  have hz := more_size (s := s) h
  have hbz : b.size = (more l s).size := by rw [← bl_length, hb, List.length_set, bl_length]
  have hsame : ∀ x y, (y ≤ i ∨ i < x) → (more l s).extract x y = b.extract x y := fun x y hxy => bl_ext (by rw [set_part hb x y, if_neg (by omega)])
  have A : Agree (more l s) b (rsE l) := ⟨by omega, by omega, fun x y hy => hsame x y (Or.inl (by omega))⟩
  refine recs_of (by omega) (run_agree A _ _ _ (more_run h) (Nat.le_refl _)) ?_
  cases hr : recB b (rsE l)
  · rfl
  exfalso
  obtain ⟨r1, r2, r3, r4⟩ := recB_parts hr
  have e1 : txN b (rsE l) = s.size := by
    unfold txN
    rw [← hsame _ _ (Or.inl (by omega))]
    have := more_at (s := s) h 0 4
    rw [Nat.add_zero] at this
    rw [this, rec_len, word_part _ (by omega)]
  have m1 : (more l s).extract (rsE l + 4) (rsE l + 8) = Num.wordS (Math.crc s.data.toList) := by rw [more_at h 4 8, rec_sum]
  have m2 : (more l s).extract (rsE l + 8) (rsE l + 8 + s.size) = s := by
    have := more_at (s := s) h 8 (8 + s.size)
    rw [Nat.add_assoc, this, rec_text]
  by_cases h8 : i < rsE l + 8
  · have t1 : txS b (rsE l) = s := by
      unfold txS
      rw [e1, ← hsame _ _ (Or.inr h8), m2]
    rw [t1] at r4
    have h5 := set_part hb (rsE l + 4) (rsE l + 8)
    rw [if_pos ⟨h1, h8⟩, r4, m1] at h5
    have hl : (bl (Num.wordS (Math.crc s.data.toList))).length = 4 := rfl
    have h6 : (bl (Num.wordS (Math.crc s.data.toList)))[i - (rsE l + 4)]'(by omega) = v := by
      have h7 : (bl (Num.wordS (Math.crc s.data.toList)))[i - (rsE l + 4)]? = some v := by
        rw [h5, List.getElem?_set_self (by omega)]
      rw [List.getElem?_eq_getElem (by omega)] at h7
      exact Option.some.inj h7
    apply hv
    rw [← h6]
    have h9 : bl ((more l s).extract (rsE l + 4) (rsE l + 8)) = bl (Num.wordS (Math.crc s.data.toList)) := by rw [m1]
    rw [bl_extract] at h9
    have h10 : (((bl (more l s)).take (rsE l + 8)).drop (rsE l + 4))[i - (rsE l + 4)]? = some ((bl (more l s))[i]'(by rw [bl_length]; exact h2)) := by
      rw [List.getElem?_drop, show rsE l + 4 + (i - (rsE l + 4)) = i from by omega, List.getElem?_take_of_lt h8, List.getElem?_eq_getElem]
    rw [h9, List.getElem?_eq_getElem (by omega)] at h10
    exact Option.some.inj h10
  · have s1 : b.extract (rsE l + 4) (rsE l + 8) = Num.wordS (Math.crc s.data.toList) := by rw [← hsame _ _ (Or.inl (by omega)), m1]
    have t1 : bl (txS b (rsE l)) = (bl s).set (i - (rsE l + 8)) v := by
      unfold txS
      rw [e1, set_part hb _ _, if_pos ⟨by omega, by omega⟩, m2]
    have hi : i - (rsE l + 8) < (bl s).length := by rw [bl_length]; omega
    have hne : v ≠ (bl s)[i - (rsE l + 8)] := by
      intro e
      apply hv
      rw [e]
      have h9 : bl ((more l s).extract (rsE l + 8) (rsE l + 8 + s.size)) = bl s := by rw [m2]
      rw [bl_extract] at h9
      have h10 : (((bl (more l s)).take (rsE l + 8 + s.size)).drop (rsE l + 8))[i - (rsE l + 8)]? = some ((bl (more l s))[i]'(by rw [bl_length]; exact h2)) := by
        rw [List.getElem?_drop, show rsE l + 8 + (i - (rsE l + 8)) = i from by omega, List.getElem?_take_of_lt (by omega), List.getElem?_eq_getElem]
      rw [h9, List.getElem?_eq_getElem hi] at h10
      exact Option.some.inj h10
    rw [s1] at r4
    have h11 := wordS_inj (Math.crc_lt _) (Math.crc_lt _) r4
    rw [show (txS b (rsE l)).data.toList = (bl s).set (i - (rsE l + 8)) v from t1] at h11
    exact Math.crc_set (bl s) _ hi v hne h11.symm

end Lg10
end Go.Proofs.Ytdfejmaekdgcdae

/- The mathematics of chapter 3: a packed text with something behind it is none; what is unpacked has its bound. -/
import Derived.Test.YtcifgableeeooabDoorMathUnk
namespace Go.Proofs.YtcifgableeeooabDoor
namespace Math

theorem sym_left (v b : ByteArray) (a : Nat) (h : ¬ 8 * v.size < a + symLen v a) : symLen (v ++ b) a = symLen v a ∧ symAt (v ++ b) a = symAt v a := by
  have h7 := (symLen_bd v a).1
  have t7 := topAt_left v b a 7 (by omega)
  by_cases c7 : topAt v a 7 < 24
  · unfold symLen symAt
    rw [t7, if_pos c7, if_pos c7, if_pos c7, if_pos c7]
    exact ⟨rfl, rfl⟩
  · by_cases c8 : topAt v a 8 < 200
    · have e : symLen v a = 8 := by unfold symLen; rw [if_neg c7, if_pos c8]
      have t8 := topAt_left v b a 8 (by omega)
      refine ⟨by rw [e]; unfold symLen; rw [t7, t8, if_neg c7, if_pos c8], ?_⟩
      unfold symAt
      rw [t7, t8, if_neg c7, if_neg c7]
      by_cases c9 : topAt v a 8 < 192
      · rw [if_pos c9, if_pos c9]
      · rw [if_neg c9, if_neg c9, if_pos c8, if_pos c8]
    · have e : symLen v a = 9 := by unfold symLen; rw [if_neg c7, if_neg c8]
      have t8 := topAt_left v b a 8 (by omega)
      have t9 := topAt_left v b a 9 (by omega)
      refine ⟨by rw [e]; unfold symLen; rw [t7, t8, if_neg c7, if_neg c8], ?_⟩
      unfold symAt
      rw [t7, t8, t9]

/-- A fixed block that ends well in a text ends so with something behind it. -/
theorem fix_left (v b : ByteArray) (f : Nat) : ∀ (a : Nat) (out o : List UInt8) (z : Nat), out.length ≤ 3000 → fixFrom v f a out = (0, o, z) →
    z ≤ 8 * v.size ∧ o.length ≤ 3000 ∧ ∀ k, fixFrom (v ++ b) (f + k) a out = (0, o, z) := by
  induction f with
  | zero => intro a out o z _ h; rw [fixFrom] at h; simp at h
  | succ f ih =>
    intro a out o z hout h
    have hsz : (v ++ b).size = v.size + b.size := ByteArray.size_append
    by_cases h1 : 8 * v.size < a + symLen v a
    · rw [fix_cut h1] at h; simp at h
    obtain ⟨e1, e2⟩ := sym_left v b a h1
    have h1' : ¬ 8 * (v ++ b).size < a + symLen (v ++ b) a := by rw [e1, hsz]; omega
    by_cases h2 : symAt v a = 256
    · rw [fix_end h1 h2] at h
      simp only [Prod.mk.injEq, true_and] at h
      obtain ⟨rfl, rfl⟩ := h
      refine ⟨by omega, hout, fun k => ?_⟩
      rw [show f + 1 + k = (f + k) + 1 by omega, fix_end h1' (by rw [e2]; exact h2), e1]
    by_cases h3 : symAt v a < 256
    · by_cases h4 : 3000 < out.length + 1
      · rw [fix_full h1 h3 h4] at h; simp at h
      · rw [fix_byte h1 h3 h4] at h
        obtain ⟨g1, g2, g3⟩ := ih _ _ _ _ (by rw [List.length_append, List.length_singleton]; omega) h
        refine ⟨g1, g2, fun k => ?_⟩
        rw [show f + 1 + k = (f + k) + 1 by omega, fix_byte h1' (by rw [e2]; exact h3) h4, e1, e2]
        exact g3 k
    by_cases h4 : 285 < symAt v a
    · rw [fix_sym h1 h4] at h; simp at h
    by_cases h5 : 8 * v.size < p1 v a + 5
    · rw [fix_cut2 h1 (by omega) (by omega) h5] at h; simp at h
    have q1 : p1 (v ++ b) a = p1 v a := by unfold p1; rw [e1, e2]
    have q2 : bk (v ++ b) a = bk v a := by unfold bk; rw [q1]; exact topAt_left v b _ 5 (by omega)
    by_cases h6 : 29 < bk v a
    · rw [fix_sym2 h1 (by omega) (by omega) h5 h6] at h; simp at h
    have q3 : p2' (v ++ b) a = p2' v a := by unfold p2'; rw [q1, q2]
    by_cases h7 : 8 * v.size < p2' v a
    · rw [fix_cut3 h1 (by omega) (by omega) h5 h6 h7] at h; simp at h
    have h7' : p1 v a + 5 + cbits 2 (bk v a) ≤ 8 * v.size := by unfold p2' at h7; omega
    have q4 : dd (v ++ b) a = dd v a := by unfold dd backTold; rw [q1, q2, lowAt_left v b _ _ (by omega)]
    have h5' : a + symLen v a + lenBits (symAt v a) ≤ 8 * v.size := by unfold p1 at h5; omega
    have q5 : nn (v ++ b) a = nn v a := by rw [nn_is, nn_is, e1, e2, lowAt_left v b _ _ (by omega)]
    by_cases h8 : out.length < dd v a
    · rw [fix_back h1 (by omega) (by omega) h5 h6 h7 h8] at h; simp at h
    by_cases h9 : 3000 < out.length + nn v a
    · rw [fix_long h1 (by omega) (by omega) h5 h6 h7 h8 h9] at h; simp at h
    rw [fix_copy h1 (by omega) (by omega) h5 h6 h7 h8 h9] at h
    obtain ⟨g1, g2, g3⟩ := ih _ _ _ _ (by rw [copyN_length]; omega) h
    refine ⟨g1, g2, fun k => ?_⟩
    rw [show f + 1 + k = (f + k) + 1 by omega, fix_copy h1' (by omega) (by omega) (by rw [q1, hsz]; omega) (by rw [q2]; exact h6) (by rw [q3, hsz]; omega) (by rw [q4]; exact h8) (by rw [q5]; exact h9), q3, q4, q5]
    exact g3 k

theorem rst_left (v b : ByteArray) (hb : 1 ≤ b.size) (n : Nat) : ∀ a, a ≤ 8 * v.size → rst v n a = 0 → rst (v ++ b) n a = 6 := by
  have hsz : (v ++ b).size = v.size + b.size := ByteArray.size_append
  induction n with
  | zero => intro a h1 h2; rw [rst, if_pos (by omega)]
  | succ n ih =>
    intro a h1 h2
    rw [rst] at h2 ⊢
    by_cases e : a % 8 = 0
    · rw [if_pos e, if_pos (by omega)]
    · rw [if_neg e] at h2 ⊢
      rw [bitAt_left v b a (by omega)]
      by_cases e2 : bitAt v a = 1
      · rw [if_pos e2] at h2; omega
      · rw [if_neg e2] at h2 ⊢
        exact ih (a + 1) (by omega) h2

/-- What is known of a text that is unpacked. -/
theorem unp_is (v : ByteArray) (h : unpC v = 0) : ¬ 6000 < v.size ∧ 1 ≤ v.size ∧ ¬ (bitAt v 0 = 0 ∨ 1 < lowAt v 1 2) ∧ (body v).1 = 0 ∧ rst v 8 (body v).2.2 = 0 := by
  unfold unpC at h
  by_cases h1 : 6000 < v.size
  · rw [if_pos h1] at h; omega
  rw [if_neg h1] at h
  by_cases h2 : v.size = 0
  · rw [if_pos h2] at h; omega
  rw [if_neg h2] at h
  by_cases h3 : bitAt v 0 = 0 ∨ 1 < lowAt v 1 2
  · rw [if_pos h3] at h; omega
  rw [if_neg h3] at h
  by_cases h4 : (body v).1 ≠ 0
  · rw [if_pos h4] at h; omega
  rw [if_neg h4] at h
  exact ⟨h1, by omega, h3, by omega, h⟩

theorem stored_ok (v : ByteArray) (h : storedC v = 0) : 5 ≤ v.size ∧ lowAt v 8 16 + lowAt v 24 16 = 65535 ∧ lowAt v 8 16 ≤ 3000 ∧ lowAt v 8 16 + 5 ≤ v.size := by
  unfold storedC at h
  by_cases h1 : v.size < 5
  · rw [if_pos h1] at h; omega
  rw [if_neg h1] at h
  by_cases h2 : lowAt v 8 16 + lowAt v 24 16 ≠ 65535
  · rw [if_pos h2] at h; omega
  rw [if_neg h2] at h
  by_cases h3 : 3000 < lowAt v 8 16
  · rw [if_pos h3] at h; omega
  rw [if_neg h3] at h
  by_cases h4 : v.size < lowAt v 8 16 + 5
  · rw [if_pos h4] at h; omega
  omega

/-- A text that is unpacked, with something behind it. -/
theorem unp_more (v b : ByteArray) (h : unpC v = 0) (hb : 1 ≤ b.size) (hz : v.size + b.size ≤ 6000) : unpC (v ++ b) = 6 := by
  have hsz : (v ++ b).size = v.size + b.size := ByteArray.size_append
  obtain ⟨h1, h2, h3, h4, h5⟩ := unp_is v h
  have k0 : bitAt (v ++ b) 0 = bitAt v 0 := bitAt_left v b 0 (by omega)
  have k1 : lowAt (v ++ b) 1 2 = lowAt v 1 2 := lowAt_left v b 1 2 (by omega)
  have key : ∃ o z, body v = (0, o, z) ∧ z ≤ 8 * v.size ∧ ∃ o', body (v ++ b) = (0, o', z) := by
    by_cases hk : lowAt v 1 2 = 1
    · have e : body v = fixFrom v (8 * v.size + 1) 3 [] := by unfold body; rw [if_pos hk]
      obtain ⟨o, z, ho⟩ : ∃ o z, body v = (0, o, z) := ⟨(body v).2.1, (body v).2.2, by rw [← h4]⟩
      have hf := ho
      rw [e] at hf
      obtain ⟨g1, g2, g3⟩ := fix_left v b _ _ _ _ _ (by simp) hf
      refine ⟨o, z, ho, g1, o, ?_⟩
      unfold body
      rw [if_pos (by rw [k1]; exact hk), hsz, show 8 * (v.size + b.size) + 1 = 8 * v.size + 1 + 8 * b.size by omega]
      exact g3 _
    · have e : body v = (storedC v, (storedT v).data.toList, 40 + 8 * lowAt v 8 16) := by unfold body; rw [if_neg hk]
      have hc : storedC v = 0 := by rw [e] at h4; exact h4
      obtain ⟨s1, s2, s3, s4⟩ := stored_ok v hc
      have l1 := lowAt_left v b 8 16 (by omega)
      have l2 := lowAt_left v b 24 16 (by omega)
      have hc' : storedC (v ++ b) = 0 := by
        unfold storedC
        rw [hsz, l1, l2, if_neg (by omega), if_neg (by omega), if_neg (by omega), if_neg (by omega)]
      refine ⟨(storedT v).data.toList, 40 + 8 * lowAt v 8 16, by rw [e, hc], by omega, (storedT (v ++ b)).data.toList, ?_⟩
      unfold body
      rw [if_neg (by rw [k1]; exact hk), hc', l1]
  obtain ⟨o, z, e1, e2, o', e3⟩ := key
  rw [e1] at h5
  have hr := rst_left v b hb 8 z e2 h5
  unfold unpC
  rw [if_neg (by omega), if_neg (by omega), k0, k1, if_neg h3, e3]
  show (if (0 : Nat) ≠ 0 then 0 else rst (v ++ b) 8 z) = 6
  rw [if_neg (by omega)]
  exact hr

/-- A text that is unpacked, cut off. -/
theorem unp_cut (u : ByteArray) (h : unpC u = 0) (k : Nat) (hk : k < u.size) : unpC (u.extract 0 k) ≠ 0 := by
  intro h2
  have e : u = u.extract 0 k ++ u.extract k u.size := by
    rw [ByteArray.extract_append_extract]
    rw [Nat.min_eq_left (by omega), Nat.max_eq_right (by omega), ByteArray.extract_zero_size]
  have h6 := (unp_is u h).1
  have z1 : (u.extract 0 k).size = k := by rw [ByteArray.size_extract]; omega
  have z2 : (u.extract k u.size).size = u.size - k := by rw [ByteArray.size_extract]; omega
  have := unp_more _ (u.extract k u.size) h2 (by omega) (by omega)
  rw [← e] at this
  omega

/-- The bound of what is unpacked. -/
theorem unp_bound (u : ByteArray) : (unpT u).size ≤ 3000 := by
  by_cases h : unpC u = 0
  · obtain ⟨-, -, -, h4, -⟩ := unp_is u h
    rw [unpT_yes h]
    show (body u).2.1.toArray.size ≤ 3000
    rw [List.size_toArray]
    by_cases hk : lowAt u 1 2 = 1
    · have e : body u = fixFrom u (8 * u.size + 1) 3 [] := by unfold body; rw [if_pos hk]
      have ho : fixFrom u (8 * u.size + 1) 3 [] = (0, (body u).2.1, (body u).2.2) := by rw [← e, ← h4]
      exact (fix_left u ⟨#[]⟩ _ _ _ _ _ (by simp) ho).2.1
    · have e : body u = (storedC u, (storedT u).data.toList, 40 + 8 * lowAt u 8 16) := by unfold body; rw [if_neg hk]
      have hc : storedC u = 0 := by rw [e] at h4; exact h4
      obtain ⟨s1, s2, s3, s4⟩ := stored_ok u hc
      rw [e]
      show (storedT u).data.toList.length ≤ 3000
      unfold storedT
      rw [if_pos hc, Array.length_toList]
      show (u.extract 5 (5 + lowAt u 8 16)).size ≤ 3000
      rw [ByteArray.size_extract]
      omega
  · rw [unpT_no h]
    exact Nat.zero_le _

end Math
end Go.Proofs.YtcifgableeeooabDoor

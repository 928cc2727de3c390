/- What the program's longest finds: the pure part. -/
import Derived.Test.YtcifgableeeooabDoorPkLearn
namespace Go.Proofs.YtcifgableeeooabDoor
namespace Pk
open Math (run runFrom best far)
set_option linter.unusedSimpArgs false
set_option linter.unusedVariables false

/-- The longest run of three bytes or more among the ways back up to k, and the nearest way back that has it. -/
def bestW (s : ByteArray) (i : Nat) : Nat → Nat × Nat
  | 0 => (0, 0)
  | k + 1 => if 3 ≤ run s (i - (k + 1)) i ∧ (bestW s i k).1 < run s (i - (k + 1)) i then (run s (i - (k + 1)) i, k + 1) else bestW s i k

theorem bestW_is (s : ByteArray) (i k : Nat) : bestW s i k = if 3 ≤ (best s i k).1 then best s i k else (0, 0) := by
  induction k with
  | zero => simp [bestW, best]
  | succ k ih =>
    unfold bestW best
    rw [ih]
    generalize run s (i - (k + 1)) i = r
    generalize best s i k = b
    by_cases h1 : 3 ≤ b.1
    · rw [if_pos h1]
      by_cases h2 : b.1 < r
      · rw [if_pos ⟨by omega, h2⟩, if_pos h2, if_pos (show 3 ≤ r by omega)]
      · rw [if_neg (by intro h; exact h2 h.2), if_neg h2, if_pos h1]
    · rw [if_neg h1]
      by_cases h2 : b.1 < r
      · rw [if_pos h2]
        by_cases h3 : 3 ≤ r
        · rw [if_pos ⟨h3, by show 0 < r; omega⟩, if_pos h3]
        · rw [if_neg (by intro h; exact h3 h.1), if_neg h3]
      · rw [if_neg h2, if_neg (by intro h; have := h.1; omega), if_neg h1]

theorem bestW_gap (s : ByteArray) (i a b : Nat) (hab : a ≤ b) (h : ∀ d, a < d → d ≤ b → run s (i - d) i < 3) : bestW s i b = bestW s i a := by
  induction b with
  | zero => rw [show a = 0 by omega]
  | succ b ih =>
    by_cases e : a = b + 1
    · rw [e]
    · have h1 := h (b + 1) (by omega) (Nat.le_refl _)
      rw [bestW, if_neg (by intro h2; omega), ih (by omega) (fun d hd1 hd2 => h d hd1 (by omega))]

/-- What longest answers: the length and the way back. -/
def longV (s : ByteArray) (i : Nat) : Nat × Nat := bestW s i (far i)

theorem longV_piece (s : ByteArray) (i : Nat) : (3 ≤ (longV s i).1 → Math.pieceAt s i = ⟨0, (longV s i).1, (longV s i).2⟩ ∧ Math.stepAt s i = (longV s i).1) ∧ (¬ 3 ≤ (longV s i).1 → longV s i = (0, 0) ∧ Math.pieceAt s i = ⟨((s.data.toList.getD i 0).toNat : Int), 0, 0⟩ ∧ Math.stepAt s i = 1) := by
  unfold longV Math.pieceAt Math.stepAt
  rw [bestW_is]
  by_cases h : 3 ≤ (best s i (far i)).1
  · rw [if_pos h]
    exact ⟨fun _ => by rw [if_pos h, if_pos h]; exact ⟨rfl, rfl⟩, fun h2 => absurd h h2⟩
  · rw [if_neg h]
    exact ⟨fun h2 => by have : 3 ≤ 0 := h2; omega, fun _ => by rw [if_neg h, if_neg h]; exact ⟨rfl, rfl, rfl⟩⟩

theorem getD_at (s : ByteArray) (j : Nat) (hj : j < s.size) : s[j]? = some (s.data.toList.getD j 0) := by
  rw [getElem?_pos s j hj, List.getD_eq_getElem?_getD, Array.getElem?_toList, Array.getElem?_eq_getElem hj]
  rfl

/-- A run of three is the same three bytes. -/
theorem run_three (s : ByteArray) (e l : Nat) (hel : e < l) (hl : l + 3 ≤ s.size) : 3 ≤ run s e l ↔ keyAt s e = keyAt s l := by
  have q : ∀ n, n < 3 → (s[e + n]? = s[l + n]? ↔ s.data.toList.getD (e + n) 0 = s.data.toList.getD (l + n) 0) := by
    intro n hn
    rw [getD_at s (e + n) (by omega), getD_at s (l + n) (by omega), Option.some.injEq]
  have q0 := q 0 (by omega)
  have q1 := q 1 (by omega)
  have q2 := q 2 (by omega)
  unfold run keyAt
  constructor
  · intro h
    have s0 : s[e + 0]? = s[l + 0]? := by
      apply Classical.byContradiction
      intro hn
      have : runFrom s e l 258 0 = 0 := Math.runFrom_no s e l 0 (by intro g; exact hn g.2.2)
      omega
    have f0 : runFrom s e l 258 0 = runFrom s e l 257 1 := Math.runFrom_yes s e l 0 (by omega) (by omega) s0
    have s1 : s[e + 1]? = s[l + 1]? := by
      apply Classical.byContradiction
      intro hn
      have : runFrom s e l 257 1 = 1 := Math.runFrom_no s e l 1 (by intro g; exact hn g.2.2)
      omega
    have f1 : runFrom s e l 257 1 = runFrom s e l 256 2 := Math.runFrom_yes s e l 1 (by omega) (by omega) s1
    have s2 : s[e + 2]? = s[l + 2]? := by
      apply Classical.byContradiction
      intro hn
      have : runFrom s e l 256 2 = 2 := Math.runFrom_no s e l 2 (by intro g; exact hn g.2.2)
      omega
    rw [Prod.mk.injEq, Prod.mk.injEq]
    exact ⟨q0.1 s0, q1.1 s1, q2.1 s2⟩
  · intro h
    rw [Prod.mk.injEq, Prod.mk.injEq] at h
    have f0 : runFrom s e l 258 0 = runFrom s e l 257 1 := Math.runFrom_yes s e l 0 (by omega) (by omega) (q0.2 h.1)
    have f1 : runFrom s e l 257 1 = runFrom s e l 256 2 := Math.runFrom_yes s e l 1 (by omega) (by omega) (q1.2 h.2.1)
    have f2 : runFrom s e l 256 2 = runFrom s e l 255 3 := Math.runFrom_yes s e l 2 (by omega) (by omega) (q2.2 h.2.2)
    have g : ∀ f n, n ≤ runFrom s e l f n := by
      intro f
      induction f with
      | zero => intro n; exact Nat.le_refl _
      | succ f ih =>
        intro n
        unfold runFrom
        split
        · have := ih (n + 1); omega
        · exact Nat.le_refl _
    have := g 255 3
    omega

/-- Which places are known at a key. -/
theorem learnt_mem (s : ByteArray) (i : Nat) (k : Key) (p : Nat) : p ∈ learnt s i k ↔ p < i ∧ p + 3 ≤ s.size ∧ keyAt s p = k := by
  induction i with
  | zero => simp [learnt]
  | succ i ih =>
    unfold learnt
    by_cases h : i + 3 ≤ s.size
    · rw [if_pos h]
      by_cases e : k = keyAt s i
      · subst e
        rw [more_same, List.mem_append, List.mem_singleton, ih]
        constructor
        · rintro (⟨h1, h2, h3⟩ | rfl)
          · exact ⟨by omega, h2, h3⟩
          · exact ⟨by omega, h, rfl⟩
        · rintro ⟨h1, h2, h3⟩
          by_cases e2 : p = i
          · exact Or.inr e2
          · exact Or.inl ⟨by omega, h2, h3⟩
      · rw [more_other _ _ _ _ e, ih]
        constructor
        · rintro ⟨h1, h2, h3⟩
          exact ⟨by omega, h2, h3⟩
        · rintro ⟨h1, h2, h3⟩
          refine ⟨?_, h2, h3⟩
          by_cases e2 : p = i
          · subst e2; exact absurd h3.symm e
          · omega
    · rw [if_neg h, ih]
      constructor
      · rintro ⟨h1, h2, h3⟩
        exact ⟨by omega, h2, h3⟩
      · rintro ⟨h1, h2, h3⟩
        exact ⟨by omega, h2, h3⟩

theorem learnt_sorted (s : ByteArray) (i : Nat) (k : Key) : (learnt s i k).Pairwise (· < ·) := by
  induction i with
  | zero => simp [learnt]
  | succ i ih =>
    unfold learnt
    split
    · by_cases e : k = keyAt s i
      · subst e
        rw [more_same, List.pairwise_append]
        refine ⟨ih, by simp, ?_⟩
        intro a ha b hb
        rw [List.mem_singleton] at hb
        have := ((learnt_mem s i _ a).1 ha).1
        omega
      · rw [more_other _ _ _ _ e]
        exact ih
    · exact ih

theorem longV_short (s : ByteArray) (i : Nat) (hi : i ≤ s.size) (h : ¬ i + 3 ≤ s.size) : longV s i = (0, 0) := by
  unfold longV
  rw [bestW_gap s i 0 (far i) (Nat.zero_le _) (fun d _ _ => by have := Math.run_fits s (i - d) i hi; omega)]
  rfl

/-- The way back to the j-th place; nought behind the last. -/
def dAt (P : List Nat) (i j : Nat) : Nat := match P[j]? with | some p => i - p | none => 0

theorem dAt_some (P : List Nat) (i j p : Nat) (h : P[j]? = some p) : dAt P i j = i - p := by unfold dAt; rw [h]

theorem dAt_none (P : List Nat) (i j : Nat) (h : P[j]? = none) : dAt P i j = 0 := by unfold dAt; rw [h]

theorem sorted_lt {P : List Nat} (h : P.Pairwise (· < ·)) {a b x y : Nat} (ha : P[a]? = some x) (hb : P[b]? = some y) (hab : a < b) : x < y := by
  obtain ⟨ha1, ha2⟩ := List.getElem?_eq_some_iff.1 ha
  obtain ⟨hb1, hb2⟩ := List.getElem?_eq_some_iff.1 hb
  have := List.pairwise_iff_getElem.1 h a b ha1 hb1 hab
  rw [ha2, hb2] at this
  exact this

/-- Between two places that follow each other no run of three begins. -/
theorem gap (s : ByteArray) (i j D : Nat) (hi : i + 3 ≤ s.size) (hj : j ≤ (learnt s i (keyAt s i)).length) (hD1 : dAt (learnt s i (keyAt s i)) i j ≤ D) (hD2 : D ≤ i) (hp : ∀ m p, j = m + 1 → (learnt s i (keyAt s i))[m]? = some p → D < i - p) : bestW s i D = bestW s i (dAt (learnt s i (keyAt s i)) i j) := by
  have hsort := learnt_sorted s i (keyAt s i)
  have hmem := learnt_mem s i (keyAt s i)
  generalize hP : learnt s i (keyAt s i) = P at *
  refine bestW_gap s i _ D hD1 (fun d hd1 hd2 => ?_)
  apply Nat.lt_of_not_le
  intro h3
  have hd0 : 0 < d := by omega
  have hk := (run_three s (i - d) i (by omega) hi).1 h3
  have hin := (hmem (i - d)).2 ⟨by omega, by omega, hk⟩
  obtain ⟨m, hm⟩ := List.getElem?_of_mem hin
  by_cases hmj : j ≤ m
  · cases hx : P[j]? with
    | none =>
      have := List.getElem?_eq_none_iff.1 hx
      have := (List.getElem?_eq_some_iff.1 hm).1
      omega
    | some x =>
      rw [dAt_some P i j x hx] at hd1
      have hxm := (hmem x).1 (List.mem_of_getElem? hx)
      by_cases e : j = m
      · subst e
        rw [hx] at hm
        have := Option.some.inj hm
        omega
      · have := sorted_lt hsort hx hm (by omega)
        omega
  · obtain ⟨q, rfl⟩ : ∃ q, j = q + 1 := ⟨j - 1, by omega⟩
    have hq : q < P.length := by omega
    have hpq := hp q P[q] rfl (List.getElem?_eq_getElem hq)
    have hxm := (hmem P[q]).1 (List.getElem_mem hq)
    by_cases e : m = q
    · subst e
      rw [List.getElem?_eq_getElem hq] at hm
      have := Option.some.inj hm
      omega
    · have := sorted_lt hsort hm (List.getElem?_eq_getElem hq) (by omega)
      omega

theorem dAt_lt (s : ByteArray) (i j p : Nat) (hp : (learnt s i (keyAt s i))[j]? = some p) : dAt (learnt s i (keyAt s i)) i (j + 1) < i - p := by
  have hpm := (learnt_mem s i (keyAt s i) p).1 (List.mem_of_getElem? hp)
  cases hx : (learnt s i (keyAt s i))[j + 1]? with
  | none => rw [dAt_none _ _ _ hx]; omega
  | some x =>
    rw [dAt_some _ _ _ x hx]
    have hxm := (learnt_mem s i (keyAt s i) x).1 (List.mem_of_getElem? hx)
    have := sorted_lt (learnt_sorted s i (keyAt s i)) hp hx (by omega)
    omega

/-- One place more. -/
theorem long_step (s : ByteArray) (i j p : Nat) (hi : i + 3 ≤ s.size) (hp : (learnt s i (keyAt s i))[j]? = some p) :
    bestW s i (i - p) = if (bestW s i (dAt (learnt s i (keyAt s i)) i (j + 1))).1 < run s p i then (run s p i, i - p) else bestW s i (dAt (learnt s i (keyAt s i)) i (j + 1)) := by
  have hpm := (learnt_mem s i (keyAt s i) p).1 (List.mem_of_getElem? hp)
  have hlt := dAt_lt s i j p hp
  have hjl := (List.getElem?_eq_some_iff.1 hp).1
  have hg := gap s i (j + 1) (i - p - 1) hi (by omega) (by omega) (by omega) (by
    intro m q hm hq
    obtain rfl : j = m := by omega
    rw [hp] at hq
    have := Option.some.inj hq
    omega)
  have hr : 3 ≤ run s p i := (run_three s p i (by omega) hi).2 hpm.2.2
  obtain ⟨k, hk⟩ : ∃ k, i - p = k + 1 := ⟨i - p - 1, by omega⟩
  have hpk : i - (k + 1) = p := by omega
  rw [hk, show k + 1 - 1 = k by omega] at hg
  rw [hk, bestW, hpk, hg]
  by_cases h : (bestW s i (dAt (learnt s i (keyAt s i)) i (j + 1))).1 < run s p i
  · rw [if_pos ⟨hr, h⟩, if_pos h]
  · rw [if_neg (by intro g; exact h g.2), if_neg h]

/-- The end: no place is left, or the next is too far. -/
theorem long_end (s : ByteArray) (i j : Nat) (hi : i + 3 ≤ s.size) (hj : j ≤ (learnt s i (keyAt s i)).length) (hd : dAt (learnt s i (keyAt s i)) i j ≤ 1024) (hp : ∀ m p, j = m + 1 → (learnt s i (keyAt s i))[m]? = some p → 1024 < i - p) : longV s i = bestW s i (dAt (learnt s i (keyAt s i)) i j) := by
  have hdi : dAt (learnt s i (keyAt s i)) i j ≤ i := by
    unfold dAt
    split <;> omega
  exact gap s i j (far i) hi hj (by unfold far; omega) (by unfold far; omega) (fun m p h1 h2 => by have := hp m p h1 h2; unfold far; omega)

end Pk
end Go.Proofs.YtcifgableeeooabDoor

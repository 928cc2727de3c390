/- The mathematics of chapter 3: the pieces of a text make it up, and none of them could be longer. -/
import Derived.Test.YtcifgableeeooabDoorMathPieces
namespace Go.Proofs.YtcifgableeeooabDoor
namespace Math

theorem runFrom_same (s : ByteArray) (e l f n : Nat) (h : ∀ j, j < n → s[e + j]? = s[l + j]?) : ∀ j, j < runFrom s e l f n → s[e + j]? = s[l + j]? := by
  induction f generalizing n with
  | zero => exact h
  | succ f ih =>
    unfold runFrom
    split
    · rename_i h1
      refine ih (n + 1) fun j hj => ?_
      by_cases e : j = n
      · subst e; exact h1.2
      · exact h j (by omega)
    · exact h

theorem run_same (s : ByteArray) (e l j : Nat) (h : j < run s e l) : s[e + j]? = s[l + j]? := runFrom_same s e l 258 0 (fun j hj => by omega) j h

theorem runFrom_max (s : ByteArray) (e l f n : Nat) (h : runFrom s e l f n < n + f) : ¬ (l + runFrom s e l f n < s.size ∧ s[e + runFrom s e l f n]? = s[l + runFrom s e l f n]?) := by
  induction f generalizing n with
  | zero => unfold runFrom at h; omega
  | succ f ih =>
    by_cases h1 : l + n < s.size ∧ s[e + n]? = s[l + n]?
    · have e1 : runFrom s e l (f + 1) n = runFrom s e l f (n + 1) := by rw [runFrom, if_pos h1]
      rw [e1] at h ⊢
      exact ih (n + 1) (by omega)
    · have e1 : runFrom s e l (f + 1) n = n := by rw [runFrom, if_neg h1]
      rw [e1]
      exact h1

theorem run_max (s : ByteArray) (e l : Nat) (h : run s e l < 258) (h1 : l + run s e l < s.size) : s[e + run s e l]? ≠ s[l + run s e l]? := fun h2 => runFrom_max s e l 258 0 (by show run s e l < 0 + 258; omega) ⟨h1, h2⟩

theorem best_run (s : ByteArray) (i k : Nat) (h : 1 ≤ (best s i k).1) : (best s i k).1 = run s (i - (best s i k).2) i ∧ 1 ≤ (best s i k).2 := by
  induction k with
  | zero => simp [best] at h
  | succ k ih =>
    unfold best at h ⊢
    split
    · exact ⟨rfl, by simp⟩
    · rename_i h2
      rw [if_neg h2] at h
      exact ih h

/-- Where the piece k begins. -/
def posAt (s : ByteArray) : Nat → Nat
  | 0 => 0
  | k + 1 => posAt s k + stepAt s (posAt s k)

theorem pos_inv (s : ByteArray) (hs : s.size ≤ 3000) (k : Nat) (hk : k ≤ (pieces s).length) : (pieces s).drop k = pcsFrom s (s.size - k) (posAt s k) ∧ k ≤ posAt s k ∧ posAt s k ≤ s.size := by
  have e0 : pieces s = pcsFrom s s.size 0 := if_pos hs
  induction k with
  | zero => exact ⟨by rw [e0]; rfl, Nat.le_refl _, Nat.zero_le _⟩
  | succ k ih =>
    obtain ⟨h1, h2, h3⟩ := ih (by omega)
    have hlt : posAt s k < s.size := by
      apply Classical.byContradiction
      intro hn
      rw [pcsFrom_end s _ _ hn] at h1
      have := congrArg List.length h1
      rw [List.length_drop] at this
      simp at this
      omega
    rw [pcsFrom_step s k (posAt s k) hlt h2] at h1
    have hst := stepAt_pos s (posAt s k)
    refine ⟨?_, by unfold posAt; omega, by unfold posAt; exact stepAt_fits s _ hlt⟩
    have h4 := congrArg List.tail h1
    rw [List.tail_drop] at h4
    exact h4

theorem pos_at (s : ByteArray) (hs : s.size ≤ 3000) (k : Nat) (hk : k < (pieces s).length) : (pieces s)[k] = pieceAt s (posAt s k) ∧ posAt s k < s.size := by
  obtain ⟨h1, h2, h3⟩ := pos_inv s hs k (by omega)
  have hlt : posAt s k < s.size := by
    apply Classical.byContradiction
    intro hn
    rw [pcsFrom_end s _ _ hn] at h1
    have := congrArg List.length h1
    rw [List.length_drop] at this
    simp at this
    omega
  rw [pcsFrom_step s k (posAt s k) hlt h2, List.drop_eq_getElem_cons hk] at h1
  exact ⟨(List.cons.inj h1).1, hlt⟩

theorem pos_end (s : ByteArray) (hs : s.size ≤ 3000) : posAt s (pieces s).length = s.size := by
  obtain ⟨h1, h2, h3⟩ := pos_inv s hs _ (Nat.le_refl _)
  apply Classical.byContradiction
  intro hn
  rw [List.drop_length, pcsFrom_step s _ _ (by omega) h2] at h1
  cases h1

theorem pieces_le (s : ByteArray) (hs : s.size ≤ 3000) : (pieces s).length ≤ s.size := by
  have h := pos_inv s hs _ (Nat.le_refl _)
  omega

theorem getD_byte (s : ByteArray) (i : Nat) : s[i]? = s.data.toList[i]? := by
  by_cases h : i < s.size
  · rw [getElem?_pos s i h]
    have h1 : i < s.data.toList.length := by rw [Array.length_toList]; exact h
    rw [List.getElem?_eq_getElem h1]
    rfl
  · rw [getElem?_neg s i h, List.getElem?_eq_none (by rw [Array.length_toList]; exact Nat.le_of_not_lt h)]

theorem copy_take (s : ByteArray) (i d n : Nat) (hd : 1 ≤ d) (hdi : d ≤ i) (hn : i + n ≤ s.size) (h : ∀ j, j < n → s[i - d + j]? = s[i + j]?) (m : Nat) (hm : m ≤ n) :
    copyN (s.data.toList.take i) d m = s.data.toList.take (i + m) := by
  have hl : s.data.toList.length = s.size := Array.length_toList
  induction m with
  | zero => rfl
  | succ m ih =>
    rw [copyN, ih (by omega)]
    have hlen : (s.data.toList.take (i + m)).length = i + m := by rw [List.length_take]; omega
    have hmi : i + m < s.data.toList.length := by omega
    rw [hlen, show i + (m + 1) = i + m + 1 by omega, List.take_add_one, List.getElem?_eq_getElem hmi]
    congr 1
    have h2 := h m (by omega)
    rw [getD_byte, getD_byte, List.getElem?_eq_getElem hmi] at h2
    rw [List.getD_eq_getElem?_getD, List.getElem?_take, if_pos (by omega), show i + m - d = i - d + m by omega, h2]
    rfl

/-- The piece at a place. -/
theorem piece_cases (s : ByteArray) (i : Nat) (hi : i < s.size) :
    (∃ n d : Nat, pieceAt s i = ⟨0, n, d⟩ ∧ stepAt s i = n ∧ 3 ≤ n ∧ n ≤ 258 ∧ 1 ≤ d ∧ d ≤ i ∧ d ≤ 1024 ∧ i + n ≤ s.size ∧ (∀ j, j < n → s[i - d + j]? = s[i + j]?) ∧ (n < 258 → i + n < s.size → s[i - d + n]? ≠ s[i + n]?)) ∨
    (pieceAt s i = ⟨(s[i].toNat : Int), 0, 0⟩ ∧ stepAt s i = 1) := by
  by_cases h : 3 ≤ (best s i (far i)).1
  · left
    obtain ⟨h1, h2⟩ := best_run s i (far i) (by omega)
    obtain ⟨h3, h4⟩ := best_le s i (far i)
    have h5 := best_fits s i (far i) (by omega)
    have h6 : far i ≤ i ∧ far i ≤ 1024 := by unfold far; omega
    refine ⟨(best s i (far i)).1, (best s i (far i)).2, by unfold pieceAt; rw [if_pos h], by unfold stepAt; rw [if_pos h], h, h3, h2, by omega, by omega, h5, ?_, ?_⟩
    · intro j hj
      rw [h1] at hj
      exact run_same s _ i j hj
    · intro h7 h8
      have := run_max s (i - (best s i (far i)).2) i (by rw [← h1]; exact h7) (by rw [← h1]; exact h8)
      rw [← h1] at this
      exact this
  · right
    refine ⟨?_, by unfold stepAt; rw [if_neg h]⟩
    unfold pieceAt
    rw [if_neg h]
    have h1 : i < s.data.toList.length := by rw [Array.length_toList]; exact hi
    rw [List.getD_eq_getElem?_getD, List.getElem?_eq_getElem h1]
    rfl

theorem whole_pos (s : ByteArray) (hs : s.size ≤ 3000) (k : Nat) (hk : k ≤ (pieces s).length) : wholeAt (pieces s) k = some (s.data.toList.take (posAt s k)) := by
  have hl : s.data.toList.length = s.size := Array.length_toList
  induction k with
  | zero => rfl
  | succ k ih =>
    obtain ⟨hp, hlt⟩ := pos_at s hs k (by omega)
    rw [wholeAt_succ _ _ _ (ih (by omega)), List.getD_eq_getElem?_getD, List.getElem?_eq_getElem (by omega)]
    show step _ (pieces s)[k] = _
    rw [hp, posAt]
    generalize posAt s k = i at *
    have hlen : (s.data.toList.take i).length = i := by rw [List.length_take]; omega
    rcases piece_cases s i hlt with ⟨n, d, e1, e2, h3, h4, h5, h6, h7, h8, h9, -⟩ | ⟨e1, e2⟩
    · rw [e1, e2, step_copy _ _ (decide_eq_false (by simp; omega)) (decide_eq_true ⟨rfl, by show (3 : Int) ≤ (n : Int); omega, by show (n : Int) ≤ 258; omega, by show (1 : Int) ≤ (d : Int); omega, by show (d : Int) ≤ 1024; omega⟩) (by rw [hlen]; show (d : Int) ≤ (i : Int); omega) (by rw [hlen]; show (i : Int) + (n : Int) ≤ 3000; omega)]
      show some (copyN _ (d : Int).toNat (n : Int).toNat) = _
      rw [Int.toNat_natCast, Int.toNat_natCast, copy_take s i d n h5 h6 h8 h9 n (Nat.le_refl _)]
    · have hb := s[i].toNat_lt
      have hi : i < s.data.toList.length := by omega
      rw [e1, e2, step_byte _ _ (decide_eq_true ⟨rfl, rfl, by show (0 : Int) ≤ (s[i].toNat : Int); omega, by show (s[i].toNat : Int) ≤ 255; omega⟩) (by omega), List.take_add_one, List.getElem?_eq_getElem hi]
      show some (_ ++ [UInt8.ofNat ((s[i].toNat : Int)).toNat]) = _
      rw [Int.toNat_natCast, UInt8.ofNat_toNat]
      rfl

theorem whole_pieces (s : ByteArray) (hs : s.size ≤ 3000) : wholeS (pieces s) = s ∧ wholeB (pieces s) = true := by
  have h := whole_pos s hs _ (Nat.le_refl _)
  rw [pos_end s hs, List.take_of_length_le (by rw [Array.length_toList]; exact Nat.le_refl _)] at h
  obtain ⟨h1, h2⟩ := whole_yes _ _ h
  exact ⟨h1, h2⟩

end Math
end Go.Proofs.YtcifgableeeooabDoor

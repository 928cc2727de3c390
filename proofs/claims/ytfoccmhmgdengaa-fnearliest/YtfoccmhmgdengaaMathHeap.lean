/- The mathematics of a heap of ways: numbers 0 .. n-1, each no smaller than the one above it. -/
import Derived.Test.YtfoccmhmgdengaaMathBst
namespace Go.Proofs.Ytfoccmhmgdengaa
namespace Rd
set_option linter.unusedSimpArgs false
set_option linter.unusedVariables false

/-- Ready sooner, or as soon with no more rides. -/
def leW (a b : Vw) : Prop := a.y < b.y ∨ (a.y = b.y ∧ a.n ≤ b.n)

theorem leW_refl (a : Vw) : leW a a := Or.inr ⟨rfl, Nat.le_refl _⟩
theorem leW_trans {a b c : Vw} (h : leW a b) (g : leW b c) : leW a c := by unfold leW at *; omega
theorem leW_not {a b : Vw} (h : ¬ leW a b) : leW b a := by unfold leW at *; omega

def Heap (f : Nat → Vw) (n : Nat) : Prop := ∀ k, 0 < k → k < n → leW (f ((k - 1) / 2)) (f k)

theorem heap_top {f : Nat → Vw} {n : Nat} (h : Heap f n) : ∀ m k, k ≤ m → k < n → leW (f 0) (f k)
  | 0, k, hk, hn => by
    obtain rfl : k = 0 := by omega
    exact leW_refl _
  | m + 1, k, hk, hn => by
    by_cases h0 : k = 0
    · subst h0
      exact leW_refl _
    · exact leW_trans (heap_top h m ((k - 1) / 2) (by omega) (by omega)) (h k (by omega) hn)

/-- Two of them change places. -/
def sw (f : Nat → Vw) (i j : Nat) : Nat → Vw := fun k => if k = i then f j else if k = j then f i else f k

theorem sw_i (f : Nat → Vw) (i j : Nat) : sw f i j i = f j := if_pos rfl
theorem sw_j (f : Nat → Vw) (i j : Nat) : sw f i j j = f i := by
  unfold sw
  by_cases h : j = i
  · subst h; simp
  · rw [if_neg h, if_pos rfl]
theorem sw_k (f : Nat → Vw) {i j k : Nat} (h1 : k ≠ i) (h2 : k ≠ j) : sw f i j k = f k := by unfold sw; rw [if_neg h1, if_neg h2]

theorem sw_mem (f : Nat → Vw) {i j n : Nat} (hi : i < n) (hj : j < n) (v : Vw) : (∃ k, k < n ∧ sw f i j k = v) ↔ ∃ k, k < n ∧ f k = v := by
  constructor
  · rintro ⟨k, hk, e⟩
    by_cases h1 : k = i
    · subst h1
      rw [sw_i] at e
      exact ⟨j, hj, e⟩
    · by_cases h2 : k = j
      · subst h2
        rw [sw_j] at e
        exact ⟨i, hi, e⟩
      · rw [sw_k f h1 h2] at e
        exact ⟨k, hk, e⟩
  · rintro ⟨k, hk, e⟩
    by_cases h1 : k = i
    · subst h1
      exact ⟨j, hj, by rw [sw_j]; exact e⟩
    · by_cases h2 : k = j
      · subst h2
        exact ⟨i, hi, by rw [sw_i]; exact e⟩
      · exact ⟨k, hk, by rw [sw_k f h1 h2]; exact e⟩

/-- A heap but for one that may be too small where it is. -/
def UpI (f : Nat → Vw) (n j : Nat) : Prop := (∀ k, 0 < k → k < n → k ≠ j → leW (f ((k - 1) / 2)) (f k)) ∧ ∀ k, 0 < k → k < n → (k - 1) / 2 = j → 0 < j → leW (f ((j - 1) / 2)) (f k)

theorem up_push {f : Nat → Vw} {n : Nat} (h : Heap f n) (v : Vw) : UpI (fun k => if k = n then v else f k) (n + 1) n := by
  constructor
  · intro k h1 h2 h3
    simp only [if_neg h3, if_neg (show (k - 1) / 2 ≠ n by omega)]
    exact h k h1 (by omega)
  · intro k h1 h2 h3 h4
    omega

theorem up_step {f : Nat → Vw} {n j : Nat} (h : UpI f n j) (hj0 : 0 < j) (hj : j < n) (hl : ¬ leW (f ((j - 1) / 2)) (f j)) : UpI (sw f ((j - 1) / 2) j) n ((j - 1) / 2) := by
  have hl' := leW_not hl
  obtain ⟨i, hi⟩ : ∃ i, (j - 1) / 2 = i := ⟨_, rfl⟩
  rw [hi] at hl hl' ⊢
  have hij : i ≠ j := by omega
  constructor
  · intro k h1 h2 h3
    by_cases e : k = j
    · subst e
      rw [hi, sw_i, sw_j]
      exact hl'
    · rw [sw_k f h3 e]
      by_cases e1 : (k - 1) / 2 = i
      · rw [e1, sw_i]
        have := h.1 k h1 h2 e
        rw [e1] at this
        exact leW_trans hl' this
      · by_cases e2 : (k - 1) / 2 = j
        · rw [e2, sw_j]
          have := h.2 k h1 h2 e2 hj0
          rw [hi] at this
          exact this
        · rw [sw_k f e1 e2]
          exact h.1 k h1 h2 e
  · intro k h1 h2 h3 h4
    rw [sw_k f (show (i - 1) / 2 ≠ i by omega) (show (i - 1) / 2 ≠ j by omega)]
    have hp := h.1 i h4 (by omega) hij
    by_cases e : k = j
    · subst e
      rw [sw_j]
      exact hp
    · rw [sw_k f (show k ≠ i by omega) e]
      have := h.1 k h1 h2 e
      rw [h3] at this
      exact leW_trans hp this

theorem up_end {f : Nat → Vw} {n j : Nat} (h : UpI f n j) (hl : j = 0 ∨ leW (f ((j - 1) / 2)) (f j)) : Heap f n := by
  intro k h1 h2
  by_cases e : k = j
  · subst e
    rcases hl with hl | hl
    · omega
    · exact hl
  · exact h.1 k h1 h2 e

/-- A heap but for one that may be too great where it is. -/
def DownI (f : Nat → Vw) (n i : Nat) : Prop := (∀ k, 0 < k → k < n → (k - 1) / 2 ≠ i → leW (f ((k - 1) / 2)) (f k)) ∧ ∀ k, 0 < k → k < n → (k - 1) / 2 = i → 0 < i → leW (f ((i - 1) / 2)) (f k)

/-- The last takes the first's place, and is left out below. -/
theorem down_pop {f : Nat → Vw} {n : Nat} (h : Heap f (n + 1)) : DownI (sw f 0 n) n 0 := by
  constructor
  · intro k h1 h2 h3
    rw [sw_k f (show k ≠ 0 by omega) (show k ≠ n by omega), sw_k f h3 (show (k - 1) / 2 ≠ n by omega)]
    exact h k h1 (by omega)
  · intro k h1 h2 h3 h4
    omega

theorem down_step {f : Nat → Vw} {n i j : Nat} (h : DownI f n i) (hc : (j - 1) / 2 = i) (hj0 : 0 < j) (hj : j < n) (hmin : ∀ k, 0 < k → k < n → (k - 1) / 2 = i → leW (f j) (f k)) (hl : ¬ leW (f i) (f j)) : DownI (sw f i j) n j := by
  have hl' := leW_not hl
  have hij : i ≠ j := by omega
  constructor
  · intro k h1 h2 h3
    by_cases e1 : (k - 1) / 2 = i
    · rw [e1, sw_i]
      by_cases e2 : k = j
      · subst e2
        rw [sw_j]
        exact hl'
      · rw [sw_k f (show k ≠ i by omega) e2]
        exact hmin k h1 h2 e1
    · rw [sw_k f e1 h3]
      by_cases e2 : k = i
      · subst e2
        rw [sw_i]
        exact h.2 j hj0 hj hc h1
      · by_cases e3 : k = j
        · subst e3
          exact absurd hc e1
        · rw [sw_k f e2 e3]
          exact h.1 k h1 h2 e1
  · intro k h1 h2 h3 h4
    rw [hc, sw_i, sw_k f (show k ≠ i by omega) (show k ≠ j by omega)]
    have := h.1 k h1 h2 (by omega)
    rw [h3] at this
    exact this

theorem down_end {f : Nat → Vw} {n i : Nat} (h : DownI f n i) (hl : ∀ k, 0 < k → k < n → (k - 1) / 2 = i → leW (f i) (f k)) : Heap f n := by
  intro k h1 h2
  by_cases e : (k - 1) / 2 = i
  · rw [e]
    exact hl k h1 h2 e
  · exact h.1 k h1 h2 e

/-- What lies on top of a heap is the way that is taken. -/
theorem heap_is_top {f : Nat → Vw} {n : Nat} (h : Heap f n) (hn : 0 < n) {ws : List Vw} (hw : ∀ v, v ∈ ws ↔ ∃ k, k < n ∧ f k = v) : Top ws (f 0) := by
  refine ⟨(hw _).2 ⟨0, hn, rfl⟩, fun v hv => ?_⟩
  obtain ⟨k, hk, rfl⟩ := (hw v).1 hv
  exact heap_top h k k (Nat.le_refl _) hk

end Rd
end Go.Proofs.Ytfoccmhmgdengaa

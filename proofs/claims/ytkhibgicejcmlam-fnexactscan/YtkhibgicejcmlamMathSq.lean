/- The way around the middle of a square, as plain mathematics: rings, places, steps, corners. -/
namespace Go.Proofs.Ytkhibgicejcmlam
namespace Sq
set_option linter.unusedSimpArgs false
set_option linter.unusedVariables false

/-- The field number n of the ring at the distance d. -/
def ptX (d n : Int) : Int := if n < 2 * d then d else if n < 4 * d then d - 1 - (n - 2 * d) else if n < 6 * d then -d else -d + 1 + n - 6 * d

def ptY (d n : Int) : Int := if n < 2 * d then d - 1 - n else if n < 4 * d then -d else if n < 6 * d then -d + 1 + n - 4 * d else d

/-- The ring and the number in it of field k + 1. -/
def ring : Nat → Nat × Nat
  | 0 => (1, 0)
  | k + 1 => if (ring k).2 + 1 < 8 * (ring k).1 then ((ring k).1, (ring k).2 + 1) else ((ring k).1 + 1, 0)

theorem sq_step (d : Nat) (h : 1 ≤ d) : 4 * ((d + 1) * d) = 4 * (d * (d - 1)) + 8 * d := by
  obtain ⟨e, rfl⟩ : ∃ e, d = e + 1 := ⟨d - 1, by omega⟩
  simp only [Nat.add_sub_cancel, Nat.add_mul, Nat.mul_add]
  omega

theorem ring_at (k : Nat) : 1 ≤ (ring k).1 ∧ (ring k).2 < 8 * (ring k).1 ∧ k = 4 * ((ring k).1 * ((ring k).1 - 1)) + (ring k).2 := by
  induction k with
  | zero => simp [ring]
  | succ k ih =>
    obtain ⟨h1, h2, h3⟩ := ih
    unfold ring
    by_cases h : (ring k).2 + 1 < 8 * (ring k).1
    · rw [if_pos h]
      exact ⟨h1, h, by show k + 1 = 4 * ((ring k).1 * ((ring k).1 - 1)) + ((ring k).2 + 1); omega⟩
    · rw [if_neg h]
      refine ⟨by show 1 ≤ (ring k).1 + 1; omega, by show 0 < 8 * ((ring k).1 + 1); omega, ?_⟩
      show k + 1 = 4 * (((ring k).1 + 1) * ((ring k).1 + 1 - 1)) + 0
      have := sq_step (ring k).1 h1
      rw [Nat.add_sub_cancel]
      omega

theorem sq_less {d e : Nat} (h1 : 1 ≤ d) (h : d < e) : 4 * (d * (d - 1)) + 8 * d ≤ 4 * (e * (e - 1)) := by
  rw [← sq_step d h1]
  exact Nat.mul_le_mul_left 4 (Nat.mul_le_mul (by omega) (by omega))

theorem ring_one {d n k : Nat} (h1 : 1 ≤ d) (h2 : n < 8 * d) (h3 : k = 4 * (d * (d - 1)) + n) : ring k = (d, n) := by
  obtain ⟨a1, a2, a3⟩ := ring_at k
  have e : (ring k).1 = d := by
    rcases Nat.lt_trichotomy (ring k).1 d with h | h | h
    · have := sq_less a1 h
      omega
    · exact h
    · have := sq_less h1 h
      omega
  have e2 : (ring k).2 = n := by rw [e] at a3; omega
  exact Prod.ext e e2

def wx : Nat → Int
  | 0 => 0
  | k + 1 => ptX (ring k).1 (ring k).2

def wy : Nat → Int
  | 0 => 0
  | k + 1 => ptY (ring k).1 (ring k).2

/-- The number of the step that is taken behind field k: 0 to the right, 1 up, 2 to the left, 3 down. -/
def dirOf (d n : Nat) : Nat := if n + 1 < 2 * d then 1 else if n + 1 < 4 * d then 2 else if n + 1 < 6 * d then 3 else 0

def dir : Nat → Nat
  | 0 => 0
  | k + 1 => dirOf (ring k).1 (ring k).2

def sx (i : Nat) : Int := if i = 0 then 1 else if i = 2 then -1 else 0

def sy (i : Nat) : Int := if i = 1 then -1 else if i = 3 then 1 else 0

def cornerB (x y : Int) : Bool := if 0 < x ∧ 0 ≤ y then decide (x = y + 1) else decide (x = y) || decide (x = -y)

theorem dirOf_1 {d n : Nat} (h : n + 1 < 2 * d) : dirOf d n = 1 := by unfold dirOf; rw [if_pos h]

theorem dirOf_2 {d n : Nat} (h : 2 * d ≤ n + 1) (h' : n + 1 < 4 * d) : dirOf d n = 2 := by unfold dirOf; rw [if_neg (by omega), if_pos h']

theorem dirOf_3 {d n : Nat} (h : 4 * d ≤ n + 1) (h' : n + 1 < 6 * d) : dirOf d n = 3 := by unfold dirOf; rw [if_neg (by omega), if_neg (by omega), if_pos h']

theorem dirOf_0 {d n : Nat} (h : 6 * d ≤ n + 1) : dirOf d n = 0 := by unfold dirOf; rw [if_neg (by omega), if_neg (by omega), if_neg (by omega)]

theorem pt_1 {d n : Int} (h : n < 2 * d) : ptX d n = d ∧ ptY d n = d - 1 - n := by unfold ptX ptY; rw [if_pos h, if_pos h]; exact ⟨rfl, rfl⟩

theorem pt_2 {d n : Int} (h0 : 2 * d ≤ n) (h : n < 4 * d) : ptX d n = d - 1 - (n - 2 * d) ∧ ptY d n = -d := by
  unfold ptX ptY; exact ⟨by rw [if_neg (by omega), if_pos h], by rw [if_neg (by omega), if_pos h]⟩

theorem pt_3 {d n : Int} (hd : 1 ≤ d) (h0 : 4 * d ≤ n) (h : n < 6 * d) : ptX d n = -d ∧ ptY d n = -d + 1 + n - 4 * d := by
  unfold ptX ptY; exact ⟨by rw [if_neg (by omega), if_neg (by omega), if_pos h], by rw [if_neg (by omega), if_neg (by omega), if_pos h]⟩

theorem pt_4 {d n : Int} (hd : 1 ≤ d) (h0 : 6 * d ≤ n) : ptX d n = -d + 1 + n - 6 * d ∧ ptY d n = d := by
  unfold ptX ptY; exact ⟨by rw [if_neg (by omega), if_neg (by omega), if_neg (by omega)], by rw [if_neg (by omega), if_neg (by omega), if_neg (by omega)]⟩

/-- The four sides of a ring. -/
theorem sides {d n : Int} (hd : 1 ≤ d) : (n < 2 * d ∧ ptX d n = d ∧ ptY d n = d - 1 - n) ∨ (2 * d ≤ n ∧ n < 4 * d ∧ ptX d n = d - 1 - (n - 2 * d) ∧ ptY d n = -d) ∨ (4 * d ≤ n ∧ n < 6 * d ∧ ptX d n = -d ∧ ptY d n = -d + 1 + n - 4 * d) ∨ (6 * d ≤ n ∧ ptX d n = -d + 1 + n - 6 * d ∧ ptY d n = d) := by
  by_cases h1 : n < 2 * d
  · exact .inl ⟨h1, pt_1 h1⟩
  · by_cases h2 : n < 4 * d
    · exact .inr (.inl ⟨by omega, h2, pt_2 (by omega) h2⟩)
    · by_cases h3 : n < 6 * d
      · exact .inr (.inr (.inl ⟨by omega, h3, pt_3 hd (by omega) h3⟩))
      · exact .inr (.inr (.inr ⟨by omega, pt_4 hd (by omega)⟩))

theorem dirs (d n : Nat) : (n + 1 < 2 * d ∧ dirOf d n = 1 ∧ sx (dirOf d n) = 0 ∧ sy (dirOf d n) = -1) ∨ (2 * d ≤ n + 1 ∧ n + 1 < 4 * d ∧ dirOf d n = 2 ∧ sx (dirOf d n) = -1 ∧ sy (dirOf d n) = 0) ∨ (4 * d ≤ n + 1 ∧ n + 1 < 6 * d ∧ dirOf d n = 3 ∧ sx (dirOf d n) = 0 ∧ sy (dirOf d n) = 1) ∨ (6 * d ≤ n + 1 ∧ dirOf d n = 0 ∧ sx (dirOf d n) = 1 ∧ sy (dirOf d n) = 0) := by
  by_cases h1 : n + 1 < 2 * d
  · have e := dirOf_1 h1; rw [e]; exact .inl ⟨h1, rfl, rfl, rfl⟩
  · by_cases h2 : n + 1 < 4 * d
    · have e := dirOf_2 (by omega) h2; rw [e]; exact .inr (.inl ⟨by omega, h2, rfl, rfl, rfl⟩)
    · by_cases h3 : n + 1 < 6 * d
      · have e := dirOf_3 (by omega) h3; rw [e]; exact .inr (.inr (.inl ⟨by omega, h3, rfl, rfl, rfl⟩))
      · have e := dirOf_0 (d := d) (n := n) (by omega); rw [e]; exact .inr (.inr (.inr ⟨by omega, rfl, rfl, rfl⟩))

theorem pt_next (d n : Nat) (h1 : 1 ≤ d) (h : n + 1 < 8 * d) : ptX d (n + 1 : Nat) = ptX d n + sx (dirOf d n) ∧ ptY d (n + 1 : Nat) = ptY d n + sy (dirOf d n) := by
  have a := sides (d := d) (n := (n + 1 : Nat)) (by omega)
  have b := sides (d := d) (n := n) (by omega)
  have c := dirs d n
  omega

theorem pt_ring (d n : Nat) (h1 : 1 ≤ d) (h0 : n < 8 * d) (h : ¬ n + 1 < 8 * d) : ptX (d + 1 : Nat) (0 : Nat) = ptX d n + sx (dirOf d n) ∧ ptY (d + 1 : Nat) (0 : Nat) = ptY d n + sy (dirOf d n) := by
  have a := sides (d := (d + 1 : Nat)) (n := (0 : Nat)) (by omega)
  have b := sides (d := d) (n := n) (by omega)
  have c := dirs d n
  omega

theorem ring_up {k : Nat} (h : (ring k).2 + 1 < 8 * (ring k).1) : ring (k + 1) = ((ring k).1, (ring k).2 + 1) := if_pos h

theorem ring_new {k : Nat} (h : ¬ (ring k).2 + 1 < 8 * (ring k).1) : ring (k + 1) = ((ring k).1 + 1, 0) := if_neg h

theorem way_step (k : Nat) : wx (k + 1) = wx k + sx (dir k) ∧ wy (k + 1) = wy k + sy (dir k) := by
  cases k with
  | zero => decide
  | succ k =>
    obtain ⟨h1, h2, -⟩ := ring_at k
    show ptX (ring (k + 1)).1 (ring (k + 1)).2 = ptX (ring k).1 (ring k).2 + sx (dirOf (ring k).1 (ring k).2) ∧ ptY (ring (k + 1)).1 (ring (k + 1)).2 = ptY (ring k).1 (ring k).2 + sy (dirOf (ring k).1 (ring k).2)
    by_cases h : (ring k).2 + 1 < 8 * (ring k).1
    · rw [ring_up h]
      exact pt_next _ _ h1 h
    · rw [ring_new h]
      exact pt_ring _ _ h1 h2 h

theorem corner_is (x y : Int) : cornerB x y = true ↔ (0 < x ∧ 0 ≤ y ∧ x = y + 1) ∨ (¬ (0 < x ∧ 0 ≤ y) ∧ (x = y ∨ x = -y)) := by
  unfold cornerB
  by_cases h : 0 < x ∧ 0 ≤ y
  · rw [if_pos h, decide_eq_true_eq]; omega
  · rw [if_neg h, Bool.or_eq_true, decide_eq_true_eq, decide_eq_true_eq]; omega

theorem corner_next (d n : Nat) (h1 : 1 ≤ d) (h : n + 1 < 8 * d) : dirOf d (n + 1) = if cornerB (ptX d (n + 1 : Nat)) (ptY d (n + 1 : Nat)) = true then (dirOf d n + 1) % 4 else dirOf d n := by
  have a := sides (d := d) (n := (n + 1 : Nat)) (by omega)
  have c := dirs d n
  have c' := dirs d (n + 1)
  have k := corner_is (ptX d (n + 1 : Nat)) (ptY d (n + 1 : Nat))
  by_cases hc : cornerB (ptX d (n + 1 : Nat)) (ptY d (n + 1 : Nat)) = true
  · rw [if_pos hc]
    have := k.1 hc
    clear k hc
    omega
  · rw [if_neg hc]
    have hn : ¬ ((0 < ptX d (n + 1 : Nat) ∧ 0 ≤ ptY d (n + 1 : Nat) ∧ ptX d (n + 1 : Nat) = ptY d (n + 1 : Nat) + 1) ∨ (¬ (0 < ptX d (n + 1 : Nat) ∧ 0 ≤ ptY d (n + 1 : Nat)) ∧ (ptX d (n + 1 : Nat) = ptY d (n + 1 : Nat) ∨ ptX d (n + 1 : Nat) = -ptY d (n + 1 : Nat)))) := fun h => hc (k.2 h)
    clear k hc
    omega

theorem corner_ring (d n : Nat) (h1 : 1 ≤ d) (h0 : n < 8 * d) (h : ¬ n + 1 < 8 * d) : dirOf (d + 1) 0 = if cornerB (ptX (d + 1 : Nat) (0 : Nat)) (ptY (d + 1 : Nat) (0 : Nat)) = true then (dirOf d n + 1) % 4 else dirOf d n := by
  have a := sides (d := (d + 1 : Nat)) (n := (0 : Nat)) (by omega)
  have c := dirs d n
  have c' := dirs (d + 1) 0
  have k := corner_is (ptX (d + 1 : Nat) (0 : Nat)) (ptY (d + 1 : Nat) (0 : Nat))
  rw [if_pos (k.2 (by omega))]
  omega

theorem dir_step (k : Nat) : dir (k + 1) = if cornerB (wx (k + 1)) (wy (k + 1)) = true then (dir k + 1) % 4 else dir k := by
  cases k with
  | zero => decide
  | succ k =>
    obtain ⟨h1, h2, -⟩ := ring_at k
    show dirOf (ring (k + 1)).1 (ring (k + 1)).2 = if cornerB (ptX (ring (k + 1)).1 (ring (k + 1)).2) (ptY (ring (k + 1)).1 (ring (k + 1)).2) = true then (dirOf (ring k).1 (ring k).2 + 1) % 4 else dirOf (ring k).1 (ring k).2
    by_cases h : (ring k).2 + 1 < 8 * (ring k).1
    · rw [ring_up h]
      exact corner_next _ _ h1 h
    · rw [ring_new h]
      exact corner_ring _ _ h1 h2 h

theorem dir_lt (k : Nat) : dir k < 4 := by
  cases k with
  | zero => decide
  | succ k =>
    show dirOf _ _ < 4
    unfold dirOf
    repeat' split
    all_goals omega

/-- How far a place is from the middle. -/
def dist (x y : Int) : Nat := Nat.max x.natAbs y.natAbs

theorem pt_dist (d n : Nat) (h1 : 1 ≤ d) (h : n < 8 * d) : dist (ptX d n) (ptY d n) = d := by
  have : (ptX d n).natAbs ≤ d ∧ (ptY d n).natAbs ≤ d ∧ ((ptX d n).natAbs = d ∨ (ptY d n).natAbs = d) := by
    have a := sides (d := d) (n := n) (by omega)
    omega
  unfold dist
  obtain ⟨a, b, c⟩ := this
  rcases c with c | c
  · rw [c]; exact Nat.max_eq_left b
  · rw [c]; exact Nat.max_eq_right a

theorem side (h : Nat) : (2 * h + 1) * (2 * h + 1) = 4 * ((h + 1) * h) + 1 := by
  simp only [Nat.add_mul, Nat.mul_add, Nat.mul_one, Nat.one_mul]
  rw [Nat.mul_mul_mul_comm]
  omega

theorem way_dist (k h : Nat) (hk : k < (2 * h + 1) * (2 * h + 1)) : dist (wx k) (wy k) ≤ h := by
  cases k with
  | zero => exact Nat.zero_le _
  | succ k =>
    obtain ⟨h1, h2, h3⟩ := ring_at k
    show dist (ptX _ _) (ptY _ _) ≤ h
    rw [pt_dist _ _ h1 h2]
    rw [side] at hk
    by_cases hh : (ring k).1 ≤ h
    · exact hh
    · have : 4 * ((h + 1) * h) ≤ 4 * ((ring k).1 * ((ring k).1 - 1)) := Nat.mul_le_mul_left 4 (Nat.mul_le_mul (by omega) (by omega))
      omega

theorem dist_in {x y : Int} {h : Nat} (hd : dist x y ≤ h) : -(h : Int) ≤ x ∧ x ≤ h ∧ -(h : Int) ≤ y ∧ y ≤ h := by
  have a : x.natAbs ≤ h := Nat.le_trans (Nat.le_max_left _ _) hd
  have b : y.natAbs ≤ h := Nat.le_trans (Nat.le_max_right _ _) hd
  omega

theorem in_dist {x y : Int} {h : Nat} (hx : -(h : Int) ≤ x ∧ x ≤ h) (hy : -(h : Int) ≤ y ∧ y ≤ h) : dist x y ≤ h := Nat.max_le.2 ⟨by omega, by omega⟩

/-- The number of a place in its ring. -/
def nOf (d x y : Int) : Int := if x = d ∧ y < d then d - 1 - y else if y = -d then d - 1 - x + 2 * d else if x = -d then y + d - 1 + 4 * d else x + d - 1 + 6 * d

/-- The number of a place on the way. -/
def kOf (x y : Int) : Nat := if dist x y = 0 then 0 else 1 + 4 * (dist x y * (dist x y - 1)) + (nOf (dist x y) x y).toNat

theorem nOf_is (d x y : Int) : (x = d ∧ y < d ∧ nOf d x y = d - 1 - y) ∨ (¬ (x = d ∧ y < d) ∧ y = -d ∧ nOf d x y = d - 1 - x + 2 * d) ∨ (¬ (x = d ∧ y < d) ∧ ¬ y = -d ∧ x = -d ∧ nOf d x y = y + d - 1 + 4 * d) ∨ (¬ (x = d ∧ y < d) ∧ ¬ y = -d ∧ ¬ x = -d ∧ nOf d x y = x + d - 1 + 6 * d) := by
  unfold nOf
  by_cases h1 : x = d ∧ y < d
  · rw [if_pos h1]; omega
  · rw [if_neg h1]
    by_cases h2 : y = -d
    · rw [if_pos h2]; omega
    · rw [if_neg h2]
      by_cases h3 : x = -d
      · rw [if_pos h3]; omega
      · rw [if_neg h3]; omega

theorem nOf_pt (d n : Nat) (h1 : 1 ≤ d) (h : n < 8 * d) : nOf d (ptX d n) (ptY d n) = n := by
  have a := sides (d := d) (n := n) (by omega)
  have b := nOf_is d (ptX d n) (ptY d n)
  omega

theorem pt_nOf (d : Nat) (x y : Int) (h1 : 1 ≤ d) (hx : -(d : Int) ≤ x ∧ x ≤ d) (hy : -(d : Int) ≤ y ∧ y ≤ d) (hm : x = d ∨ x = -d ∨ y = d ∨ y = -d) :
    0 ≤ nOf d x y ∧ nOf d x y < 8 * d ∧ ptX d (nOf d x y) = x ∧ ptY d (nOf d x y) = y := by
  have b := nOf_is d x y
  have a := sides (d := d) (n := nOf d x y) (by omega)
  omega

theorem kOf_way (k : Nat) : kOf (wx k) (wy k) = k := by
  cases k with
  | zero => rfl
  | succ k =>
    obtain ⟨h1, h2, h3⟩ := ring_at k
    show kOf (ptX (ring k).1 (ring k).2) (ptY (ring k).1 (ring k).2) = k + 1
    unfold kOf
    rw [pt_dist _ _ h1 h2, nOf_pt _ _ h1 h2, if_neg (by omega)]
    omega

theorem way_kOf (x y : Int) : wx (kOf x y) = x ∧ wy (kOf x y) = y := by
  by_cases h0 : dist x y = 0
  · have e : kOf x y = 0 := by unfold kOf; rw [if_pos h0]
    obtain ⟨a, b, c, d⟩ := dist_in (Nat.le_of_eq h0)
    rw [e]
    show (0 : Int) = x ∧ (0 : Int) = y
    omega
  · obtain ⟨a1, a2, a3, a4⟩ := dist_in (Nat.le_refl (dist x y))
    have hm : x = dist x y ∨ x = -(dist x y : Int) ∨ y = dist x y ∨ y = -(dist x y : Int) := by
      have : dist x y = x.natAbs ∨ dist x y = y.natAbs := by
        unfold dist
        rcases Nat.le_total x.natAbs y.natAbs with h | h
        · exact .inr (Nat.max_eq_right h)
        · exact .inl (Nat.max_eq_left h)
      omega
    obtain ⟨b1, b2, b3, b4⟩ := pt_nOf (dist x y) x y (by omega) ⟨a1, a2⟩ ⟨a3, a4⟩ hm
    have e : kOf x y = (4 * (dist x y * (dist x y - 1)) + (nOf (dist x y) x y).toNat) + 1 := by unfold kOf; rw [if_neg h0]; omega
    have r := ring_one (d := dist x y) (n := (nOf (dist x y) x y).toNat) (by omega) (by omega) rfl
    rw [e]
    show ptX (ring _).1 (ring _).2 = x ∧ ptY (ring _).1 (ring _).2 = y
    rw [r]
    show ptX (dist x y) ((nOf (dist x y) x y).toNat : Int) = x ∧ ptY (dist x y) ((nOf (dist x y) x y).toNat : Int) = y
    rw [Int.toNat_of_nonneg b1]
    exact ⟨b3, b4⟩

theorem kOf_lt {x y : Int} {h : Nat} (hd : dist x y ≤ h) : kOf x y < (2 * h + 1) * (2 * h + 1) := by
  rw [side]
  unfold kOf
  by_cases h0 : dist x y = 0
  · rw [if_pos h0]; omega
  · rw [if_neg h0]
    obtain ⟨a1, a2, a3, a4⟩ := dist_in (Nat.le_refl (dist x y))
    have hm : x = dist x y ∨ x = -(dist x y : Int) ∨ y = dist x y ∨ y = -(dist x y : Int) := by
      have : dist x y = x.natAbs ∨ dist x y = y.natAbs := by
        unfold dist
        rcases Nat.le_total x.natAbs y.natAbs with h | h
        · exact .inr (Nat.max_eq_right h)
        · exact .inl (Nat.max_eq_left h)
      omega
    obtain ⟨b1, b2, -, -⟩ := pt_nOf (dist x y) x y (by omega) ⟨a1, a2⟩ ⟨a3, a4⟩ hm
    have s := sq_step (dist x y) (by omega)
    have : 4 * ((dist x y + 1) * dist x y) ≤ 4 * ((h + 1) * h) := Nat.mul_le_mul_left 4 (Nat.mul_le_mul (by omega) hd)
    omega
end Sq
end Go.Proofs.Ytkhibgicejcmlam

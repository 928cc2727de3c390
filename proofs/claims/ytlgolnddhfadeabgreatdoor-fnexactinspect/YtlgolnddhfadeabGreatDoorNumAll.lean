/- The contracts of chapter 1 once more, each as one function of all its arguments. -/
import Derived.Test.YtlgolnddhfadeabGreatDoorNumPow
import Derived.Test.YtlgolnddhfadeabGreatDoorNumGcd
import Derived.Test.YtlgolnddhfadeabGreatDoorNumInv
import Derived.Test.YtlgolnddhfadeabGreatDoorNumPrime
namespace Go.Proofs.YtlgolnddhfadeabGreatDoor
namespace Num
open Go.ChangeShapes Go.WideShapes Go.ChangeAt Go.RowKit

/-- Whether m is a measure. -/
def Meas (m : Int) : Prop := 2 ≤ m ∧ m ≤ 2147483647

theorem not_meas {m : Int} (h : ¬ Meas m) : m < 2 ∨ 2147483647 < m := by
  unfold Meas at h
  omega

/-- What Mod answers. -/
def modV (x m : Int) : Int := if 2 ≤ m ∧ m ≤ 2147483647 then x % m else -1

theorem modV_yes (x : Int) {m : Int} (h : Meas m) : modV x m = x % m := if_pos h

theorem modV_no (x : Int) {m : Int} (h : ¬ Meas m) : modV x m = -1 := if_neg h

/-- What MulMod answers. -/
def mulV (x y m : Int) : Int := if 2 ≤ m ∧ m ≤ 2147483647 then x % m * (y % m) % m else -1

theorem mulV_yes (x y : Int) {m : Int} (h : Meas m) : mulV x y m = x % m * (y % m) % m := if_pos h

theorem mulV_no (x y : Int) {m : Int} (h : ¬ Meas m) : mulV x y m = -1 := if_neg h

/-- Whether PowMod has an answer. -/
def PowOk (n m : Int) : Prop := 2 ≤ m ∧ m ≤ 2147483647 ∧ 0 ≤ n ∧ n ≤ 2147483647

/-- What PowMod answers. -/
def powV (a n m : Int) : Int := if 2 ≤ m ∧ m ≤ 2147483647 ∧ 0 ≤ n ∧ n ≤ 2147483647 then Math.pw a n.toNat m else -1

theorem powV_yes (a : Int) {n m : Int} (h : PowOk n m) : powV a n m = Math.pw a n.toNat m := if_pos h

theorem powV_no (a : Int) {n m : Int} (h : ¬ PowOk n m) : powV a n m = -1 := if_neg h

theorem pw_add (a m : Int) (r s : Nat) : Math.pw a r m % m * (Math.pw a s m % m) % m = Math.pw a (r + s) m := by
  unfold Math.pw
  rw [Int.emod_emod_of_dvd _ (Int.dvd_refl m), Int.emod_emod_of_dvd _ (Int.dvd_refl m), ← Int.mul_emod, ← Int.pow_add]

theorem pow_split (a m n r s : Int) (w : World) (h : PowOk n m) (hr0 : 0 ≤ r) (hs0 : 0 ≤ s) (hrs : r + s = n) :
    (Calls Tryz.prog 163 #[.int .i64 (Math.pw a r.toNat m), .int .i64 (Math.pw a s.toNat m), .int .i64 m] w fun e w' => e = .returned (.int .i64 (Math.pw a n.toNat m)) ∧ w' = w) := by
  have hh := implMulMod_yes (Math.pw a r.toNat m) (Math.pw a s.toNat m) m w h.1 h.2.1
  rw [pw_add, show r.toNat + s.toNat = n.toNat from by omega] at hh
  exact hh

/-- What Gcd answers. -/
def gcdV (a b : Int) : Int := if 0 ≤ a ∧ a ≤ 2147483647 ∧ 0 ≤ b ∧ b ≤ 2147483647 then (Nat.gcd a.toNat b.toNat : Nat) else -1

theorem gcdV_yes {a b : Int} (h : 0 ≤ a ∧ a ≤ 2147483647 ∧ 0 ≤ b ∧ b ≤ 2147483647) : gcdV a b = (Nat.gcd a.toNat b.toNat : Nat) := if_pos h

theorem gcdV_no {a b : Int} (h : ¬ (0 ≤ a ∧ a ≤ 2147483647 ∧ 0 ≤ b ∧ b ≤ 2147483647)) : gcdV a b = -1 := if_neg h

theorem gcdV_comm (a b : Int) : gcdV b a = gcdV a b := by
  unfold gcdV
  rw [Nat.gcd_comm]
  by_cases h : 0 ≤ a ∧ a ≤ 2147483647 ∧ 0 ≤ b ∧ b ≤ 2147483647
  · rw [if_pos h, if_pos (by omega)]
  · rw [if_neg h, if_neg (by omega)]

theorem cast_le (k : Nat) (h : k ≤ 2147483647) : (k : Int) ≤ 2147483647 := by omega

theorem gcd_div (x y : Nat) (h : 0 < Nat.gcd x y) : Nat.gcd (x / Nat.gcd x y) (y / Nat.gcd x y) = 1 := by
  have e := Nat.gcd_mul_left (Nat.gcd x y) (x / Nat.gcd x y) (y / Nat.gcd x y)
  rw [Nat.mul_div_cancel' (Nat.gcd_dvd_left x y), Nat.mul_div_cancel' (Nat.gcd_dvd_right x y)] at e
  apply Nat.eq_of_mul_eq_mul_left h
  rw [Nat.mul_one]
  exact e.symm

theorem gcdV_pos (a b : Int) (h : 0 < gcdV a b) : 0 ≤ a ∧ 0 ≤ b ∧ gcdV a b ≤ 2147483647 ∧ a % gcdV a b = 0 ∧ b % gcdV a b = 0 ∧ gcdV (a / gcdV a b) (b / gcdV a b) = 1 := by
  by_cases hc : 0 ≤ a ∧ a ≤ 2147483647 ∧ 0 ≤ b ∧ b ≤ 2147483647
  · have e := gcdV_yes hc
    rw [e] at h ⊢
    obtain ⟨x, rfl⟩ := Int.eq_ofNat_of_zero_le hc.1
    obtain ⟨y, rfl⟩ := Int.eq_ofNat_of_zero_le hc.2.2.1
    have hp : 0 < Nat.gcd x y := by simpa using h
    have e1 := gcd_div x y hp
    have d1 := Nat.mod_eq_zero_of_dvd (Nat.gcd_dvd_left x y)
    have d2 := Nat.mod_eq_zero_of_dvd (Nat.gcd_dvd_right x y)
    have l1 := Nat.div_le_self x (Nat.gcd x y)
    have l2 := Nat.div_le_self y (Nat.gcd x y)
    have l3 : Nat.gcd x y ≤ 2147483647 := by
      by_cases hx : x = 0
      · subst hx; rw [Nat.gcd_zero_left]; omega
      · have := Nat.gcd_le_left y (show 0 < x by omega); omega
    simp only [Int.toNat_natCast]
    refine ⟨by omega, by omega, by omega, by exact_mod_cast d1, by exact_mod_cast d2, ?_⟩
    have q1 : ((x : Int) / (Nat.gcd x y : Nat)) = ((x / Nat.gcd x y : Nat) : Int) := by simp
    have q2 : ((y : Int) / (Nat.gcd x y : Nat)) = ((y / Nat.gcd x y : Nat) : Int) := by simp
    have b1 : x / Nat.gcd x y ≤ 2147483647 := Nat.le_trans l1 (by omega)
    have b2 : y / Nat.gcd x y ≤ 2147483647 := Nat.le_trans l2 (by omega)
    rw [q1, q2, gcdV_yes ⟨Int.natCast_nonneg _, cast_le _ b1, Int.natCast_nonneg _, cast_le _ b2⟩]
    simp only [Int.toNat_natCast]
    rw [e1]
    rfl
  · rw [gcdV_no hc] at h
    omega

/-- Whether a has an inverse by m. -/
def invB (a m : Int) : Bool := decide (2 ≤ m ∧ m ≤ 2147483647 ∧ Nat.gcd (a % m).toNat m.toNat = 1)

/-- The number that Inverse answers. -/
def invI (a m : Int) : Int := if 2 ≤ m ∧ m ≤ 2147483647 ∧ Nat.gcd (a % m).toNat m.toNat = 1 then Math.inv (a % m) m else 0

theorem invI_bd (a m : Int) : 0 ≤ invI a m ∧ invI a m ≤ 2147483647 := by
  unfold invI
  split
  · rename_i h
    have := Math.inv_bd (a % m) m h.1
    omega
  · omega

theorem invB_ok (a m : Int) (h : invB a m = true) : Meas m ∧ 0 ≤ invI a m ∧ invI a m < m ∧ mulV a (invI a m) m = 1 := by
  unfold invB at h
  have h1 := of_decide_eq_true h
  have hm : Meas m := ⟨h1.1, h1.2.1⟩
  have e : invI a m = Math.inv (a % m) m := if_pos h1
  have hb := Math.inv_bd (a % m) m h1.1
  rw [e]
  refine ⟨hm, hb.1, hb.2, ?_⟩
  rw [mulV_yes _ _ hm, Int.emod_eq_of_lt hb.1 hb.2]
  obtain ⟨ha0, ha1⟩ := Math.emod_bd a m h1.1
  exact Math.inv_ok (a % m) m h1.1 ha0 ha1 h1.2.2

theorem invB_gcd (a m : Int) (h : Meas m) : invB a m = (gcdV (a % m) m == 1) := by
  obtain ⟨ha0, ha1⟩ := Math.emod_bd a m h.1
  have hh := h
  unfold Meas at hh
  rw [gcdV_yes (by omega)]
  unfold invB
  rw [Bool.eq_iff_iff]
  simp [hh.1, hh.2]
  omega

theorem invB_no (a m : Int) (h : ¬ Meas m) : invB a m = false := by
  unfold invB
  unfold Meas at h
  exact decide_eq_false (by omega)

theorem specMod_val (x m : Int) (w : World) :
    Calls Tryz.prog 81 #[.int .i64 x, .int .i64 m] w fun e w' => e = .returned (.int .i64 (modV x m)) ∧ w' = w := by
  by_cases h : Meas m
  · rw [modV_yes x h]; exact specMod_yes x m w h.1 h.2
  · rw [modV_no x h]; exact specMod_no x m w (not_meas h)

theorem implMod_val (x m : Int) (w : World) :
    Calls Tryz.prog 104 #[.int .i64 x, .int .i64 m] w fun e w' => e = .returned (.int .i64 (modV x m)) ∧ w' = w := by
  by_cases h : Meas m
  · rw [modV_yes x h]; exact implMod_yes x m w h.1 h.2
  · rw [modV_no x h]; exact implMod_no x m w (not_meas h)

theorem specMulMod_val (x y m : Int) (w : World) :
    Calls Tryz.prog 79 #[.int .i64 x, .int .i64 y, .int .i64 m] w fun e w' => e = .returned (.int .i64 (mulV x y m)) ∧ w' = w := by
  by_cases h : Meas m
  · rw [mulV_yes x y h]; exact specMulMod_yes x y m w h.1 h.2
  · rw [mulV_no x y h]; exact specMulMod_no x y m w (not_meas h)

theorem implMulMod_val (x y m : Int) (w : World) :
    Calls Tryz.prog 163 #[.int .i64 x, .int .i64 y, .int .i64 m] w fun e w' => e = .returned (.int .i64 (mulV x y m)) ∧ w' = w := by
  by_cases h : Meas m
  · rw [mulV_yes x y h]; exact implMulMod_yes x y m w h.1 h.2
  · rw [mulV_no x y h]; exact implMulMod_no x y m w (not_meas h)

theorem powNot {n m : Int} (h : ¬ PowOk n m) : (m < 2 ∨ 2147483647 < m) ∨ (2 ≤ m ∧ m ≤ 2147483647 ∧ (n < 0 ∨ 2147483647 < n)) := by
  unfold PowOk at h
  omega

theorem specPowMod_val (a n m : Int) (w : World) :
    Calls Tryz.prog 77 #[.int .i64 a, .int .i64 n, .int .i64 m] w fun e w' => e = .returned (.int .i64 (powV a n m)) ∧ Drawn w w' := by
  by_cases h : PowOk n m
  · rw [powV_yes a h]; exact specPowMod_yes a n m w h.1 h.2.1 h.2.2.1 h.2.2.2
  · rw [powV_no a h]
    refine (specPowMod_no a n m w (powNot h)).mono ?_
    rintro e w' ⟨rfl, rfl⟩
    exact ⟨rfl, Drawn.refl _⟩

theorem implPowMod_val (a n m : Int) (w : World) :
    Calls Tryz.prog 164 #[.int .i64 a, .int .i64 n, .int .i64 m] w fun e w' => e = .returned (.int .i64 (powV a n m)) ∧ w' = w := by
  by_cases h : PowOk n m
  · rw [powV_yes a h]; exact implPowMod_yes a n m w h.1 h.2.1 h.2.2.1 h.2.2.2
  · rw [powV_no a h]; exact implPowMod_no a n m w (powNot h)

theorem specGcd_val (a b : Int) (w : World) :
    Calls Tryz.prog 119 #[.int .i64 a, .int .i64 b] w fun e w' => e = .returned (.int .i64 (gcdV a b)) ∧ w' = w := by
  by_cases h : 0 ≤ a ∧ a ≤ 2147483647 ∧ 0 ≤ b ∧ b ≤ 2147483647
  · rw [gcdV_yes h]; exact specGcd_yes a b w h.1 h.2.1 h.2.2.1 h.2.2.2
  · rw [gcdV_no h]; exact specGcd_no a b w h

theorem inv_cases (a m : Int) : (¬ Meas m ∧ invI a m = 0 ∧ invB a m = false) ∨ (Meas m ∧ Nat.gcd (a % m).toNat m.toNat ≠ 1 ∧ invI a m = 0 ∧ invB a m = false) ∨ (Meas m ∧ Nat.gcd (a % m).toNat m.toNat = 1 ∧ invI a m = Math.inv (a % m) m ∧ invB a m = true) := by
  by_cases h : Meas m
  · by_cases hg : Nat.gcd (a % m).toNat m.toNat = 1
    · exact Or.inr (Or.inr ⟨h, hg, if_pos ⟨h.1, h.2, hg⟩, decide_eq_true ⟨h.1, h.2, hg⟩⟩)
    · exact Or.inr (Or.inl ⟨h, hg, if_neg fun k => hg k.2.2, decide_eq_false fun k => hg k.2.2⟩)
  · exact Or.inl ⟨h, if_neg fun k => h ⟨k.1, k.2.1⟩, decide_eq_false fun k => h ⟨k.1, k.2.1⟩⟩

theorem specInverse_val (a m : Int) (w : World) :
    Calls Tryz.prog 78 #[.int .i64 a, .int .i64 m] w fun e w' => e = .returned (.tuple #[.int .i64 (invI a m), .bool (invB a m)]) ∧ w' = w := by
  rcases inv_cases a m with ⟨h, e1, e2⟩ | ⟨h, hg, e1, e2⟩ | ⟨h, hg, e1, e2⟩ <;> rw [e1, e2]
  · exact specInverse_no a m w (not_meas h)
  · exact specInverse_none a m w h.1 h.2 hg
  · exact specInverse_yes a m w h.1 h.2 hg

theorem implInverse_val (a m : Int) (w : World) :
    Calls Tryz.prog 162 #[.int .i64 a, .int .i64 m] w fun e w' => e = .returned (.tuple #[.int .i64 (invI a m), .bool (invB a m)]) ∧ Drawn w w' := by
  rcases inv_cases a m with ⟨h, e1, e2⟩ | ⟨h, hg, e1, e2⟩ | ⟨h, hg, e1, e2⟩ <;> rw [e1, e2]
  · refine (implInverse_no a m w (not_meas h)).mono ?_
    rintro e w' ⟨rfl, rfl⟩
    exact ⟨rfl, Drawn.refl _⟩
  · exact implInverse_none a m w h.1 h.2 hg
  · have hb := Math.inv_bd (a % m) m h.1
    exact implInverse_yes a m w h.1 h.2 hg hb.1 hb.2

/-- What Prime answers. -/
def primeV (n : Int) : Bool := if 2 ≤ n ∧ n ≤ 2147483647 then Math.primeB n else false

theorem primeV_yes {n : Int} (h : Meas n) : primeV n = Math.primeB n := if_pos h

theorem primeV_no {n : Int} (h : ¬ Meas n) : primeV n = false := if_neg h

theorem primeV_nat (n : Int) (h : Meas n) : ∃ k : Nat, n = k ∧ 2 ≤ k ∧ k ≤ 2147483647 := by
  unfold Meas at h
  exact ⟨n.toNat, by omega, by omega, by omega⟩

theorem primeV_ok (n k : Int) (h : primeV n = true) (hk : 2 ≤ k) (hkn : k < n) : n % k ≠ 0 := by
  by_cases hm : Meas n
  · rw [primeV_yes hm] at h
    obtain ⟨x, rfl, h1, h2⟩ := primeV_nat n hm
    obtain ⟨y, rfl⟩ := Int.eq_ofNat_of_zero_le (show 0 ≤ k by omega)
    have h3 := of_decide_eq_true h y (by simp; omega) (by omega)
    intro h4
    apply h3
    simp only [Int.toNat_natCast]
    exact_mod_cast h4
  · rw [primeV_no hm] at h
    exact absurd h (by simp)

theorem primeV_meas (n : Int) (h : primeV n = true) : 2 ≤ n ∧ n ≤ 2147483647 := by
  by_cases hm : Meas n
  · exact hm
  · rw [primeV_no hm] at h
    exact absurd h (by simp)

theorem specPrime_val (n : Int) (w : World) :
    Calls Tryz.prog 117 #[.int .i64 n] w fun e w' => e = .returned (.bool (primeV n)) ∧ w' = w := by
  by_cases h : Meas n
  · rw [primeV_yes h]
    obtain ⟨k, rfl, h1, h2⟩ := primeV_nat n h
    exact specPrime_yes k w h1 h2
  · rw [primeV_no h]; exact specPrime_no n w (not_meas h)

theorem implPrime_val (n : Int) (w : World) :
    Calls Tryz.prog 179 #[.int .i64 n] w fun e w' => e = .returned (.bool (primeV n)) ∧ w' = w := by
  by_cases h : Meas n
  · rw [primeV_yes h]
    obtain ⟨k, rfl, h1, h2⟩ := primeV_nat n h
    exact implPrime_yes k w h1 h2
  · rw [primeV_no h]; exact implPrime_no n w (not_meas h)

end Num
end Go.Proofs.YtlgolnddhfadeabGreatDoor

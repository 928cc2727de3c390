/- Places of a square as complex numbers: small whole numbers as floats, sums, quarters, corners. -/
import Derived.Test.YtkhibgicejcmlamPkRow
import Derived.Test.YtkhibgicejcmlamMathSq
import Derived.WalkLawsBesides
import Derived.BigRegion
namespace Go.Proofs.Ytkhibgicejcmlam
namespace Sq
open Go.ChangeShapes Go.WideShapes Go.ChangeAt Go.RowKit
open Pk (Drawn)
set_option linter.unusedSimpArgs false
set_option linter.unusedVariables false

/-- The bits of a small whole number as a float. -/
def E (n : Int) : Nat := floatOfInt .f64 n

/-- The bits of the lesser nought. -/
def NZ : Nat := 9223372036854775808

theorem tab_int : ((List.range 131).all fun m => decide (floatToIntVal .f64 (E ((m : Int) - 65)) .i64 = some ((m : Int) - 65))) = true := by kernel_rfl

theorem of_tab {p : Int → Bool} (h : ((List.range 131).all fun m => p ((m : Int) - 65)) = true) {n : Int} (h1 : -65 ≤ n) (h2 : n ≤ 65) : p n = true := by
  have := List.all_eq_true.1 h (n + 65).toNat (List.mem_range.2 (by omega))
  rwa [Int.toNat_of_nonneg (by omega), Int.add_sub_cancel] at this

theorem E_int {n : Int} (h1 : -65 ≤ n) (h2 : n ≤ 65) : floatToIntVal .f64 (E n) .i64 = some n := of_decide_eq_true (of_tab (p := fun n => decide (floatToIntVal .f64 (E n) .i64 = some n)) tab_int h1 h2)

/-- The bits of the step with this number. -/
def stA (i : Nat) : Nat := if i = 0 then 4607182418800017408 else if i = 1 then 0 else if i = 2 then 13830554455654793216 else NZ

def stB (i : Nat) : Nat := if i = 0 then 0 else if i = 1 then 13830554455654793216 else if i = 2 then NZ else 4607182418800017408

theorem tab_add : ((List.range 131).all fun m => decide (floatBits .add .f64 (E ((m : Int) - 65)) 0 = some (E ((m : Int) - 65 + 0)) ∧ floatBits .add .f64 (E ((m : Int) - 65)) NZ = some (E ((m : Int) - 65 + 0)) ∧ floatBits .add .f64 (E ((m : Int) - 65)) 4607182418800017408 = some (E ((m : Int) - 65 + 1)) ∧ floatBits .add .f64 (E ((m : Int) - 65)) 13830554455654793216 = some (E ((m : Int) - 65 + -1)))) = true := by kernel_rfl

theorem E_add {n : Int} (h1 : -65 ≤ n) (h2 : n ≤ 65) : floatBits .add .f64 (E n) 0 = some (E (n + 0)) ∧ floatBits .add .f64 (E n) NZ = some (E (n + 0)) ∧ floatBits .add .f64 (E n) 4607182418800017408 = some (E (n + 1)) ∧ floatBits .add .f64 (E n) 13830554455654793216 = some (E (n + -1)) :=
  of_decide_eq_true (of_tab (p := fun n => decide (floatBits .add .f64 (E n) 0 = some (E (n + 0)) ∧ floatBits .add .f64 (E n) NZ = some (E (n + 0)) ∧ floatBits .add .f64 (E n) 4607182418800017408 = some (E (n + 1)) ∧ floatBits .add .f64 (E n) 13830554455654793216 = some (E (n + -1)))) tab_add h1 h2)

/-- A place and a step. -/
theorem sum_bits {x y : Int} {i : Nat} (hx1 : -65 ≤ x) (hx2 : x ≤ 65) (hy1 : -65 ≤ y) (hy2 : y ≤ 65) (hi : i < 4) : cSumBits .add .f64 (E x) (E y) (stA i) (stB i) = some (E (x + sx i), E (y + sy i)) := by
  obtain ⟨a1, a2, a3, a4⟩ := E_add hx1 hx2
  obtain ⟨b1, b2, b3, b4⟩ := E_add hy1 hy2
  obtain rfl | rfl | rfl | rfl : i = 0 ∨ i = 1 ∨ i = 2 ∨ i = 3 := by omega
  · show cSumBits .add .f64 (E x) (E y) 4607182418800017408 0 = some (E (x + 1), E (y + 0))
    unfold cSumBits; rw [a3, b1]; rfl
  · show cSumBits .add .f64 (E x) (E y) 0 13830554455654793216 = some (E (x + 0), E (y + -1))
    unfold cSumBits; rw [a1, b4]; rfl
  · show cSumBits .add .f64 (E x) (E y) 13830554455654793216 NZ = some (E (x + -1), E (y + 0))
    unfold cSumBits; rw [a4, b2]; rfl
  · show cSumBits .add .f64 (E x) (E y) NZ 4607182418800017408 = some (E (x + 0), E (y + 1))
    unfold cSumBits; rw [a2, b3]; rfl

theorem left_bits {i : Nat} (hi : i < 4) : cMulBits (stA i) (stB i) 0 13830554455654793216 = some (stA ((i + 1) % 4), stB ((i + 1) % 4)) := by
  obtain rfl | rfl | rfl | rfl : i = 0 ∨ i = 1 ∨ i = 2 ∨ i = 3 := by omega
  · kernel_rfl
  · kernel_rfl
  · kernel_rfl
  · kernel_rfl

/-- What a number times nought is. -/
def zs (n : Int) : Nat := if n < 0 then NZ else 0

/-- What a nought less a number is. -/
def sr (z : Nat) (n : Int) : Nat := (floatBits .sub .f64 z (E n)).getD 0

def rightOk (n : Int) : Bool := decide (floatBits .mul .f64 (E n) 0 = some (zs n) ∧ floatBits .mul .f64 (E n) 4607182418800017408 = some (E n) ∧ floatBits .sub .f64 0 (E n) = some (sr 0 n) ∧ floatBits .sub .f64 NZ (E n) = some (sr NZ n) ∧ floatToIntVal .f64 (sr 0 n) .i64 = some (-n) ∧ floatToIntVal .f64 (sr NZ n) .i64 = some (-n) ∧ floatBits .add .f64 (E n) 0 = some (E n) ∧ floatBits .add .f64 (E n) NZ = some (E n))

theorem tab_right : ((List.range 131).all fun m => rightOk ((m : Int) - 65)) = true := by kernel_rfl

theorem zs_or (n : Int) : zs n = 0 ∨ zs n = NZ := by
  unfold zs
  by_cases h : n < 0
  · rw [if_pos h]; exact .inr rfl
  · rw [if_neg h]; exact .inl rfl

theorem right_bits {x y : Int} (hx1 : -65 ≤ x) (hx2 : x ≤ 65) (hy1 : -65 ≤ y) (hy2 : y ≤ 65) : cMulBits (E x) (E y) 0 4607182418800017408 = some (sr (zs x) y, E x) ∧ floatToIntVal .f64 (sr (zs x) y) .i64 = some (-y) := by
  obtain ⟨a1, a2, a3, a4, a5, a6, a7, a8⟩ := of_decide_eq_true (of_tab tab_right hx1 hx2)
  obtain ⟨b1, b2, b3, b4, b5, b6, b7, b8⟩ := of_decide_eq_true (of_tab tab_right hy1 hy2)
  unfold cMulBits
  rw [a1, b2, a2, b1]
  rcases zs_or x with e | e <;> rcases zs_or y with f | f <;> rw [e, f]
  · simp only [Option.bind_some, b3, a7]; exact ⟨trivial, b5⟩
  · simp only [Option.bind_some, b3, a8]; exact ⟨trivial, b5⟩
  · simp only [Option.bind_some, b4, a7]; exact ⟨trivial, b6⟩
  · simp only [Option.bind_some, b4, a8]; exact ⟨trivial, b6⟩

theorem placeOf_val (x y : Int) (w : World) :
    Calls Try.prog 57 #[.int .i64 x, .int .i64 y] w fun e w' => e = .returned (.complex .f64 (E x) (E y)) ∧ w' = w := by
  go_enter Try.func57, Try.ntmps57
  go_wp2
  go_ret
  exact ⟨rfl, rfl⟩

theorem x_val (a b : Nat) (n : Int) (w : World) (h : floatToIntVal .f64 a .i64 = some n) :
    Calls Try.prog 61 #[.complex .f64 a b] w fun e w' => e = .returned (.int .i64 n) ∧ w' = w := by
  have hc : ∀ w, (convert 93 3 (.float .f64 a)).run Try.prog w = .ok (.int .i64 n) w := fun w => run_convert_float_int w _ _ .f64 .i64 a n (by kernel_rfl) Try.underlying3 h
  go_enter Try.func61, Try.ntmps61
  go_wp2
  go_ret
  exact ⟨rfl, rfl⟩

theorem y_val (a b : Nat) (n : Int) (w : World) (h : floatToIntVal .f64 b .i64 = some n) :
    Calls Try.prog 60 #[.complex .f64 a b] w fun e w' => e = .returned (.int .i64 n) ∧ w' = w := by
  have hc : ∀ w, (convert 93 3 (.float .f64 b)).run Try.prog w = .ok (.int .i64 n) w := fun w => run_convert_float_int w _ _ .f64 .i64 b n (by kernel_rfl) Try.underlying3 h
  go_enter Try.func60, Try.ntmps60
  go_wp2
  go_ret
  exact ⟨rfl, rfl⟩

theorem toLeft_val (i : Nat) (w : World) (hi : i < 4) :
    Calls Try.prog 59 #[.complex .f64 (stA i) (stB i)] w fun e w' => e = .returned (.complex .f64 (stA ((i + 1) % 4)) (stB ((i + 1) % 4))) ∧ w' = w := by
  have hop := fun t w => run_complex_mul (P := Try.prog) w t _ _ _ _ _ _ (left_bits hi)
  generalize stA ((i + 1) % 4) = c at *
  generalize stB ((i + 1) % 4) = d at *
  generalize stA i = a at *
  generalize stB i = b at *
  go_enter Try.func59, Try.ntmps59
  go_wp2
  go_ret
  exact ⟨rfl, rfl⟩

theorem toRight_val (x y : Int) (w : World) (hx1 : -65 ≤ x) (hx2 : x ≤ 65) (hy1 : -65 ≤ y) (hy2 : y ≤ 65) :
    Calls Try.prog 33 #[.complex .f64 (E x) (E y)] w fun e w' => e = .returned (.complex .f64 (sr (zs x) y) (E x)) ∧ w' = w := by
  have hop := fun t w => run_complex_mul (P := Try.prog) w t _ _ _ _ _ _ (right_bits hx1 hx2 hy1 hy2).1
  generalize sr (zs x) y = c at *
  generalize E x = a at *
  generalize E y = b at *
  go_enter Try.func33, Try.ntmps33
  go_wp2
  go_ret
  exact ⟨rfl, rfl⟩

theorem corner_val (a b : Nat) (x y : Int) (w : World) (ha : floatToIntVal .f64 a .i64 = some x) (hb : floatToIntVal .f64 b .i64 = some y) (hx1 : -65 ≤ x) (hx2 : x ≤ 65) (hy1 : -65 ≤ y) (hy2 : y ≤ 65) :
    Calls Try.prog 58 #[.complex .f64 a b] w fun e w' => e = .returned (.bool (cornerB x y)) ∧ w' = w := by
  have HC : Hid (_) := corner_is x y
  generalize cornerB x y = c at *
  go_enter Try.func58, Try.ntmps58
  go_wp2_with fail
  refine (x_val _ _ _ _ ha).mono ?_
  rintro e w1 ⟨rfl, rfl⟩
  go_wp2_with fail
  refine (y_val _ _ _ _ hb).mono ?_
  rintro e w1 ⟨rfl, rfl⟩
  by_cases h1 : 0 < x
  · by_cases h2 : 0 ≤ y
    · by_cases h3 : x = y + 1
      · have hc : c = true := HC.out.2 (.inl ⟨h1, h2, h3⟩)
        clear HC
        subst hc h3
        go_wp2
        go_ret
        exact ⟨rfl, rfl⟩
      · have hc : c = false := by rw [← Bool.not_eq_true]; intro hc; have := HC.out.1 hc; omega
        have he : (x == y + 1) = false := by simp [h3]
        clear HC
        subst hc
        go_wp2
        go_ret
        exact ⟨rfl, rfl⟩
    · by_cases h3 : x = -y
      · have hc : c = true := HC.out.2 (.inr ⟨by omega, .inr h3⟩)
        have he : (x == -y) = true := by simp [h3]
        have hf : (x == y) = false := by simp; omega
        clear HC
        subst hc
        go_wp2
        go_ret
        exact ⟨rfl, rfl⟩
      · have hc : c = false := by rw [← Bool.not_eq_true]; intro hc; have := HC.out.1 hc; omega
        have he : (x == -y) = false := by simp [h3]
        have hf : (x == y) = false := by simp; omega
        clear HC
        subst hc
        go_wp2
        go_ret
        exact ⟨rfl, rfl⟩
  · by_cases h4 : x = y
    · have hc : c = true := HC.out.2 (.inr ⟨by omega, .inl h4⟩)
      have he : (x == y) = true := by simp [h4]
      clear HC h4
      subst hc
      go_wp2
      go_ret
      exact ⟨rfl, rfl⟩
    · by_cases h3 : x = -y
      · have hc : c = true := HC.out.2 (.inr ⟨by omega, .inr h3⟩)
        have he : (x == -y) = true := by simp [h3]
        have hf : (x == y) = false := by simp [h4]
        clear HC h3 h4
        subst hc
        go_wp2
        go_ret
        exact ⟨rfl, rfl⟩
      · have hc : c = false := by rw [← Bool.not_eq_true]; intro hc; have := HC.out.1 hc; omega
        have he : (x == -y) = false := by simp [h3]
        have hf : (x == y) = false := by simp [h4]
        clear HC h3 h4
        subst hc
        go_wp2
        go_ret
        exact ⟨rfl, rfl⟩

end Sq
end Go.Proofs.Ytkhibgicejcmlam

/- Contracts of Rate and Fee, of the program and of its model. -/
import Derived.Test.YtmhongcbgokiladTfOk
namespace Go.Proofs.Ytmhongcbgokilad
namespace Tf
open Go.ChangeShapes Go.WideShapes Go.ChangeAt Go.RowKit
open Pk (new_below join_below cell_at heap_new frozen_at lt_of kept heap_old Drawn)
set_option linter.unusedSimpArgs false
set_option linter.unusedVariables false

theorem in_yes {x a b : Int} (h1 : a ≤ x) (h2 : x ≤ b) (w : World) :
    Calls Try.prog 53 #[.int .i64 x, .int .i64 a, .int .i64 b] w fun e w' => e = .returned (.bool true) ∧ w' = w := by
  have := in_val x a b w
  rwa [show inB x a b = true by simp [inB, h1, h2]] at this

theorem in_no {x a b : Int} (h : ¬ (a ≤ x ∧ x ≤ b)) (w : World) :
    Calls Try.prog 53 #[.int .i64 x, .int .i64 a, .int .i64 b] w fun e w' => e = .returned (.bool false) ∧ w' = w := by
  have := in_val x a b w
  rwa [show inB x a b = false by simp [inB]; omega] at this

theorem between_yes {x a b : Int} (h1 : a ≤ x) (h2 : x ≤ b) (w : World) :
    Calls Try.prog 54 #[.int .i64 x, .int .i64 a, .int .i64 b] w fun e w' => e = .returned (.bool true) ∧ w' = w := by
  have := between_val x a b w
  rwa [show inB x a b = true by simp [inB, h1, h2]] at this

theorem between_no {x a b : Int} (h : ¬ (a ≤ x ∧ x ≤ b)) (w : World) :
    Calls Try.prog 54 #[.int .i64 x, .int .i64 a, .int .i64 b] w fun e w' => e = .returned (.bool false) ∧ w' = w := by
  have := between_val x a b w
  rwa [show inB x a b = false by simp [inB]; omega] at this

def clV (c : Int) : Int := if c = 1 then 160 else if c = 2 then 100 else 0
def clB (c : Int) : Bool := decide (c = 1) || decide (c = 2)

theorem class_val (c : Int) (w : World) :
    Calls Try.prog 75 #[.int .i64 c] w fun e w' => e = .returned (.tuple #[.int .i64 (clV c), .bool (clB c)]) ∧ w' = w := by
  by_cases h1 : c = 1
  · subst h1
    go_enter Try.func75, Try.ntmps75
    go_wp2
    refine bodyPost_ret (results_tmp2 rfl _ _ _) rfl ?_
    exact ⟨rfl, rfl⟩
  by_cases h2 : c = 2
  · subst h2
    go_enter Try.func75, Try.ntmps75
    go_wp2
    refine bodyPost_ret (results_tmp2 rfl _ _ _) rfl ?_
    exact ⟨rfl, rfl⟩
  have e1 : (c == 1) = false := beq_eq_false_iff_ne.2 h1
  have e2 : (c == 2) = false := beq_eq_false_iff_ne.2 h2
  have HV : Hid (clV c = 0 ∧ clB c = false) := ⟨by simp [clV, h1, h2], by simp [clB, h1, h2]⟩
  clear h1 h2
  go_enter Try.func75, Try.ntmps75
  go_wp2
  refine bodyPost_ret (results_tmp2 rfl _ _ _) rfl ?_
  exact ⟨by rw [HV.out.1, HV.out.2] <;> rfl, rfl⟩

set_option maxHeartbeats 1000000 in
theorem implRate_val (c d : Int) (w : World) :
    Calls Try.prog 38 #[.int .i64 c, .int .i64 d] w fun e w' => e = .returned (.int .i64 (rateV c d)) ∧ w' = w := by
  have HC : Hid (∀ w, _) := fun w => class_val c w
  by_cases h0 : c = 1 ∨ c = 2
  · have hd : d = 0 ∨ d = 1 ∨ d = 2 ∨ d = 3 ∨ ¬ (d = 0 ∨ d = 1 ∨ d = 2 ∨ d = 3) := by omega
    rcases hd with rfl | rfl | rfl | rfl | hd
    case _ | _ | _ | _ =>
      all_goals
        rcases h0 with rfl | rfl
        all_goals
          go_enter Try.func38, Try.ntmps38
          go_wp2_with fail
          refine (HC.out _).mono ?_
          rintro e w1 ⟨rfl, rfl⟩
          simp only [clV, clB]
          go_wp2
          go_ret
          exact ⟨rfl, rfl⟩
    · have e0 : (d == 0) = false := beq_eq_false_iff_ne.2 (by omega)
      have e1 : (d == 1) = false := beq_eq_false_iff_ne.2 (by omega)
      have e2 : (d == 2) = false := beq_eq_false_iff_ne.2 (by omega)
      have e3 : (d == 3) = false := beq_eq_false_iff_ne.2 (by omega)
      have HV : Hid (rateV c d = -1) := by
        show _ = _
        unfold rateV
        repeat' split
        all_goals omega
      clear hd
      rcases h0 with rfl | rfl
      all_goals
        go_enter Try.func38, Try.ntmps38
        go_wp2_with fail
        refine (HC.out _).mono ?_
        rintro e w1 ⟨rfl, rfl⟩
        simp only [clV, clB]
        go_wp2
        go_ret
        exact ⟨by rw [HV.out] <;> rfl, rfl⟩
  · have HV : Hid (rateV c d = -1 ∧ clB c = false) := ⟨by unfold rateV; rw [if_neg (by omega), if_neg (by omega)], by unfold clB; simp; omega⟩
    rw [HV.out.2] at HC
    clear h0
    go_enter Try.func38, Try.ntmps38
    go_wp2_with fail
    refine (HC.out _).mono ?_
    rintro e w1 ⟨rfl, rfl⟩
    go_wp2
    go_ret
    exact ⟨by rw [HV.out.1] <;> rfl, rfl⟩

set_option maxHeartbeats 2000000 in
theorem specRate_val (c d : Int) (w : World) :
    Calls Try.prog 41 #[.int .i64 c, .int .i64 d] w fun e w' => e = .returned (.int .i64 (rateV c d)) ∧ Below w.heap.size w w' := by
  by_cases h0 : 1 ≤ c ∧ c ≤ 2
  · have H1 : Hid (∀ w, _) := fun w => in_yes h0.1 h0.2 w
    by_cases h1 : 0 ≤ d ∧ d ≤ 3
    · have H2 : Hid (∀ w, _) := fun w => in_yes h1.1 h1.2 w
      have hc : c = 1 ∨ c = 2 := by omega
      have hd : d = 0 ∨ d = 1 ∨ d = 2 ∨ d = 3 := by omega
      clear h0 h1
      rcases hc with rfl | rfl <;> rcases hd with rfl | rfl | rfl | rfl
      all_goals
        go_enter Try.func41, Try.ntmps41
        go_wp2
        go_ret
        exact ⟨rfl, new_below _ _⟩
    · have H2 : Hid (∀ w, _) := fun w => in_no h1 w
      have HV : Hid (rateV c d = -1) := by
        show _ = _
        unfold rateV
        repeat' split
        all_goals omega
      clear h0 h1
      go_enter Try.func41, Try.ntmps41
      go_wp2_with fail
      refine (H1.out _).mono ?_
      rintro e w1 ⟨rfl, rfl⟩
      go_wp2_with fail
      refine (H2.out _).mono ?_
      rintro e w1 ⟨rfl, rfl⟩
      go_wp2
      go_ret
      exact ⟨by rw [HV.out] <;> rfl, Below.refl _ _⟩
  · have H1 : Hid (∀ w, _) := fun w => in_no h0 w
    have HV : Hid (rateV c d = -1) := by
      show _ = _
      unfold rateV
      rw [if_neg (by omega), if_neg (by omega)]
    clear h0
    go_enter Try.func41, Try.ntmps41
    go_wp2_with fail
    refine (H1.out _).mono ?_
    rintro e w1 ⟨rfl, rfl⟩
    go_wp2
    go_ret
    exact ⟨by rw [HV.out] <;> rfl, Below.refl _ _⟩

theorem partUp_val (p q : Int) (w : World) (h0 : 0 ≤ p) (h1 : p ≤ 4000000000000000000) (hq : 1 ≤ q) (hq2 : q ≤ 1000000) :
    Calls Try.prog 74 #[.int .i64 p, .int .i64 q] w fun e w' => e = .returned (.int .i64 ((p + q - 1) / q)) ∧ w' = w := by
  have hq0 : (q == 0) = false := beq_eq_false_iff_ne.2 (by omega)
  have hqm : (q == -1) = false := beq_eq_false_iff_ne.2 (by omega)
  go_enter Try.func74, Try.ntmps74
  go_wp2
  go_ret
  exact ⟨rfl, rfl⟩

theorem fee_no (p d : Int) (h : ¬ (0 ≤ p ∧ p ≤ 10000000)) : feeV p d = -1 := by unfold feeV; rw [if_pos h]
theorem fee_8 (p d : Int) (h : 0 ≤ p ∧ p ≤ 10000000) (h8 : 8 ≤ d) : feeV p d = 0 := by unfold feeV; rw [if_neg (by omega), if_pos h8]
theorem fee_1 (p d : Int) (h : 0 ≤ p ∧ p ≤ 10000000) (h8 : ¬ 8 ≤ d) (h1 : 1 ≤ d) : feeV p d = (p + 3) / 4 := by
  unfold feeV; rw [if_neg (by omega), if_neg h8, if_pos h1]
theorem fee_0 (p : Int) (h : 0 ≤ p ∧ p ≤ 10000000) : feeV p 0 = (p + 1) / 2 := by
  unfold feeV; rw [if_neg (by omega), if_neg (by omega), if_neg (by omega), if_pos rfl]
theorem fee_neg (p d : Int) (h : 0 ≤ p ∧ p ≤ 10000000) (hd : d < 0) : feeV p d = p := by
  unfold feeV; rw [if_neg (by omega), if_neg (by omega), if_neg (by omega), if_neg (by omega)]

set_option maxHeartbeats 1000000 in
theorem implFee_val (p d : Int) (w : World) :
    Calls Try.prog 40 #[.int .i64 p, .int .i64 d] w fun e w' => e = .returned (.int .i64 (feeV p d)) ∧ w' = w := by
  by_cases hp : 0 ≤ p ∧ p ≤ 10000000
  · have H1 : Hid (∀ w, _) := fun w => between_yes hp.1 hp.2 w
    have H4 : Hid (∀ w, _) := fun w => partUp_val p 4 w hp.1 (by omega) (by omega) (by omega)
    have H2 : Hid (∀ w, _) := fun w => partUp_val p 2 w hp.1 (by omega) (by omega) (by omega)
    by_cases h8 : 8 ≤ d
    · have HV : Hid (_) := fee_8 p d hp h8
      go_enter Try.func40, Try.ntmps40
      go_wp2_with fail
      refine (H1.out _).mono ?_
      rintro e w1 ⟨rfl, rfl⟩
      go_wp2
      go_ret
      exact ⟨by rw [HV.out] <;> rfl, rfl⟩
    by_cases h1 : 1 ≤ d
    · have HV : Hid (_) := fee_1 p d hp h8 h1
      go_enter Try.func40, Try.ntmps40
      go_wp2_with fail
      refine (H1.out _).mono ?_
      rintro e w1 ⟨rfl, rfl⟩
      go_wp2_with fail
      refine (H4.out _).mono ?_
      rintro e w1 ⟨rfl, rfl⟩
      go_wp2
      go_ret
      exact ⟨by rw [HV.out, show p + 3 = p + 4 - 1 by omega] <;> rfl, rfl⟩
    by_cases h0 : d = 0
    · subst h0
      have HV : Hid (_) := fee_0 p hp
      clear h8 h1
      go_enter Try.func40, Try.ntmps40
      go_wp2_with fail
      refine (H1.out _).mono ?_
      rintro e w1 ⟨rfl, rfl⟩
      go_wp2_with fail
      refine (H2.out _).mono ?_
      rintro e w1 ⟨rfl, rfl⟩
      go_wp2
      go_ret
      exact ⟨by rw [HV.out, show p + 1 = p + 2 - 1 by omega] <;> rfl, rfl⟩
    · have HV : Hid (_) := fee_neg p d hp (by omega)
      have e0 : (d == 0) = false := beq_eq_false_iff_ne.2 h0
      go_enter Try.func40, Try.ntmps40
      go_wp2_with fail
      refine (H1.out _).mono ?_
      rintro e w1 ⟨rfl, rfl⟩
      go_wp2
      go_ret
      exact ⟨by rw [HV.out] <;> rfl, rfl⟩
  · have H1 : Hid (∀ w, _) := fun w => between_no hp w
    have HV : Hid (_) := fee_no p d hp
    clear hp
    go_enter Try.func40, Try.ntmps40
    go_wp2_with fail
    refine (H1.out _).mono ?_
    rintro e w1 ⟨rfl, rfl⟩
    go_wp2
    go_ret
    exact ⟨by rw [HV.out] <;> rfl, rfl⟩

set_option maxHeartbeats 1000000 in
theorem specFee_val (p d : Int) (w : World) :
    Calls Try.prog 42 #[.int .i64 p, .int .i64 d] w fun e w' => e = .returned (.int .i64 (feeV p d)) ∧ w' = w := by
  by_cases hp : 0 ≤ p ∧ p ≤ 10000000
  · have H1 : Hid (∀ w, _) := fun w => in_yes hp.1 hp.2 w
    obtain ⟨hp0, hp1⟩ := hp
    by_cases h8 : 8 ≤ d
    · have HV : Hid (_) := fee_8 p d ⟨hp0, hp1⟩ h8
      go_enter Try.func42, Try.ntmps42
      go_wp2_with fail
      refine (H1.out _).mono ?_
      rintro e w1 ⟨rfl, rfl⟩
      go_wp2
      go_ret
      exact ⟨by rw [HV.out] <;> rfl, rfl⟩
    by_cases h1 : 1 ≤ d
    · have HV : Hid (_) := fee_1 p d ⟨hp0, hp1⟩ h8 h1
      go_enter Try.func42, Try.ntmps42
      go_wp2_with fail
      refine (H1.out _).mono ?_
      rintro e w1 ⟨rfl, rfl⟩
      go_wp2
      go_ret
      exact ⟨by rw [HV.out] <;> rfl, rfl⟩
    by_cases h0 : d = 0
    · subst h0
      have HV : Hid (_) := fee_0 p ⟨hp0, hp1⟩
      clear h8 h1
      go_enter Try.func42, Try.ntmps42
      go_wp2_with fail
      refine (H1.out _).mono ?_
      rintro e w1 ⟨rfl, rfl⟩
      go_wp2
      go_ret
      exact ⟨by rw [HV.out] <;> rfl, rfl⟩
    · have HV : Hid (_) := fee_neg p d ⟨hp0, hp1⟩ (by omega)
      have e0 : (d == 0) = false := beq_eq_false_iff_ne.2 h0
      go_enter Try.func42, Try.ntmps42
      go_wp2_with fail
      refine (H1.out _).mono ?_
      rintro e w1 ⟨rfl, rfl⟩
      go_wp2
      go_ret
      exact ⟨by rw [HV.out] <;> rfl, rfl⟩
  · have H1 : Hid (∀ w, _) := fun w => in_no hp w
    have HV : Hid (_) := fee_no p d hp
    clear hp
    go_enter Try.func42, Try.ntmps42
    go_wp2_with fail
    refine (H1.out _).mono ?_
    rintro e w1 ⟨rfl, rfl⟩
    go_wp2
    go_ret
    exact ⟨by rw [HV.out] <;> rfl, rfl⟩

end Tf
end Go.Proofs.Ytmhongcbgokilad

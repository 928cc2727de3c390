/- Contracts of cmp.Compare, slices.Compare and cmp.Or over numbers. -/
import Derived.Test.YtmhongcbgokiladMathDij
import Derived.Test.YtmhongcbgokiladTfInts
namespace Go.Proofs.Ytmhongcbgokilad
namespace Tf
open Go.ChangeShapes Go.WideShapes Go.ChangeAt Go.RowKit
open Pk (new_below join_below cell_at heap_new frozen_at lt_of kept heap_old Drawn info_of)
set_option linter.unusedSimpArgs false
set_option linter.unusedVariables false

def cmpV (x y : Int) : Int := if x < y then -1 else if y < x then 1 else 0
def lexV : List Int → List Int → Int
  | [], [] => 0
  | [], _ :: _ => -1
  | _ :: _, [] => 1
  | a :: r, b :: t => if cmpV a b = 0 then lexV r t else cmpV a b
def orV : List Int → Int
  | [] => 0
  | a :: r => if a = 0 then orV r else a

theorem lexV_neg : ∀ (a b : List Int), decide (lexV a b < 0) = lexL a b
  | [], [] => rfl
  | [], _ :: _ => rfl
  | _ :: _, [] => rfl
  | x :: a, y :: b => by
    unfold lexV lexL
    have ih := lexV_neg a b
    unfold cmpV
    by_cases h1 : x < y
    · rw [if_pos h1, if_neg (by omega)]
      simp [h1]
    · by_cases h2 : y < x
      · rw [if_neg h1, if_pos h2, if_neg (by omega)]
        have h3 : ¬ x = y := by omega
        simp [h1, h3]
      · have h3 : x = y := by omega
        subst h3
        have e : (if x < x then (-1 : Int) else if x < x then 1 else 0) = 0 := by simp
        rw [if_pos e, ih]
        simp

theorem or_lex (a b c : Int) : orV [a, b, c] = if a = 0 then (if b = 0 then c else b) else a := by
  simp only [orV]
  by_cases h1 : a = 0
  · rw [if_pos h1, if_pos h1]
    by_cases h2 : b = 0
    · rw [if_pos h2, if_pos h2]
      by_cases h3 : c = 0
      · rw [if_pos h3, h3]
      · rw [if_neg h3]
    · rw [if_neg h2, if_neg h2]
  · rw [if_neg h1, if_neg h1]

theorem ahead_or (x y : Wy) : decide (orV [cmpV x.c y.c, cmpV (x.s.length : Int) (y.s.length : Int), lexV x.s y.s] < 0) = ahead x y := by
  unfold ahead
  rw [← lexV_neg, or_lex]
  rfl

theorem nan_val (x : Int) (w : World) : Calls Try.prog 113 #[.int .i64 x] w fun e w' => e = .returned (.bool false) ∧ w' = w := by
  go_enter Try.func113, Try.ntmps113
  go_wp2
  go_ret
  exact ⟨by simp, rfl⟩

theorem cmp_val (x y : Int) (w : World) : Calls Try.prog 109 #[.int .i64 x, .int .i64 y] w fun e w' => e = .returned (.int .i64 (cmpV x y)) ∧ w' = w := by
  have HX : Hid (∀ w, _) := fun w => nan_val x w
  have HY : Hid (∀ w, _) := fun w => nan_val y w
  by_cases h1 : x < y
  · have HV : Hid (cmpV x y = -1) := by simp [cmpV, h1, Hid]
    go_enter Try.func109, Try.ntmps109
    go_wp2_with fail
    refine (HX.out _).mono ?_
    rintro e w1 ⟨rfl, rfl⟩
    go_wp2_with fail
    refine (HY.out _).mono ?_
    rintro e w1 ⟨rfl, rfl⟩
    go_wp2
    go_ret
    exact ⟨by rw [HV.out] <;> rfl, rfl⟩
  by_cases h2 : y < x
  · have HV : Hid (cmpV x y = 1) := by simp [cmpV, h1, h2, Hid]
    go_enter Try.func109, Try.ntmps109
    go_wp2_with fail
    refine (HX.out _).mono ?_
    rintro e w1 ⟨rfl, rfl⟩
    go_wp2_with fail
    refine (HY.out _).mono ?_
    rintro e w1 ⟨rfl, rfl⟩
    go_wp2
    go_ret
    exact ⟨by rw [HV.out] <;> rfl, rfl⟩
  · have HV : Hid (cmpV x y = 0) := by simp [cmpV, h1, h2, Hid]
    go_enter Try.func109, Try.ntmps109
    go_wp2_with fail
    refine (HX.out _).mono ?_
    rintro e w1 ⟨rfl, rfl⟩
    go_wp2_with fail
    refine (HY.out _).mono ?_
    rintro e w1 ⟨rfl, rfl⟩
    go_wp2
    go_ret
    exact ⟨by rw [HV.out] <;> rfl, rfl⟩

theorem or_val (a : Option Addr) (x : List Int) (cap : Nat) (w : World) (hx : x.length ≤ 1048576) (I : Ints w a x) :
    Calls Try.prog 108 #[.slice a x.length cap] w fun e w' => e = .returned (.int .i64 (orV x)) ∧ w' = w := by
  go_enter Try.func108, Try.ntmps108
  go_wp2
  go_loop [8] (fun i => ∃ k : Nat, k ≤ x.length ∧ i = .int .i64 k ∧ Hid (orV x = orV (x.drop k))) (fun i => x.length - (intOf i).toNat)
  case atStart => exact ⟨0, by omega, rfl, rfl⟩
  case round =>
    obtain ⟨k, hk, rfl, H⟩ := hrel
    by_cases hkn : k < x.length
    · obtain ⟨b, o, rfl, hlt, c0⟩ := I.at k hkn
      have HS : Hid (orV x = if x[k] = 0 then orV (x.drop (k + 1)) else x[k]) := by
        show _ = _
        rw [H.out, List.drop_eq_getElem_cons hkn]
        rfl
      clear H
      generalize x[k] = y at *
      by_cases hy : y = 0
      · have HE : Hid (_) := HS.out.trans (if_pos hy)
        have e1 : (y != 0) = false := by simp [hy]
        clear hy HS
        go_wp2
        go_round
        case rel => exact ⟨k + 1, by omega, by go_num, HE⟩
        case measure => simp [intOf]; omega
      · have HE : Hid (_) := HS.out.trans (if_neg hy)
        have e1 : (y != 0) = true := by simp [hy]
        clear hy HS
        go_wp2
        go_ret
        exact ⟨by rw [HE.out] <;> rfl, rfl⟩
    · have HE : Hid (orV x = 0) := by
        show _ = _
        rw [H.out, List.drop_eq_nil_of_le (by omega)]
        rfl
      go_wp2
      go_ret
      exact ⟨by rw [HE.out] <;> rfl, rfl⟩

set_option maxRecDepth 100000 in
theorem compare_val (a b : Option Addr) (x y : List Int) (c1 c2 : Nat) (w : World) (hx : x.length ≤ 1048576) (hy : y.length ≤ 1048576) (I : Ints w a x) (J : Ints w b y) :
    Calls Try.prog 114 #[.slice a x.length c1, .slice b y.length c2] w fun e w' => e = .returned (.int .i64 (lexV x y)) ∧ w' = w := by
  go_enter Try.func114, Try.ntmps114
  go_wp2
  go_loop [11] (fun i => ∃ k : Nat, k ≤ x.length ∧ i = .int .i64 k ∧ Hid (k ≤ y.length ∧ lexV x y = lexV (x.drop k) (y.drop k))) (fun i => x.length - (intOf i).toNat)
  case atStart => exact ⟨0, by omega, rfl, by omega, rfl⟩
  case round =>
    obtain ⟨k, hk, rfl, H⟩ := hrel
    by_cases hkn : k < x.length
    · obtain ⟨p, o, rfl, hlt, cx⟩ := I.at k hkn
      by_cases hky : k < y.length
      · obtain ⟨q, u, rfl, hltq, cy⟩ := J.at k hky
        have HS : Hid (lexV x y = if cmpV x[k] y[k] = 0 then lexV (x.drop (k + 1)) (y.drop (k + 1)) else cmpV x[k] y[k]) := by
          show _ = _
          rw [H.out.2, List.drop_eq_getElem_cons hkn, List.drop_eq_getElem_cons hky]
          rfl
        have HC : Hid (∀ w, _) := fun w => cmp_val x[k] y[k] w
        have hge : ¬ y.length ≤ k := by omega
        clear H
        generalize x[k] = s at *
        generalize y[k] = t at *
        generalize cmpV s t = V at *
        go_wp2_with fail
        refine (HC.out _).mono ?_
        rintro e w1 ⟨rfl, rfl⟩
        by_cases hv : V = 0
        · have HE : Hid (_) := HS.out.trans (if_pos hv)
          have e1 : (V != 0) = false := by simp [hv]
          clear hv HS
          go_wp2
          go_round
          case rel => exact ⟨k + 1, by omega, by go_num, by omega, HE.out⟩
          case measure => simp [intOf]; omega
        · have HE : Hid (_) := HS.out.trans (if_neg hv)
          have e1 : (V != 0) = true := by simp [hv]
          clear hv HS
          go_wp2
          go_ret
          exact ⟨by rw [HE.out] <;> rfl, rfl⟩
      · have HE : Hid (lexV x y = 1) := by
          show _ = _
          rw [H.out.2, List.drop_eq_getElem_cons hkn, List.drop_eq_nil_of_le (by omega : y.length ≤ k)]
          rfl
        have hge : y.length ≤ k := by omega
        clear hky H
        go_wp2
        go_ret
        exact ⟨by rw [HE.out] <;> rfl, rfl⟩
    · by_cases hky : x.length < y.length
      · have HE : Hid (lexV x y = -1) := by
          show _ = _
          rw [H.out.2, List.drop_eq_nil_of_le (by omega : x.length ≤ k), List.drop_eq_getElem_cons (by omega : k < y.length)]
          rfl
        clear H
        go_wp2
        go_ret
        exact ⟨by rw [HE.out] <;> rfl, rfl⟩
      · have HE : Hid (lexV x y = 0) := by
          show _ = _
          have := H.out.1
          rw [H.out.2, List.drop_eq_nil_of_le (by omega : x.length ≤ k), List.drop_eq_nil_of_le (by omega : y.length ≤ k)]
          rfl
        clear H
        go_wp2
        go_ret
        exact ⟨by rw [HE.out] <;> rfl, rfl⟩

end Tf
end Go.Proofs.Ytmhongcbgokilad

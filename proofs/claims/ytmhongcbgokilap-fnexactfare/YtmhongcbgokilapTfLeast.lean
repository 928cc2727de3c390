/- Contracts of what a way costs, of the program and of its model. -/
import Derived.Test.YtmhongcbgokilapTfOkS
import Derived.Test.YtmhongcbgokilapTfInts
namespace Go.Proofs.Ytmhongcbgokilap
namespace Tf
open Go.ChangeShapes Go.WideShapes Go.ChangeAt Go.RowKit
open Pk (new_below join_below cell_at heap_new frozen_at lt_of kept heap_old Drawn)
set_option linter.unusedSimpArgs false
set_option linter.unusedVariables false

theorem leS_yes {a b acc : Int} {e : Ed} (h1 : hasS e a = true) (h2 : oth e a = b) (h3 : acc = -1 ∨ e.co < acc) : leS a b acc e = e.co := by
  unfold leS
  rw [if_pos ⟨by rw [h1, h2]; simp, h3⟩]

theorem leS_no1 {a b acc : Int} {e : Ed} (h1 : hasS e a = false) : leS a b acc e = acc := by
  unfold leS
  rw [if_neg (by rw [h1]; simp)]

theorem leS_no2 {a b acc : Int} {e : Ed} (h2 : oth e a ≠ b) : leS a b acc e = acc := by
  unfold leS
  rw [if_neg (by simp [h2])]

theorem leS_no3 {a b acc : Int} {e : Ed} (h3 : acc ≠ -1) (h4 : ¬ e.co < acc) : leS a b acc e = acc := by
  unfold leS
  rw [if_neg (by rintro ⟨-, h | h⟩ <;> omega)]

theorem from_val (p : Ed) (s : Int) (w : World) :
    Calls Try.prog 63 #[lgV p, .int .i64 s] w fun e w' => e = .returned (.tuple #[.int .i64 (oth p s), .bool (hasS p s)]) ∧ Below w.heap.size w w' := by
  obtain ⟨ea, eb, co⟩ := p
  have N := new_below w (edO ⟨ea, eb, co⟩ 58)
  by_cases h1 : ea = s
  · subst h1
    have HV : Hid (oth ⟨ea, eb, co⟩ ea = eb ∧ hasS ⟨ea, eb, co⟩ ea = true) := ⟨by simp [oth], by simp [hasS]⟩
    go_enter Try.func63, Try.ntmps63
    go_wp2
    refine bodyPost_ret (results_tmp2 rfl _ _ _) rfl ?_
    exact ⟨by rw [HV.out.1, HV.out.2] <;> rfl, N⟩
  have e1 : (s == ea) = false := beq_eq_false_iff_ne.2 (fun h => h1 h.symm)
  by_cases h2 : eb = s
  · subst h2
    have HV : Hid (oth ⟨ea, eb, co⟩ eb = ea ∧ hasS ⟨ea, eb, co⟩ eb = true) := ⟨by simp [oth, h1], by simp [hasS]⟩
    clear h1
    go_enter Try.func63, Try.ntmps63
    go_wp2
    refine bodyPost_ret (results_tmp2 rfl _ _ _) rfl ?_
    exact ⟨by rw [HV.out.1, HV.out.2] <;> rfl, N⟩
  have e2 : (s == eb) = false := beq_eq_false_iff_ne.2 (fun h => h2 h.symm)
  have HV : Hid (oth ⟨ea, eb, co⟩ s = 0 ∧ hasS ⟨ea, eb, co⟩ s = false) := ⟨by simp [oth, h1, h2], by simp [hasS, h1, h2]⟩
  clear h1 h2
  go_enter Try.func63, Try.ntmps63
  go_wp2
  refine bodyPost_ret (results_tmp2 rfl _ _ _) rfl ?_
  exact ⟨by rw [HV.out.1, HV.out.2] <;> rfl, N⟩

theorem other_val (p : Ed) (s : Int) (w : World) :
    Calls Try.prog 51 #[lgV p, .int .i64 s] w fun e w' => e = .returned (.int .i64 (oth p s)) ∧ Below w.heap.size w w' := by
  obtain ⟨ea, eb, co⟩ := p
  have N := new_below w (edO ⟨ea, eb, co⟩ 58)
  by_cases h1 : ea = s
  · subst h1
    have HV : Hid (oth ⟨ea, eb, co⟩ ea = eb) := by simp [oth, Hid]
    go_enter Try.func51, Try.ntmps51
    go_wp2
    go_ret
    exact ⟨by rw [HV.out] <;> rfl, N⟩
  have e1 : (ea == s) = false := beq_eq_false_iff_ne.2 h1
  by_cases h2 : eb = s
  · subst h2
    have HV : Hid (oth ⟨ea, eb, co⟩ eb = ea) := by simp [oth, h1, Hid]
    clear h1
    go_enter Try.func51, Try.ntmps51
    go_wp2
    go_ret
    exact ⟨by rw [HV.out] <;> rfl, N⟩
  have e2 : (eb == s) = false := beq_eq_false_iff_ne.2 h2
  have HV : Hid (oth ⟨ea, eb, co⟩ s = 0) := by simp [oth, h1, h2, Hid]
  clear h1 h2
  go_enter Try.func51, Try.ntmps51
  go_wp2
  go_ret
  exact ⟨by rw [HV.out] <;> rfl, N⟩

end Tf
end Go.Proofs.Ytmhongcbgokilap

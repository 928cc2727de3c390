/- Contracts of Takes, of the program and of its model. -/
import Derived.Test.YtfoccmhmgdengaaTnCut
namespace Go.Proofs.Ytfoccmhmgdengaa
namespace Tn
open Go.ChangeShapes Go.WideShapes Go.ChangeAt Go.RowKit
open Pk (new_below join_below cell_at heap_new frozen_at lt_of kept heap_old ret_int)
set_option linter.unusedSimpArgs false
set_option linter.unusedVariables false

theorem ok_step {t : Hd} {l : List St} (h : okB t l = true) (k : Nat) (hk : k < l.length) : stepB l k = true := by
  unfold okB stopsB at h
  simp only [Bool.and_eq_true] at h
  have h1 := h.2.2
  unfold stepsFrom at h1
  rw [List.drop_zero, List.all_eq_true] at h1
  exact h1 k (List.mem_range.2 hk)

theorem ok_stop {t : Hd} {l : List St} (h : okB t l = true) (k : Nat) (hk : k < l.length) : (1 ≤ l[k].st ∧ l[k].st ≤ 9999) ∧ (0 ≤ l[k].ar ∧ l[k].ar ≤ 4000) ∧ l[k].ar ≤ l[k].dp ∧ l[k].dp ≤ 4000 := by
  have h1 := ok_step h k hk
  rw [stepB_at l k hk] at h1
  unfold stB at h1
  simp only [Bool.and_eq_true] at h1
  have a := inB_yes h1.1.1.1.1
  have b := inB_yes h1.1.1.1.2
  have c := inB_yes h1.1.1.2
  exact ⟨a, b, c⟩

theorem ok_len {t : Hd} {l : List St} (h : okB t l = true) : 2 ≤ l.length ∧ l.length ≤ 20 := by
  unfold okB stopsB at h
  simp only [Bool.and_eq_true] at h
  have := inB_yes h.2.1
  omega

theorem cut_ok {t : Hd} {l : List St} {x y : Int} (h : cutB t l x y = true) : okB t l = true := by
  unfold cutB at h
  simp only [Bool.and_eq_true] at h
  exact h.1

/-- What a cut tells. -/
theorem cut_is {t : Hd} {l : List St} {x y : Int} (h : cutB t l x y = true) : ∃ i j : Nat, ∃ (hi : i < l.length) (hj : j < l.length), i < j ∧ cutA t l x y = i ∧ cutZ t l x y = j ∧ idx l x 0 = i ∧ idx l y 0 = j ∧ l[i].st = x ∧ l[j].st = y := by
  obtain ⟨e1, e2⟩ := cut_yes h
  unfold cutB at h
  simp only [Bool.and_eq_true, decide_eq_true_eq] at h
  rcases idx_is l x with ⟨h1, -⟩ | ⟨i, hi, h1, h2, -⟩
  · exact absurd h1 h.2.1
  · rcases idx_is l y with ⟨h3, -⟩ | ⟨j, hj, h3, h4, -⟩
    · omega
    · exact ⟨i, j, hi, hj, by omega, by rw [e1, h1], by rw [e2, h3], h1, h3, h2, h4⟩

def takesV (t : Hd) (l : List St) (x y : Int) : Int := if cutB t l x y = true then (l.getD (cutZ t l x y).toNat z0).ar - (l.getD (cutA t l x y).toNat z0).dp else -1

theorem takes_yes {t : Hd} {l : List St} {x y : Int} {i j : Nat} (hi : i < l.length) (hj : j < l.length) (h : cutB t l x y = true) (e1 : cutA t l x y = i) (e2 : cutZ t l x y = j) : takesV t l x y = l[j].ar - l[i].dp := by
  unfold takesV
  rw [if_pos h, e1, e2, Int.toNat_natCast, Int.toNat_natCast, getD_at l j hj, getD_at l i hi]

theorem takes_no {t : Hd} {l : List St} {x y : Int} (h : cutB t l x y = false) : takesV t l x y = -1 := by
  unfold takesV
  rw [h]
  rfl

end Tn
end Go.Proofs.Ytfoccmhmgdengaa

/- Contracts of package cmp at numbers: Compare, and Or over a list. -/
import Derived.Test.YtfoccmhmgdengaaMathHeap
import Derived.Test.YtfoccmhmgdengaaPkRow
namespace Go.Proofs.Ytfoccmhmgdengaa
namespace Rd
open Go.ChangeShapes Go.WideShapes Go.ChangeAt Go.RowKit
open Pk (new_below join_below cell_at heap_new lt_of kept)
set_option linter.unusedSimpArgs false
set_option linter.unusedVariables false

def cmpI (a b : Int) : Int := if a < b then -1 else if b < a then 1 else 0

/-- The first number that isn't 0, or 0. -/
def orL : List Int → Int
  | [] => 0
  | x :: l => if x = 0 then orL l else x

theorem isNaN_val (x : Int) (w : World) : Calls Try.prog 81 #[.int .i64 x] w fun e w' => e = .returned (.bool false) ∧ w' = w := by
  go_enter Try.func81, Try.ntmps81
  go_wp2
  go_ret
  exact ⟨rfl, rfl⟩

theorem compare_val (a b : Int) (w : World) : Calls Try.prog 80 #[.int .i64 a, .int .i64 b] w fun e w' => e = .returned (.int .i64 (cmpI a b)) ∧ w' = w := by
  have h9 : (a < b ∧ cmpI a b = -1) ∨ (¬ a < b ∧ b < a ∧ cmpI a b = 1) ∨ (¬ a < b ∧ ¬ b < a ∧ cmpI a b = 0) := by
    unfold cmpI
    by_cases h1 : a < b
    · exact Or.inl ⟨h1, if_pos h1⟩
    · by_cases h2 : b < a
      · exact Or.inr (Or.inl ⟨h1, h2, by rw [if_neg h1, if_pos h2]⟩)
      · exact Or.inr (Or.inr ⟨h1, h2, by rw [if_neg h1, if_neg h2]⟩)
  generalize cmpI a b = z at *
  go_enter Try.func80, Try.ntmps80
  go_wp2_with fail
  refine (isNaN_val _ _).mono ?_
  rintro e w1 ⟨rfl, rfl⟩
  go_wp2_with fail
  refine (isNaN_val _ _).mono ?_
  rintro e w2 ⟨rfl, rfl⟩
  rcases h9 with ⟨h1, rfl⟩ | ⟨h1, h2, rfl⟩ | ⟨h1, h2, rfl⟩
  · have d1 : decide (a < b) = true := decide_eq_true h1
    go_wp2
    go_ret
    exact ⟨rfl, rfl⟩
  · have d1 : decide (a < b) = false := decide_eq_false (by omega)
    have d2 : decide (b < a) = true := decide_eq_true h2
    go_wp2
    go_ret
    exact ⟨rfl, rfl⟩
  · have d1 : decide (a < b) = false := decide_eq_false (by omega)
    have d2 : decide (b < a) = false := decide_eq_false (by omega)
    go_wp2
    go_ret
    exact ⟨rfl, rfl⟩

set_option maxHeartbeats 2000000 in
theorem or_val (l : List Int) (b o cap : Nat) (w : World) (hl : l.length ≤ 1000) (H : ∀ i (h : i < l.length), w.cell? ⟨b, o + i, none⟩ = some (.int .i64 l[i])) :
    Calls Try.prog 79 #[.slice (some ⟨b, o, none⟩) l.length cap] w fun e w' => e = .returned (.int .i64 (orL l)) ∧ w' = w := by
  have HH : Hid (∀ i (h : i < l.length), w.cell? ⟨b, o + i, none⟩ = some (.int .i64 l[i])) := H
  clear H
  go_enter Try.func79, Try.ntmps79
  go_wp2
  go_loopw [8] (fun i wr => ∃ k : Nat, k ≤ l.length ∧ i = .int .i64 k ∧ Hid (orL l = orL (l.drop k)) ∧ wr = w) (fun i _ => l.length - (intOf i).toNat)
  case atStart => exact ⟨0, by omega, rfl, rfl, rfl⟩
  case round =>
    obtain ⟨k, hk, rfl, HO, rfl⟩ := hrel
    by_cases hkn : k < l.length
    · have h0 := HH.out k hkn
      have hk1 : (k : Int) < (l.length : Int) := by omega
      have hd : l.drop k = l[k] :: l.drop (k + 1) := List.drop_eq_getElem_cons hkn
      obtain ⟨x, hx⟩ : ∃ x, l[k] = x := ⟨_, rfl⟩
      rw [hx] at h0 hd
      have HD : Hid (l.drop k = x :: l.drop (k + 1)) := hd
      clear hd hx
      by_cases hz : x = 0
      · subst hz
        have HO2 : Hid (orL l = orL (l.drop (k + 1))) := by
          show _ = _
          rw [HO.out, HD.out]
          rfl
        go_wp2
        go_roundw
        case rel => exact ⟨k + 1, by omega, by go_num, HO2, by first | rfl | trivial⟩
        case measure => simp [intOf]; omega
      · have hb : (x == 0) = false := by simp [hz]
        have hd2 : decide (x = 0) = false := decide_eq_false hz
        have HO2 : Hid (orL l = x) := by
          show _ = _
          rw [HO.out, HD.out]
          exact if_neg hz
        go_wp2
        go_ret
        exact ⟨by rw [HO2.out]; rfl, rfl⟩
    · have hkk : k = l.length := by omega
      have HO2 : Hid (orL l = 0) := by
        show _ = _
        rw [HO.out, hkk, List.drop_length]
        rfl
      subst hkk
      go_wp2
      go_ret
      exact ⟨by rw [HO2.out]; rfl, rfl⟩

end Rd
end Go.Proofs.Ytfoccmhmgdengaa

/- Controls compared: by the program (cmp.Or of cmp.Compare), and by the model. -/
import Derived.Test.YtbmfhdlbbaabgaaCeCtr
import Derived.Deep.RegionHeld3
namespace Go.Proofs.Ytbmfhdlbbaabgaa
namespace Hn
open Go.ChangeShapes Go.WideShapes Go.ChangeAt Go.RowKit Go.Joins
open Pk (new_below join_below cell_at heap_new frozen_at lt_of kept heap_old Drawn info_of Room)
set_option linter.unusedSimpArgs false
set_option linter.unusedVariables false

/-- Two numbers compared. -/
def cmpI (x y : Int) : Int := if x < y then -1 else if y < x then 1 else 0

/-- Two controls compared: by device, then by number. -/
def orI (x y : Int) : Int := if x ≠ 0 then x else y
def cmpC (a b : Ct) : Int := orI (cmpI a.dv b.dv) (cmpI a.no b.no)

theorem orI_no (y : Int) : orI 0 y = y := rfl
theorem orI_yes {x : Int} (y : Int) (h : x ≠ 0) : orI x y = x := if_pos h

/-- Whether a control is ahead of another one. -/
def ltC (a b : Ct) : Bool := decide (a.dv < b.dv) || (decide (a.dv = b.dv) && decide (a.no < b.no))

theorem cmpI_lt {x y : Int} (h : x < y) : cmpI x y = -1 := by unfold cmpI; rw [if_pos h]
theorem cmpI_gt {x y : Int} (h : y < x) : cmpI x y = 1 := by unfold cmpI; rw [if_neg (by omega), if_pos h]
theorem cmpI_eq (x : Int) : cmpI x x = 0 := by unfold cmpI; rw [if_neg (by omega), if_neg (by omega)]

theorem cmpC_lt (a b : Ct) : decide (0 ≤ cmpC a b) = !ltC a b := by
  unfold cmpC ltC orI
  rcases Int.lt_trichotomy a.dv b.dv with h | h | h
  · rw [cmpI_lt h]; simp [h]
  · rw [h, cmpI_eq]
    rcases Int.lt_trichotomy a.no b.no with k | k | k
    · rw [cmpI_lt k]; simp [k]
    · rw [k, cmpI_eq]; simp
    · rw [cmpI_gt k]; simp; omega
  · rw [cmpI_gt h]; simp; omega

theorem nan_val (x : Int) (w : World) : Calls Try.prog 70 #[.int .i64 x] w fun e w' => e = .returned (.bool false) ∧ w' = w := by
  have h : (x != x) = false := by simp
  go_enter Try.func70, Try.ntmps70
  go_wp2
  go_ret
  exact ⟨rfl, rfl⟩

theorem compare_val (x y : Int) (w : World) : Calls Try.prog 69 #[.int .i64 x, .int .i64 y] w fun e w' => e = .returned (.int .i64 (cmpI x y)) ∧ w' = w := by
  have HN : Hid (∀ z : Int, ∀ W : World, _) := fun z W => nan_val z W
  rcases Int.lt_trichotomy x y with h | h | h
  · have h1 : decide (x < y) = true := decide_eq_true h
    have HV : Hid (cmpI x y = -1) := cmpI_lt h
    clear h
    go_enter Try.func69, Try.ntmps69
    go_wp2_with fail
    refine (HN.out _ _).mono ?_
    rintro e w1 ⟨rfl, rfl⟩
    go_wp2_with fail
    refine (HN.out _ _).mono ?_
    rintro e w1 ⟨rfl, rfl⟩
    go_wp2
    go_ret
    exact ⟨by rw [HV.out] <;> rfl, rfl⟩
  · subst h
    have h1 : decide (x < x) = false := decide_eq_false (by omega)
    have HV : Hid (cmpI x x = 0) := cmpI_eq x
    go_enter Try.func69, Try.ntmps69
    go_wp2_with fail
    refine (HN.out _ _).mono ?_
    rintro e w1 ⟨rfl, rfl⟩
    go_wp2_with fail
    refine (HN.out _ _).mono ?_
    rintro e w1 ⟨rfl, rfl⟩
    go_wp2
    go_ret
    exact ⟨by rw [HV.out] <;> rfl, rfl⟩
  · have h1 : decide (x < y) = false := decide_eq_false (by omega)
    have h2 : decide (y < x) = true := decide_eq_true h
    have HV : Hid (cmpI x y = 1) := cmpI_gt h
    clear h
    go_enter Try.func69, Try.ntmps69
    go_wp2_with fail
    refine (HN.out _ _).mono ?_
    rintro e w1 ⟨rfl, rfl⟩
    go_wp2_with fail
    refine (HN.out _ _).mono ?_
    rintro e w1 ⟨rfl, rfl⟩
    go_wp2
    go_ret
    exact ⟨by rw [HV.out] <;> rfl, rfl⟩

theorem or_val (x y : Int) (b cap : Nat) (w : World) (c0 : w.cell? ⟨b, 0, none⟩ = some (.int .i64 x)) (c1 : w.cell? ⟨b, 1, none⟩ = some (.int .i64 y)) :
    Calls Try.prog 68 #[.slice (some ⟨b, 0, none⟩) 2 cap] w fun e w' => e = .returned (.int .i64 (orI x y)) ∧ w' = w := by
  by_cases h : x = 0
  · subst h
    have HV : Hid (orI 0 y = y) := orI_no y
    go_enter Try.func68, Try.ntmps68
    go_wp2
    go_loop [5, 8] (fun _ i => ∃ k : Nat, k ≤ 2 ∧ i = .int .i64 k ∧ Hid (k = 2 → y = 0)) (fun _ i => 2 - (intOf i).toNat)
    case atStart => exact ⟨0, by omega, rfl, fun h => by omega⟩
    case round =>
      obtain ⟨k, hk, rfl, HK⟩ := hrel
      match k, hk, HK with
      | 0, _, _ =>
        go_wp2
        go_round
        case rel => exact ⟨1, by omega, by go_num, fun h => by omega⟩
        case measure => simp [intOf]
      | 1, _, _ =>
        by_cases h2 : y = 0
        · have d2 : (y != 0) = false := by simp [h2]
          have HY : Hid (y = 0) := h2
          clear h2
          go_wp2
          go_round
          case rel => exact ⟨2, by omega, by go_num, fun _ => HY.out⟩
          case measure => simp [intOf]
        · have d2 : (y != 0) = true := by simp [h2]
          clear h2
          go_wp2
          go_ret
          exact ⟨by rw [HV.out] <;> rfl, rfl⟩
      | 2, _, HK =>
        have HY : Hid (y = 0) := HK.out rfl
        clear HK
        go_wp2
        go_ret
        exact ⟨by rw [HV.out, HY.out] <;> rfl, rfl⟩
  · have HV : Hid (orI x y = x) := orI_yes y h
    have d : (x != 0) = true := by simp [h]
    clear h
    go_enter Try.func68, Try.ntmps68
    go_wp2
    go_loop [5, 8] (fun _ i => i = .int .i64 0) (fun _ i => 2 - (intOf i).toNat)
    case atStart => rfl
    case round =>
      obtain rfl := hrel
      go_wp2
      go_ret
      exact ⟨by rw [HV.out] <;> rfl, rfl⟩

theorem drew_cell {w : World} {b : Nat} {cs : Array Value} {t : TypeId} {f : Nat × Nat} (h : w.heap[b]? = some (.cells cs t f)) (i : Nat) : w.drew.cell? ⟨b, i, none⟩ = cs[i]? := cell_at (w := w.drew) h i

set_option maxHeartbeats 4000000 in
theorem cmpC_val (a b : Ct) (w : World) : Calls Try.prog 57 #[lgV a, lgV b] w fun e w' => e = .returned (.int .i64 (cmpC a b)) ∧ Below w.heap.size w w' := by
  have HC : Hid (∀ x y : Int, ∀ W : World, _) := fun x y W => compare_val x y W
  have HO : Hid (∀ (x y : Int) (b cap : Nat) (W : World), W.cell? ⟨b, 0, none⟩ = some (.int .i64 x) → W.cell? ⟨b, 1, none⟩ = some (.int .i64 y) → _) := fun x y b cap W h k => or_val x y b cap W h k
  have HV : Hid (orI (cmpI a.dv b.dv) (cmpI a.no b.no) = cmpC a b) := rfl
  have h3 := (three_blocks w (.cells #[.int .i64 a.dv, .int .i64 a.no, .int .i64 a.tk, .int .i64 a.tr, .int .i64 a.dy, .int .i64 a.sa] 37) (.cells #[.int .i64 b.dv, .int .i64 b.no, .int .i64 b.tk, .int .i64 b.tr, .int .i64 b.dy, .int .i64 b.sa] 37) (.cells #[.int .i64 (cmpI a.dv b.dv), .int .i64 (cmpI a.no b.no)] 3)).2.2
  have k0 := drew_cell h3 0
  have k1 := drew_cell h3 1
  have N : Below w.heap.size w (((w.alloc (.cells #[.int .i64 a.dv, .int .i64 a.no, .int .i64 a.tk, .int .i64 a.tr, .int .i64 a.dy, .int .i64 a.sa] 37)).alloc (.cells #[.int .i64 b.dv, .int .i64 b.no, .int .i64 b.tk, .int .i64 b.tr, .int .i64 b.dy, .int .i64 b.sa] 37)).alloc (.cells #[.int .i64 (cmpI a.dv b.dv), .int .i64 (cmpI a.no b.no)] 3)).drew := (join_below (join_below (new_below w (.cells #[.int .i64 a.dv, .int .i64 a.no, .int .i64 a.tk, .int .i64 a.tr, .int .i64 a.dy, .int .i64 a.sa] 37)) (new_below _ (.cells #[.int .i64 b.dv, .int .i64 b.no, .int .i64 b.tk, .int .i64 b.tr, .int .i64 b.dy, .int .i64 b.sa] 37))) (new_below _ (.cells #[.int .i64 (cmpI a.dv b.dv), .int .i64 (cmpI a.no b.no)] 3))).drew
  clear h3
  go_enter Try.func57, Try.ntmps57
  go_wp2
  go_region_held3 (fun w' => w'.cell? ⟨w.heap.size, 0, none⟩ = some (.int .i64 a.dv) ∧ w'.cell? ⟨w.heap.size, 1, none⟩ = some (.int .i64 a.no) ∧ w'.cell? ⟨w.heap.size + 1, 0, none⟩ = some (.int .i64 b.dv) ∧ w'.cell? ⟨w.heap.size + 1, 1, none⟩ = some (.int .i64 b.no)) (go_keep) (first
    | (go_at_call 69; (with_reducible refine (HC.out _ _ _).mono ?_); rintro e w1 ⟨rfl, rfl⟩)
    | (go_at_call 68; refine (HO.out (cmpI a.dv b.dv) (cmpI a.no b.no) _ _ _ ?_ ?_).mono ?_; (exact k0); (exact k1); rintro e w1 ⟨rfl, rfl⟩))
  all_goals
    go_wp2
    go_ret
    exact ⟨by rw [← HV.out] <;> rfl, N⟩

theorem before_val (a b : Ct) (w : World) : Calls Try.prog 41 #[lgV a, lgV b] w fun e w' => e = .returned (.bool (ltC a b)) ∧ Below w.heap.size w w' := by
  have N := join_below (new_below w (.cells #[.int .i64 a.dv, .int .i64 a.no, .int .i64 a.tk, .int .i64 a.tr, .int .i64 a.dy, .int .i64 a.sa] 37)) (new_below _ (.cells #[.int .i64 b.dv, .int .i64 b.no, .int .i64 b.tk, .int .i64 b.tr, .int .i64 b.dy, .int .i64 b.sa] 37))
  by_cases h : a.dv = b.dv
  · have d : (a.dv != b.dv) = false := by simp [h]
    have HV : Hid (ltC a b = decide (a.no < b.no)) := by show ltC a b = _; unfold ltC; simp [h]
    clear h
    go_enter Try.func41, Try.ntmps41
    go_wp2
    go_ret
    exact ⟨by rw [HV.out] <;> rfl, N⟩
  · have d : (a.dv != b.dv) = true := by simp [h]
    have HV : Hid (ltC a b = decide (a.dv < b.dv)) := by show ltC a b = _; unfold ltC; simp [h]
    clear h
    go_enter Try.func41, Try.ntmps41
    go_wp2
    go_ret
    exact ⟨by rw [HV.out] <;> rfl, N⟩

end Hn
end Go.Proofs.Ytbmfhdlbbaabgaa

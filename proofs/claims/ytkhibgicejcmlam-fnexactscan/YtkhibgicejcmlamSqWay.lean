/- Contracts of the program's way around the middle, and of Spiral, of the program and of its model. -/
import Derived.Test.YtkhibgicejcmlamSqF
import Derived.Test.YtkhibgicejcmlamSqRow
namespace Go.Proofs.Ytkhibgicejcmlam
namespace Sq
open Go.ChangeShapes Go.WideShapes Go.ChangeAt Go.RowKit
open Pk (Drawn)
set_option linter.unusedSimpArgs false
set_option linter.unusedVariables false

/-- The value of field k of the way. -/
def plV (k : Nat) : Value := .complex .f64 (E (wx k)) (E (wy k))

/-- The way's fields so far. -/
def soFar (k j : Nat) : Value := if j ≤ k then plV j else .complex .f64 0 0

theorem soFar_step (k j : Nat) : soFar (k + 1) j = if j = k + 1 then plV (k + 1) else soFar k j := by
  unfold soFar
  by_cases e : j = k + 1
  · rw [if_pos e, if_pos (by omega), e]
  · rw [if_neg e]
    by_cases h : j ≤ k
    · rw [if_pos h, if_pos (by omega)]
    · rw [if_neg h, if_neg (by omega)]

theorem soFar_zero (j : Nat) : soFar 0 j = .complex .f64 0 0 := by
  unfold soFar
  by_cases h : j ≤ 0
  · rw [if_pos h]
    obtain rfl : j = 0 := by omega
    kernel_rfl
  · rw [if_neg h]

theorem info_place : (Try.prog.info? 56).map (fun i => (i.zero, i.size, i.bytes)) = some (some (.complex .f64 0 0), 1, 16) := by kernel_rfl

theorem way_bd (k : Nat) (h : k ≤ 3720) : -30 ≤ wx k ∧ wx k ≤ 30 ∧ -30 ≤ wy k ∧ wy k ≤ 30 := dist_in (h := 30) (way_dist k 30 (by omega))

set_option maxRecDepth 100000 in
theorem wayOf_val (c : Nat) (w : World) (h1 : 1 ≤ c) (h2 : c ≤ 3721) :
    Calls Try.prog 31 #[.int .i64 c] w fun e w' => e = .returned (.slice (some ⟨w.heap.size, 0, none⟩) c c) ∧ w'.heap[w.heap.size]? = some (.cells (tab c plV) 56) ∧ Below w.heap.size w w' := by
  have hmk := make_run 53 56 _ 16 c Try.underlying53 info_place rfl (by omega) (by omega)
  have m0 := Pk.heap_new w (.cells (tab c (fun _ => .complex .f64 0 0)) 56)
  have N := Pk.new_below w (.cells (tab c (fun _ => .complex .f64 0 0)) 56)
  rw [tab_congr (fun j _ => (soFar_zero j).symm)] at m0 N hmk
  generalize hg : w.heap.size = g at *
  go_enter Try.func31, Try.ntmps31
  go_wp2_with fail
  refine (placeOf_val _ _ _).mono ?_
  rintro e w1 ⟨rfl, rfl⟩
  have e1 : E 1 = stA (dir 0) := by kernel_rfl
  have e0 : E 0 = stB (dir 0) := by kernel_rfl
  rw [e1, e0]
  clear e1 e0
  go_wp2
  go_loopw [4, 5] (fun s i wr => ∃ k : Nat, k + 1 ≤ c ∧ i = .int .i64 ((k : Int) + 1) ∧ s = .complex .f64 (stA (dir k)) (stB (dir k)) ∧ wr.heap[g]? = some (.cells (tab c (soFar k)) 56) ∧ Hid (Below g w wr)) (fun _ i _ => c - (intOf i).toNat)
  case atStart => exact ⟨0, by omega, rfl, rfl, m0, N⟩
  case round =>
    obtain ⟨k, hk, rfl, rfl, m, L⟩ := hrel
    by_cases hlt : k + 1 < c
    · obtain ⟨hx1, hx2, hy1, hy2⟩ := way_bd k (by omega)
      obtain ⟨ux1, ux2, uy1, uy2⟩ := way_bd (k + 1) (by omega)
      have hd4 := dir_lt k
      have hop := fun t w => run_complex_sum (P := Try.prog) w .add (Or.inl rfl) t .f64 _ _ _ _ _ _ (sum_bits (x := wx k) (y := wy k) (i := dir k) (by omega) (by omega) (by omega) (by omega) hd4)
      rw [← (way_step k).1, ← (way_step k).2] at hop
      have hc1 : wr.cell? ⟨g, k, none⟩ = some (.complex .f64 (E (wx k)) (E (wy k))) := by
        rw [row_at m k (by omega)]; unfold soFar; rw [if_pos (Nat.le_refl k)]; rfl
      have hc2 : wr.cell? ⟨g, k + 1, none⟩ = some (.complex .f64 0 0) := by
        rw [row_at m (k + 1) hlt]; unfold soFar; rw [if_neg (by omega)]
      have hfr : wr.frozen? ⟨g, k + 1, none⟩ = false := Pk.frozen_at m (k + 1)
      have m' := row_set m (k + 1) (plV (k + 1)) (f' := soFar (k + 1)) (fun j _ => soFar_step k j)
      have L' : Below g w (wr.setCell ⟨g, k + 1, none⟩ (plV (k + 1))) := L.out.setCell (Nat.le_refl g) _
      have HS : Hid (_) := dir_step k
      have HC : Hid (∀ w, _) := fun w => corner_val _ _ _ _ w (E_int (n := wx (k + 1)) (by omega) (by omega)) (E_int (n := wy (k + 1)) (by omega) (by omega)) (by omega) (by omega) (by omega) (by omega)
      have HL : Hid (∀ w, _) := fun w => toLeft_val (dir k) w hd4
      unfold plV at m' L'
      clear hx1 hx2 hy1 hy2 ux1 ux2 uy1 uy2
      generalize E (wx (k + 1)) = a1 at *
      generalize E (wy (k + 1)) = b1 at *
      generalize E (wx k) = a0 at *
      generalize E (wy k) = b0 at *
      generalize cornerB (wx (k + 1)) (wy (k + 1)) = cb at *
      have hst := fun w a m => run_store Try.prog w a (.complex .f64 a1 b1) m rfl
      go_wp2_with fail
      refine (HC.out _).mono ?_
      rintro e w2 ⟨rfl, rfl⟩
      cases cb
      · have HD : Hid (dir (k + 1) = dir k) := by show _ = _; rw [HS.out, if_neg (by decide)]
        go_wp2
        go_roundw
        case rel => exact ⟨k + 1, by omega, by go_num, by rw [HD.out], m', L'⟩
        case measure => simp [intOf]; omega
      · have HD : Hid (dir (k + 1) = (dir k + 1) % 4) := by show _ = _; rw [HS.out, if_pos rfl]
        go_wp2_with fail
        refine (HL.out _).mono ?_
        rintro e w2 ⟨rfl, rfl⟩
        go_wp2
        go_roundw
        case rel => exact ⟨k + 1, by omega, by go_num, by rw [HD.out], m', L'⟩
        case measure => simp [intOf]; omega
    · obtain rfl : c = k + 1 := by omega
      have hm : tab (k + 1) (soFar k) = tab (k + 1) plV := tab_congr (fun j hj => by unfold soFar; rw [if_pos (by omega)])
      rw [hm] at m
      go_wp2
      go_ret
      exact ⟨rfl, m, L.out⟩

/-- A number lies between two. -/
def inB (x a b : Int) : Bool := decide (a ≤ x ∧ x ≤ b)

theorem between_val (x a b : Int) (w : World) :
    Calls Try.prog 55 #[.int .i64 x, .int .i64 a, .int .i64 b] w fun e w' => e = .returned (.bool (inB x a b)) ∧ w' = w := by
  by_cases h1 : a ≤ x <;> by_cases h2 : x ≤ b
  all_goals
    go_enter Try.func55, Try.ntmps55
    go_wp2
    go_ret
    exact ⟨by simp [inB, h1, h2], rfl⟩

theorem in_val (x a b : Int) (w : World) :
    Calls Try.prog 50 #[.int .i64 x, .int .i64 a, .int .i64 b] w fun e w' => e = .returned (.bool (inB x a b)) ∧ w' = w := by
  by_cases h1 : a ≤ x <;> by_cases h2 : x ≤ b
  all_goals
    go_enter Try.func50, Try.ntmps50
    go_wp2
    go_ret
    exact ⟨by simp [inB, h1, h2], rfl⟩

/-- What Spiral answers. -/
def spX (k : Int) : Int := if 0 ≤ k ∧ k ≤ 3720 then wx k.toNat else -1000

def spY (k : Int) : Int := if 0 ≤ k ∧ k ≤ 3720 then wy k.toNat else -1000

theorem spX_in (n : Nat) (h : n ≤ 3720) : spX n = wx n := by unfold spX; rw [if_pos (by omega), Int.toNat_natCast]

theorem spY_in (n : Nat) (h : n ≤ 3720) : spY n = wy n := by unfold spY; rw [if_pos (by omega), Int.toNat_natCast]

theorem ring_small {d m n : Nat} (hn : n ≤ 3720) (h1 : 1 ≤ d) (h : n = 4 * (d * (d - 1)) + m) : d ≤ 1000 ∧ m ≤ 3720 := by
  have : 1 * (d - 1) ≤ d * (d - 1) := Nat.mul_le_mul_right _ h1
  omega

theorem specSpiral_in (n : Nat) (w : World) (h : n + 1 ≤ 3720) :
    Calls Try.prog 39 #[.int .i64 ((n : Int) + 1)] w fun e w' => e = .returned (.tuple #[.int .i64 (wx (n + 1)), .int .i64 (wy (n + 1))]) ∧ w' = w := by
  have HB : Hid (∀ w, _) := fun w => in_val ((n : Int) + 1) 0 3720 w
  have e1 : inB ((n : Int) + 1) 0 3720 = true := decide_eq_true (by omega)
  rw [e1] at HB
  have HW : Hid (wx (n + 1) = ptX (ring n).1 (ring n).2 ∧ wy (n + 1) = ptY (ring n).1 (ring n).2) := ⟨rfl, rfl⟩
  generalize wx (n + 1) = x at *
  generalize wy (n + 1) = y at *
  have hz : ((n : Int) + 1 == 0) = false := by simp; omega
  clear e1
  go_enter Try.func39, Try.ntmps39
  go_wp2_with fail
  refine (HB.out _).mono ?_
  rintro e w1 ⟨rfl, rfl⟩
  go_wp2
  go_loop [4, 5] (fun d m => ∃ (a b : Nat), 1 ≤ a ∧ a ≤ 1000 ∧ b ≤ 3720 ∧ d = .int .i64 a ∧ m = .int .i64 b ∧ Hid (n = 4 * (a * (a - 1)) + b)) (fun _ m => (intOf m).toNat)
  case atStart => exact ⟨1, n, by omega, by omega, by omega, rfl, by go_num, by show _ = _; simp⟩
  case round =>
    obtain ⟨d, m, h1, h2, h3, rfl, rfl, H⟩ := hrel
    by_cases hm : 8 * d ≤ m
    · obtain ⟨q, hq⟩ : ∃ q, m = 8 * d + q := ⟨m - 8 * d, by omega⟩
      have HN : Hid (n = 4 * ((d + 1) * (d + 1 - 1)) + q) := by
        show _ = _
        rw [Nat.add_sub_cancel, sq_step d h1, H.out, hq]
        omega
      have hb := ring_small (by omega) (by omega) HN.out
      subst hq
      go_wp2
      go_round
      case rel => exact ⟨d + 1, q, by omega, hb.1, hb.2, by go_num, by go_num, HN⟩
      case measure => simp [intOf]; omega
    · have HR := ring_one h1 (by omega) H.out
      rw [HR] at HW
      have HS : Hid (_) := sides (d := d) (n := m) (by omega)
      by_cases k1 : m < 2 * d
      · have hX : Hid (x = d ∧ y = d - 1 - m) := by show _ ∧ _; have := HW.out; have := HS.out; simp only at *; omega
        go_wp2
        refine bodyPost_ret (results_tmp2 rfl _ _ _) rfl ?_
        exact ⟨by rw [hX.out.1, hX.out.2]; rfl, rfl⟩
      · by_cases k2 : m < 4 * d
        · have hX : Hid (x = d - 1 - (m - 2 * d) ∧ y = -d) := by show _ ∧ _; have := HW.out; have := HS.out; simp only at *; omega
          go_wp2
          refine bodyPost_ret (results_tmp2 rfl _ _ _) rfl ?_
          exact ⟨by rw [hX.out.1, hX.out.2]; rfl, rfl⟩
        · by_cases k3 : m < 6 * d
          · have hX : Hid (x = -d ∧ y = -d + 1 + m - 4 * d) := by show _ ∧ _; have := HW.out; have := HS.out; simp only at *; omega
            go_wp2
            refine bodyPost_ret (results_tmp2 rfl _ _ _) rfl ?_
            exact ⟨by rw [hX.out.1, hX.out.2]; rfl, rfl⟩
          · have hX : Hid (x = -d + 1 + m - 6 * d ∧ y = d) := by show _ ∧ _; have := HW.out; have := HS.out; simp only at *; omega
            go_wp2
            refine bodyPost_ret (results_tmp2 rfl _ _ _) rfl ?_
            exact ⟨by rw [hX.out.1, hX.out.2]; rfl, rfl⟩

theorem specSpiral_val (k : Int) (w : World) :
    Calls Try.prog 39 #[.int .i64 k] w fun e w' => e = .returned (.tuple #[.int .i64 (spX k), .int .i64 (spY k)]) ∧ w' = w := by
  by_cases h : 0 ≤ k ∧ k ≤ 3720
  · by_cases h0 : k = 0
    · subst h0
      have HB : Hid (∀ w, _) := fun w => in_val 0 0 3720 w
      have e1 : inB 0 0 3720 = true := rfl
      rw [e1] at HB
      have e2 : spX 0 = 0 := rfl
      have e3 : spY 0 = 0 := rfl
      rw [e2, e3]
      go_enter Try.func39, Try.ntmps39
      go_wp2_with fail
      refine (HB.out _).mono ?_
      rintro e w1 ⟨rfl, rfl⟩
      go_wp2
      refine bodyPost_ret (results_tmp2 rfl _ _ _) rfl ?_
      exact ⟨rfl, rfl⟩
    · obtain ⟨n, rfl⟩ : ∃ n : Nat, k = (n : Int) + 1 := ⟨k.toNat - 1, by omega⟩
      have e2 : spX ((n : Int) + 1) = wx (n + 1) := spX_in (n + 1) (by omega)
      have e3 : spY ((n : Int) + 1) = wy (n + 1) := spY_in (n + 1) (by omega)
      rw [e2, e3]
      exact specSpiral_in n w (by omega)
  · have HB : Hid (∀ w, _) := fun w => in_val k 0 3720 w
    have e1 : inB k 0 3720 = false := decide_eq_false h
    rw [e1] at HB
    unfold spX spY
    rw [if_neg h, if_neg h]
    go_enter Try.func39, Try.ntmps39
    go_wp2_with fail
    refine (HB.out _).mono ?_
    rintro e w1 ⟨rfl, rfl⟩
    go_wp2
    refine bodyPost_ret (results_tmp2 rfl _ _ _) rfl ?_
    exact ⟨rfl, rfl⟩

end Sq
end Go.Proofs.Ytkhibgicejcmlam

/- Marks of holds, replies and rides, from any number on. -/
import Derived.Test.YtehmlnojjfeheaaGreatOfMarkZ
namespace Go.Proofs.YtehmlnojjfeheaaGreat
namespace Of
open Go.ChangeShapes Go.WideShapes Go.ChangeAt Go.RowKit
open Pk (new_below join_below cell_at heap_new frozen_at lt_of kept heap_old info_of Room)
set_option linter.unusedSimpArgs false
set_option linter.unusedVariables false
open Tn (Band)

/-- The marks of n records in block g, from z on. -/
def MarkedH (w : World) (g n : Nat) (z : Int) : Prop := ∀ i, i < n → w.cell? ⟨g, i * 7, none⟩ = some (.int .i64 (z + 7 * (i : Int))) ∧ w.cell? ⟨g, i * 7 + 1, none⟩ = some (.int .i64 (z + 7 * (i : Int) + 1)) ∧ w.cell? ⟨g, i * 7 + 2, none⟩ = some (.int .i64 (z + 7 * (i : Int) + 2)) ∧ w.cell? ⟨g, i * 7 + 3, none⟩ = some (.int .i64 (z + 7 * (i : Int) + 3)) ∧ w.cell? ⟨g, i * 7 + 4, none⟩ = some (.int .i64 (z + 7 * (i : Int) + 4)) ∧ w.cell? ⟨g, i * 7 + 5, none⟩ = some (.int .i64 (z + 7 * (i : Int) + 5)) ∧ w.cell? ⟨g, i * 7 + 6, none⟩ = some (.int .i64 (z + 7 * (i : Int) + 6))

theorem MarkedH.on {w w1 : World} {g n B : Nat} {z : Int} (h : MarkedH w g n z) (L : Below B w w1) (hg : g < B) : MarkedH w1 g n z := by
  intro i hi
  rw [L.cell (p := ⟨g, i * 7, none⟩) hg, L.cell (p := ⟨g, i * 7 + 1, none⟩) hg, L.cell (p := ⟨g, i * 7 + 2, none⟩) hg, L.cell (p := ⟨g, i * 7 + 3, none⟩) hg, L.cell (p := ⟨g, i * 7 + 4, none⟩) hg, L.cell (p := ⟨g, i * 7 + 5, none⟩) hg, L.cell (p := ⟨g, i * 7 + 6, none⟩) hg]
  exact h i hi

theorem MarkedH.step {w : World} {g n k : Nat} {z : Int} (h : MarkedH w g k z) (R : Room w g (n * 7)) (hk : k < n) : MarkedH (((((((w.setCell ⟨g, k * 7, none⟩ (.int .i64 (z + 7 * (k : Int)))).setCell ⟨g, k * 7 + 1, none⟩ (.int .i64 (z + 7 * (k : Int) + 1))).setCell ⟨g, k * 7 + 2, none⟩ (.int .i64 (z + 7 * (k : Int) + 2))).setCell ⟨g, k * 7 + 3, none⟩ (.int .i64 (z + 7 * (k : Int) + 3))).setCell ⟨g, k * 7 + 4, none⟩ (.int .i64 (z + 7 * (k : Int) + 4))).setCell ⟨g, k * 7 + 5, none⟩ (.int .i64 (z + 7 * (k : Int) + 5))).setCell ⟨g, k * 7 + 6, none⟩ (.int .i64 (z + 7 * (k : Int) + 6))) g (k + 1) z := by
  intro i hi
  by_cases e : i = k
  · subst e
    obtain ⟨⟨v0, e0⟩, -⟩ := R (i * 7) (by omega)
    obtain ⟨⟨v1, e1⟩, -⟩ := R (i * 7 + 1) (by omega)
    obtain ⟨⟨v2, e2⟩, -⟩ := R (i * 7 + 2) (by omega)
    obtain ⟨⟨v3, e3⟩, -⟩ := R (i * 7 + 3) (by omega)
    obtain ⟨⟨v4, e4⟩, -⟩ := R (i * 7 + 4) (by omega)
    obtain ⟨⟨v5, e5⟩, -⟩ := R (i * 7 + 5) (by omega)
    obtain ⟨⟨v6, e6⟩, -⟩ := R (i * 7 + 6) (by omega)
    rw [Tn.set_cell (Tn.set_cell (Tn.set_cell (Tn.set_cell (Tn.set_cell (Tn.set_cell (Tn.set_cell (e0))))))), Tn.set_cell (Tn.set_cell (Tn.set_cell (Tn.set_cell (Tn.set_cell (Tn.set_cell (Tn.set_cell (e1))))))), Tn.set_cell (Tn.set_cell (Tn.set_cell (Tn.set_cell (Tn.set_cell (Tn.set_cell (Tn.set_cell (e2))))))), Tn.set_cell (Tn.set_cell (Tn.set_cell (Tn.set_cell (Tn.set_cell (Tn.set_cell (Tn.set_cell (e3))))))), Tn.set_cell (Tn.set_cell (Tn.set_cell (Tn.set_cell (Tn.set_cell (Tn.set_cell (Tn.set_cell (e4))))))), Tn.set_cell (Tn.set_cell (Tn.set_cell (Tn.set_cell (Tn.set_cell (Tn.set_cell (Tn.set_cell (e5))))))), Tn.set_cell (Tn.set_cell (Tn.set_cell (Tn.set_cell (Tn.set_cell (Tn.set_cell (Tn.set_cell (e6)))))))]
    simp
  · obtain ⟨e0, e1, e2, e3, e4, e5, e6⟩ := h i (by omega)
    rw [Tn.set_cell (Tn.set_cell (Tn.set_cell (Tn.set_cell (Tn.set_cell (Tn.set_cell (Tn.set_cell (e0))))))), Tn.set_cell (Tn.set_cell (Tn.set_cell (Tn.set_cell (Tn.set_cell (Tn.set_cell (Tn.set_cell (e1))))))), Tn.set_cell (Tn.set_cell (Tn.set_cell (Tn.set_cell (Tn.set_cell (Tn.set_cell (Tn.set_cell (e2))))))), Tn.set_cell (Tn.set_cell (Tn.set_cell (Tn.set_cell (Tn.set_cell (Tn.set_cell (Tn.set_cell (e3))))))), Tn.set_cell (Tn.set_cell (Tn.set_cell (Tn.set_cell (Tn.set_cell (Tn.set_cell (Tn.set_cell (e4))))))), Tn.set_cell (Tn.set_cell (Tn.set_cell (Tn.set_cell (Tn.set_cell (Tn.set_cell (Tn.set_cell (e5))))))), Tn.set_cell (Tn.set_cell (Tn.set_cell (Tn.set_cell (Tn.set_cell (Tn.set_cell (Tn.set_cell (e6)))))))]
    rw [if_neg (by omega), if_neg (by omega), if_neg (by omega), if_neg (by omega), if_neg (by omega), if_neg (by omega), if_neg (by omega), if_neg (by omega), if_neg (by omega), if_neg (by omega), if_neg (by omega), if_neg (by omega), if_neg (by omega), if_neg (by omega), if_neg (by omega), if_neg (by omega), if_neg (by omega), if_neg (by omega), if_neg (by omega), if_neg (by omega), if_neg (by omega), if_neg (by omega), if_neg (by omega), if_neg (by omega), if_neg (by omega), if_neg (by omega), if_neg (by omega), if_neg (by omega), if_neg (by omega), if_neg (by omega), if_neg (by omega), if_neg (by omega), if_neg (by omega), if_neg (by omega), if_neg (by omega), if_neg (by omega), if_neg (by omega), if_neg (by omega), if_neg (by omega), if_neg (by omega), if_neg (by omega), if_neg (by omega), if_neg (by omega), if_neg (by omega), if_neg (by omega), if_neg (by omega), if_neg (by omega), if_neg (by omega), if_neg (by omega)]
    exact ⟨rfl, rfl, rfl, rfl, rfl, rfl, rfl⟩

set_option maxHeartbeats 2000000 in
theorem markHoldS_z (a : Option Addr) (g n cap : Nat) (z : Int) (w : World) (hn : n ≤ 1048576) (hz : 0 ≤ z) (hz2 : z ≤ 1152921504606846976) (h : n = 0 ∨ (a = some ⟨g, 0, none⟩ ∧ Room w g (n * 7))) :
    Calls Tryz.prog 34 #[.slice a n cap, .int .i64 z] w fun e w' => e = .returned (.int .i64 (z + 7 * (n : Int))) ∧ Band g (g + 1) w w' ∧ MarkedH w' g n z ∧ ∀ m, Room w g m → Room w' g m := by
  have HR : Hid (0 < n → a = some ⟨g, 0, none⟩ ∧ Room w g (n * 7)) := fun h0 => h.resolve_left (by omega)
  clear h
  go_enter Tryz.func34, Tryz.ntmps34
  go_wp2
  go_loopw [1, 5] (fun t i wr => ∃ k : Nat, k ≤ n ∧ i = .int .i64 k ∧ t = .int .i64 (z + 7 * (k : Int)) ∧ Band g (g + 1) w wr ∧ Hid (∀ m, Room w g m → Room wr g m) ∧ Hid (MarkedH wr g k z) ∧ Hid (0 < n → a = some ⟨g, 0, none⟩ ∧ Room wr g (n * 7))) (fun _ i _ => n - (intOf i).toNat)
  case atStart => exact ⟨0, by omega, rfl, by simp, Band.refl _ _ _, fun m h => h, fun i hi => by omega, HR⟩
  case round =>
    obtain ⟨k, hk, rfl, rfl, L, RM, M, RR⟩ := hrel
    by_cases hkn : k < n
    · obtain ⟨rfl, R⟩ := RR.out (by omega)
      have HM : Hid (_) := M.out.step R hkn
      have HQ : Hid (_) := (((((((R).set g (k * 7) (.int .i64 (z + 7 * (k : Int)))).set g (k * 7 + 1) (.int .i64 (z + 7 * (k : Int) + 1))).set g (k * 7 + 2) (.int .i64 (z + 7 * (k : Int) + 2))).set g (k * 7 + 3) (.int .i64 (z + 7 * (k : Int) + 3))).set g (k * 7 + 4) (.int .i64 (z + 7 * (k : Int) + 4))).set g (k * 7 + 5) (.int .i64 (z + 7 * (k : Int) + 5))).set g (k * 7 + 6) (.int .i64 (z + 7 * (k : Int) + 6))
      have HX : Hid (∀ m, Room w g m → _) := fun m h => (((((((RM.out m h).set g (k * 7) (.int .i64 (z + 7 * (k : Int)))).set g (k * 7 + 1) (.int .i64 (z + 7 * (k : Int) + 1))).set g (k * 7 + 2) (.int .i64 (z + 7 * (k : Int) + 2))).set g (k * 7 + 3) (.int .i64 (z + 7 * (k : Int) + 3))).set g (k * 7 + 4) (.int .i64 (z + 7 * (k : Int) + 4))).set g (k * 7 + 5) (.int .i64 (z + 7 * (k : Int) + 5))).set g (k * 7 + 6) (.int .i64 (z + 7 * (k : Int) + 6))
      have L3 := (((((((L).set (i := k * 7) (Nat.le_refl g) (by omega) (.int .i64 (z + 7 * (k : Int)))).set (i := k * 7 + 1) (Nat.le_refl g) (by omega) (.int .i64 (z + 7 * (k : Int) + 1))).set (i := k * 7 + 2) (Nat.le_refl g) (by omega) (.int .i64 (z + 7 * (k : Int) + 2))).set (i := k * 7 + 3) (Nat.le_refl g) (by omega) (.int .i64 (z + 7 * (k : Int) + 3))).set (i := k * 7 + 4) (Nat.le_refl g) (by omega) (.int .i64 (z + 7 * (k : Int) + 4))).set (i := k * 7 + 5) (Nat.le_refl g) (by omega) (.int .i64 (z + 7 * (k : Int) + 5))).set (i := k * 7 + 6) (Nat.le_refl g) (by omega) (.int .i64 (z + 7 * (k : Int) + 6))
      obtain ⟨⟨v0, f0⟩, z0⟩ := R (k * 7) (by omega)
      obtain ⟨⟨v1, f1⟩, z1⟩ := R (k * 7 + 1) (by omega)
      obtain ⟨⟨v2, f2⟩, z2⟩ := R (k * 7 + 2) (by omega)
      obtain ⟨⟨v3, f3⟩, z3⟩ := R (k * 7 + 3) (by omega)
      obtain ⟨⟨v4, f4⟩, z4⟩ := R (k * 7 + 4) (by omega)
      obtain ⟨⟨v5, f5⟩, z5⟩ := R (k * 7 + 5) (by omega)
      obtain ⟨⟨v6, f6⟩, z6⟩ := R (k * 7 + 6) (by omega)
      have e2 : z + 7 * (k : Int) + 1 + 1 = z + 7 * (k : Int) + 2 := by omega
      have e3 : z + 7 * (k : Int) + 2 + 1 = z + 7 * (k : Int) + 3 := by omega
      have e4 : z + 7 * (k : Int) + 3 + 1 = z + 7 * (k : Int) + 4 := by omega
      have e5 : z + 7 * (k : Int) + 4 + 1 = z + 7 * (k : Int) + 5 := by omega
      have e6 : z + 7 * (k : Int) + 5 + 1 = z + 7 * (k : Int) + 6 := by omega
      have e7 : z + 7 * (k : Int) + 6 + 1 = z + 7 * (k : Int) + 7 := by omega
      clear R M RR HR
      go_wp2
      go_roundw
      case rel => exact ⟨k + 1, by omega, by go_num, by go_num, L3, HX, HM, fun _ => ⟨by simp, HQ.out⟩⟩
      case measure => simp [intOf]; omega
    · obtain rfl : k = n := by omega
      go_wp2
      go_ret
      exact ⟨rfl, L, M.out, RM.out⟩

set_option maxHeartbeats 2000000 in
theorem heldHoldS_z (a : Option Addr) (g n cap : Nat) (z : Int) (w : World) (hn : n ≤ 1048576) (hz : 0 ≤ z) (hz2 : z ≤ 1152921504606846976) (h : n = 0 ∨ a = some ⟨g, 0, none⟩) (M : MarkedH w g n z) :
    Calls Tryz.prog 68 #[.slice a n cap, .int .i64 z] w fun e w' => e = .returned (.int .i64 (z + 7 * (n : Int))) ∧ w' = w := by
  have HA : Hid (0 < n → a = some ⟨g, 0, none⟩) := fun h0 => h.resolve_left (by omega)
  have HM : Hid (_) := M
  clear h M
  go_enter Tryz.func68, Tryz.ntmps68
  go_wp2
  go_loop [1, 5] (fun t i => ∃ k : Nat, k ≤ n ∧ i = .int .i64 k ∧ t = .int .i64 (z + 7 * (k : Int))) (fun _ i => n - (intOf i).toNat)
  case atStart => exact ⟨0, by omega, rfl, by simp⟩
  case round =>
    obtain ⟨k, hk, rfl, rfl⟩ := hrel
    by_cases hkn : k < n
    · obtain rfl := HA.out (by omega)
      obtain ⟨c0, c1, c2, c3, c4, c5, c6⟩ := HM.out k hkn
      have e2 : z + 7 * (k : Int) + 1 + 1 = z + 7 * (k : Int) + 2 := by omega
      have e3 : z + 7 * (k : Int) + 2 + 1 = z + 7 * (k : Int) + 3 := by omega
      have e4 : z + 7 * (k : Int) + 3 + 1 = z + 7 * (k : Int) + 4 := by omega
      have e5 : z + 7 * (k : Int) + 4 + 1 = z + 7 * (k : Int) + 5 := by omega
      have e6 : z + 7 * (k : Int) + 5 + 1 = z + 7 * (k : Int) + 6 := by omega
      have e7 : z + 7 * (k : Int) + 6 + 1 = z + 7 * (k : Int) + 7 := by omega
      go_wp2
      go_round
      case rel => exact ⟨k + 1, by omega, by go_num, by go_num⟩
      case measure => simp [intOf]; omega
    · obtain rfl : k = n := by omega
      go_wp2
      go_ret
      exact ⟨rfl, rfl⟩

/-- The marks of n records in block g, from z on. -/
def MarkedR (w : World) (g n : Nat) (z : Int) : Prop := ∀ i, i < n → w.cell? ⟨g, i * 4, none⟩ = some (.int .i64 (z + 4 * (i : Int))) ∧ w.cell? ⟨g, i * 4 + 1, none⟩ = some (.int .i64 (z + 4 * (i : Int) + 1)) ∧ w.cell? ⟨g, i * 4 + 2, none⟩ = some (.int .i64 (z + 4 * (i : Int) + 2)) ∧ w.cell? ⟨g, i * 4 + 3, none⟩ = some (.int .i64 (z + 4 * (i : Int) + 3))

theorem MarkedR.on {w w1 : World} {g n B : Nat} {z : Int} (h : MarkedR w g n z) (L : Below B w w1) (hg : g < B) : MarkedR w1 g n z := by
  intro i hi
  rw [L.cell (p := ⟨g, i * 4, none⟩) hg, L.cell (p := ⟨g, i * 4 + 1, none⟩) hg, L.cell (p := ⟨g, i * 4 + 2, none⟩) hg, L.cell (p := ⟨g, i * 4 + 3, none⟩) hg]
  exact h i hi

theorem MarkedR.step {w : World} {g n k : Nat} {z : Int} (h : MarkedR w g k z) (R : Room w g (n * 4)) (hk : k < n) : MarkedR ((((w.setCell ⟨g, k * 4, none⟩ (.int .i64 (z + 4 * (k : Int)))).setCell ⟨g, k * 4 + 1, none⟩ (.int .i64 (z + 4 * (k : Int) + 1))).setCell ⟨g, k * 4 + 2, none⟩ (.int .i64 (z + 4 * (k : Int) + 2))).setCell ⟨g, k * 4 + 3, none⟩ (.int .i64 (z + 4 * (k : Int) + 3))) g (k + 1) z := by
  intro i hi
  by_cases e : i = k
  · subst e
    obtain ⟨⟨v0, e0⟩, -⟩ := R (i * 4) (by omega)
    obtain ⟨⟨v1, e1⟩, -⟩ := R (i * 4 + 1) (by omega)
    obtain ⟨⟨v2, e2⟩, -⟩ := R (i * 4 + 2) (by omega)
    obtain ⟨⟨v3, e3⟩, -⟩ := R (i * 4 + 3) (by omega)
    rw [Tn.set_cell (Tn.set_cell (Tn.set_cell (Tn.set_cell (e0)))), Tn.set_cell (Tn.set_cell (Tn.set_cell (Tn.set_cell (e1)))), Tn.set_cell (Tn.set_cell (Tn.set_cell (Tn.set_cell (e2)))), Tn.set_cell (Tn.set_cell (Tn.set_cell (Tn.set_cell (e3))))]
    simp
  · obtain ⟨e0, e1, e2, e3⟩ := h i (by omega)
    rw [Tn.set_cell (Tn.set_cell (Tn.set_cell (Tn.set_cell (e0)))), Tn.set_cell (Tn.set_cell (Tn.set_cell (Tn.set_cell (e1)))), Tn.set_cell (Tn.set_cell (Tn.set_cell (Tn.set_cell (e2)))), Tn.set_cell (Tn.set_cell (Tn.set_cell (Tn.set_cell (e3))))]
    rw [if_neg (by omega), if_neg (by omega), if_neg (by omega), if_neg (by omega), if_neg (by omega), if_neg (by omega), if_neg (by omega), if_neg (by omega), if_neg (by omega), if_neg (by omega), if_neg (by omega), if_neg (by omega), if_neg (by omega), if_neg (by omega), if_neg (by omega), if_neg (by omega)]
    exact ⟨rfl, rfl, rfl, rfl⟩

set_option maxHeartbeats 2000000 in
theorem markReplyS_z (a : Option Addr) (g n cap : Nat) (z : Int) (w : World) (hn : n ≤ 1048576) (hz : 0 ≤ z) (hz2 : z ≤ 1152921504606846976) (h : n = 0 ∨ (a = some ⟨g, 0, none⟩ ∧ Room w g (n * 4))) :
    Calls Tryz.prog 36 #[.slice a n cap, .int .i64 z] w fun e w' => e = .returned (.int .i64 (z + 4 * (n : Int))) ∧ Band g (g + 1) w w' ∧ MarkedR w' g n z ∧ ∀ m, Room w g m → Room w' g m := by
  have HR : Hid (0 < n → a = some ⟨g, 0, none⟩ ∧ Room w g (n * 4)) := fun h0 => h.resolve_left (by omega)
  clear h
  go_enter Tryz.func36, Tryz.ntmps36
  go_wp2
  go_loopw [1, 5] (fun t i wr => ∃ k : Nat, k ≤ n ∧ i = .int .i64 k ∧ t = .int .i64 (z + 4 * (k : Int)) ∧ Band g (g + 1) w wr ∧ Hid (∀ m, Room w g m → Room wr g m) ∧ Hid (MarkedR wr g k z) ∧ Hid (0 < n → a = some ⟨g, 0, none⟩ ∧ Room wr g (n * 4))) (fun _ i _ => n - (intOf i).toNat)
  case atStart => exact ⟨0, by omega, rfl, by simp, Band.refl _ _ _, fun m h => h, fun i hi => by omega, HR⟩
  case round =>
    obtain ⟨k, hk, rfl, rfl, L, RM, M, RR⟩ := hrel
    by_cases hkn : k < n
    · obtain ⟨rfl, R⟩ := RR.out (by omega)
      have HM : Hid (_) := M.out.step R hkn
      have HQ : Hid (_) := ((((R).set g (k * 4) (.int .i64 (z + 4 * (k : Int)))).set g (k * 4 + 1) (.int .i64 (z + 4 * (k : Int) + 1))).set g (k * 4 + 2) (.int .i64 (z + 4 * (k : Int) + 2))).set g (k * 4 + 3) (.int .i64 (z + 4 * (k : Int) + 3))
      have HX : Hid (∀ m, Room w g m → _) := fun m h => ((((RM.out m h).set g (k * 4) (.int .i64 (z + 4 * (k : Int)))).set g (k * 4 + 1) (.int .i64 (z + 4 * (k : Int) + 1))).set g (k * 4 + 2) (.int .i64 (z + 4 * (k : Int) + 2))).set g (k * 4 + 3) (.int .i64 (z + 4 * (k : Int) + 3))
      have L3 := ((((L).set (i := k * 4) (Nat.le_refl g) (by omega) (.int .i64 (z + 4 * (k : Int)))).set (i := k * 4 + 1) (Nat.le_refl g) (by omega) (.int .i64 (z + 4 * (k : Int) + 1))).set (i := k * 4 + 2) (Nat.le_refl g) (by omega) (.int .i64 (z + 4 * (k : Int) + 2))).set (i := k * 4 + 3) (Nat.le_refl g) (by omega) (.int .i64 (z + 4 * (k : Int) + 3))
      obtain ⟨⟨v0, f0⟩, z0⟩ := R (k * 4) (by omega)
      obtain ⟨⟨v1, f1⟩, z1⟩ := R (k * 4 + 1) (by omega)
      obtain ⟨⟨v2, f2⟩, z2⟩ := R (k * 4 + 2) (by omega)
      obtain ⟨⟨v3, f3⟩, z3⟩ := R (k * 4 + 3) (by omega)
      have e2 : z + 4 * (k : Int) + 1 + 1 = z + 4 * (k : Int) + 2 := by omega
      have e3 : z + 4 * (k : Int) + 2 + 1 = z + 4 * (k : Int) + 3 := by omega
      have e4 : z + 4 * (k : Int) + 3 + 1 = z + 4 * (k : Int) + 4 := by omega
      clear R M RR HR
      go_wp2
      go_roundw
      case rel => exact ⟨k + 1, by omega, by go_num, by go_num, L3, HX, HM, fun _ => ⟨by simp, HQ.out⟩⟩
      case measure => simp [intOf]; omega
    · obtain rfl : k = n := by omega
      go_wp2
      go_ret
      exact ⟨rfl, L, M.out, RM.out⟩

set_option maxHeartbeats 2000000 in
theorem heldReplyS_z (a : Option Addr) (g n cap : Nat) (z : Int) (w : World) (hn : n ≤ 1048576) (hz : 0 ≤ z) (hz2 : z ≤ 1152921504606846976) (h : n = 0 ∨ a = some ⟨g, 0, none⟩) (M : MarkedR w g n z) :
    Calls Tryz.prog 70 #[.slice a n cap, .int .i64 z] w fun e w' => e = .returned (.int .i64 (z + 4 * (n : Int))) ∧ w' = w := by
  have HA : Hid (0 < n → a = some ⟨g, 0, none⟩) := fun h0 => h.resolve_left (by omega)
  have HM : Hid (_) := M
  clear h M
  go_enter Tryz.func70, Tryz.ntmps70
  go_wp2
  go_loop [1, 5] (fun t i => ∃ k : Nat, k ≤ n ∧ i = .int .i64 k ∧ t = .int .i64 (z + 4 * (k : Int))) (fun _ i => n - (intOf i).toNat)
  case atStart => exact ⟨0, by omega, rfl, by simp⟩
  case round =>
    obtain ⟨k, hk, rfl, rfl⟩ := hrel
    by_cases hkn : k < n
    · obtain rfl := HA.out (by omega)
      obtain ⟨c0, c1, c2, c3⟩ := HM.out k hkn
      have e2 : z + 4 * (k : Int) + 1 + 1 = z + 4 * (k : Int) + 2 := by omega
      have e3 : z + 4 * (k : Int) + 2 + 1 = z + 4 * (k : Int) + 3 := by omega
      have e4 : z + 4 * (k : Int) + 3 + 1 = z + 4 * (k : Int) + 4 := by omega
      go_wp2
      go_round
      case rel => exact ⟨k + 1, by omega, by go_num, by go_num⟩
      case measure => simp [intOf]; omega
    · obtain rfl : k = n := by omega
      go_wp2
      go_ret
      exact ⟨rfl, rfl⟩

/-- The marks of n records in block g, from z on. -/
def MarkedD (w : World) (g n : Nat) (z : Int) : Prop := ∀ i, i < n → w.cell? ⟨g, i * 4, none⟩ = some (.int .i64 (z + 4 * (i : Int))) ∧ w.cell? ⟨g, i * 4 + 1, none⟩ = some (.int .i64 (z + 4 * (i : Int) + 1)) ∧ w.cell? ⟨g, i * 4 + 2, none⟩ = some (.int .i64 (z + 4 * (i : Int) + 2)) ∧ w.cell? ⟨g, i * 4 + 3, none⟩ = some (.int .i64 (z + 4 * (i : Int) + 3))

theorem MarkedD.on {w w1 : World} {g n B : Nat} {z : Int} (h : MarkedD w g n z) (L : Below B w w1) (hg : g < B) : MarkedD w1 g n z := by
  intro i hi
  rw [L.cell (p := ⟨g, i * 4, none⟩) hg, L.cell (p := ⟨g, i * 4 + 1, none⟩) hg, L.cell (p := ⟨g, i * 4 + 2, none⟩) hg, L.cell (p := ⟨g, i * 4 + 3, none⟩) hg]
  exact h i hi

theorem MarkedD.step {w : World} {g n k : Nat} {z : Int} (h : MarkedD w g k z) (R : Room w g (n * 4)) (hk : k < n) : MarkedD ((((w.setCell ⟨g, k * 4, none⟩ (.int .i64 (z + 4 * (k : Int)))).setCell ⟨g, k * 4 + 1, none⟩ (.int .i64 (z + 4 * (k : Int) + 1))).setCell ⟨g, k * 4 + 2, none⟩ (.int .i64 (z + 4 * (k : Int) + 2))).setCell ⟨g, k * 4 + 3, none⟩ (.int .i64 (z + 4 * (k : Int) + 3))) g (k + 1) z := by
  intro i hi
  by_cases e : i = k
  · subst e
    obtain ⟨⟨v0, e0⟩, -⟩ := R (i * 4) (by omega)
    obtain ⟨⟨v1, e1⟩, -⟩ := R (i * 4 + 1) (by omega)
    obtain ⟨⟨v2, e2⟩, -⟩ := R (i * 4 + 2) (by omega)
    obtain ⟨⟨v3, e3⟩, -⟩ := R (i * 4 + 3) (by omega)
    rw [Tn.set_cell (Tn.set_cell (Tn.set_cell (Tn.set_cell (e0)))), Tn.set_cell (Tn.set_cell (Tn.set_cell (Tn.set_cell (e1)))), Tn.set_cell (Tn.set_cell (Tn.set_cell (Tn.set_cell (e2)))), Tn.set_cell (Tn.set_cell (Tn.set_cell (Tn.set_cell (e3))))]
    simp
  · obtain ⟨e0, e1, e2, e3⟩ := h i (by omega)
    rw [Tn.set_cell (Tn.set_cell (Tn.set_cell (Tn.set_cell (e0)))), Tn.set_cell (Tn.set_cell (Tn.set_cell (Tn.set_cell (e1)))), Tn.set_cell (Tn.set_cell (Tn.set_cell (Tn.set_cell (e2)))), Tn.set_cell (Tn.set_cell (Tn.set_cell (Tn.set_cell (e3))))]
    rw [if_neg (by omega), if_neg (by omega), if_neg (by omega), if_neg (by omega), if_neg (by omega), if_neg (by omega), if_neg (by omega), if_neg (by omega), if_neg (by omega), if_neg (by omega), if_neg (by omega), if_neg (by omega), if_neg (by omega), if_neg (by omega), if_neg (by omega), if_neg (by omega)]
    exact ⟨rfl, rfl, rfl, rfl⟩

set_option maxHeartbeats 2000000 in
theorem markRideS_z (a : Option Addr) (g n cap : Nat) (z : Int) (w : World) (hn : n ≤ 1048576) (hz : 0 ≤ z) (hz2 : z ≤ 1152921504606846976) (h : n = 0 ∨ (a = some ⟨g, 0, none⟩ ∧ Room w g (n * 4))) :
    Calls Tryz.prog 65 #[.slice a n cap, .int .i64 z] w fun e w' => e = .returned (.int .i64 (z + 4 * (n : Int))) ∧ Band g (g + 1) w w' ∧ MarkedD w' g n z ∧ ∀ m, Room w g m → Room w' g m := by
  have HR : Hid (0 < n → a = some ⟨g, 0, none⟩ ∧ Room w g (n * 4)) := fun h0 => h.resolve_left (by omega)
  clear h
  go_enter Tryz.func65, Tryz.ntmps65
  go_wp2
  go_loopw [1, 5] (fun t i wr => ∃ k : Nat, k ≤ n ∧ i = .int .i64 k ∧ t = .int .i64 (z + 4 * (k : Int)) ∧ Band g (g + 1) w wr ∧ Hid (∀ m, Room w g m → Room wr g m) ∧ Hid (MarkedD wr g k z) ∧ Hid (0 < n → a = some ⟨g, 0, none⟩ ∧ Room wr g (n * 4))) (fun _ i _ => n - (intOf i).toNat)
  case atStart => exact ⟨0, by omega, rfl, by simp, Band.refl _ _ _, fun m h => h, fun i hi => by omega, HR⟩
  case round =>
    obtain ⟨k, hk, rfl, rfl, L, RM, M, RR⟩ := hrel
    by_cases hkn : k < n
    · obtain ⟨rfl, R⟩ := RR.out (by omega)
      have HM : Hid (_) := M.out.step R hkn
      have HQ : Hid (_) := ((((R).set g (k * 4) (.int .i64 (z + 4 * (k : Int)))).set g (k * 4 + 1) (.int .i64 (z + 4 * (k : Int) + 1))).set g (k * 4 + 2) (.int .i64 (z + 4 * (k : Int) + 2))).set g (k * 4 + 3) (.int .i64 (z + 4 * (k : Int) + 3))
      have HX : Hid (∀ m, Room w g m → _) := fun m h => ((((RM.out m h).set g (k * 4) (.int .i64 (z + 4 * (k : Int)))).set g (k * 4 + 1) (.int .i64 (z + 4 * (k : Int) + 1))).set g (k * 4 + 2) (.int .i64 (z + 4 * (k : Int) + 2))).set g (k * 4 + 3) (.int .i64 (z + 4 * (k : Int) + 3))
      have L3 := ((((L).set (i := k * 4) (Nat.le_refl g) (by omega) (.int .i64 (z + 4 * (k : Int)))).set (i := k * 4 + 1) (Nat.le_refl g) (by omega) (.int .i64 (z + 4 * (k : Int) + 1))).set (i := k * 4 + 2) (Nat.le_refl g) (by omega) (.int .i64 (z + 4 * (k : Int) + 2))).set (i := k * 4 + 3) (Nat.le_refl g) (by omega) (.int .i64 (z + 4 * (k : Int) + 3))
      obtain ⟨⟨v0, f0⟩, z0⟩ := R (k * 4) (by omega)
      obtain ⟨⟨v1, f1⟩, z1⟩ := R (k * 4 + 1) (by omega)
      obtain ⟨⟨v2, f2⟩, z2⟩ := R (k * 4 + 2) (by omega)
      obtain ⟨⟨v3, f3⟩, z3⟩ := R (k * 4 + 3) (by omega)
      have e2 : z + 4 * (k : Int) + 1 + 1 = z + 4 * (k : Int) + 2 := by omega
      have e3 : z + 4 * (k : Int) + 2 + 1 = z + 4 * (k : Int) + 3 := by omega
      have e4 : z + 4 * (k : Int) + 3 + 1 = z + 4 * (k : Int) + 4 := by omega
      clear R M RR HR
      go_wp2
      go_roundw
      case rel => exact ⟨k + 1, by omega, by go_num, by go_num, L3, HX, HM, fun _ => ⟨by simp, HQ.out⟩⟩
      case measure => simp [intOf]; omega
    · obtain rfl : k = n := by omega
      go_wp2
      go_ret
      exact ⟨rfl, L, M.out, RM.out⟩

set_option maxHeartbeats 2000000 in
theorem heldRideS_z (a : Option Addr) (g n cap : Nat) (z : Int) (w : World) (hn : n ≤ 1048576) (hz : 0 ≤ z) (hz2 : z ≤ 1152921504606846976) (h : n = 0 ∨ a = some ⟨g, 0, none⟩) (M : MarkedD w g n z) :
    Calls Tryz.prog 94 #[.slice a n cap, .int .i64 z] w fun e w' => e = .returned (.int .i64 (z + 4 * (n : Int))) ∧ w' = w := by
  have HA : Hid (0 < n → a = some ⟨g, 0, none⟩) := fun h0 => h.resolve_left (by omega)
  have HM : Hid (_) := M
  clear h M
  go_enter Tryz.func94, Tryz.ntmps94
  go_wp2
  go_loop [1, 5] (fun t i => ∃ k : Nat, k ≤ n ∧ i = .int .i64 k ∧ t = .int .i64 (z + 4 * (k : Int))) (fun _ i => n - (intOf i).toNat)
  case atStart => exact ⟨0, by omega, rfl, by simp⟩
  case round =>
    obtain ⟨k, hk, rfl, rfl⟩ := hrel
    by_cases hkn : k < n
    · obtain rfl := HA.out (by omega)
      obtain ⟨c0, c1, c2, c3⟩ := HM.out k hkn
      have e2 : z + 4 * (k : Int) + 1 + 1 = z + 4 * (k : Int) + 2 := by omega
      have e3 : z + 4 * (k : Int) + 2 + 1 = z + 4 * (k : Int) + 3 := by omega
      have e4 : z + 4 * (k : Int) + 3 + 1 = z + 4 * (k : Int) + 4 := by omega
      go_wp2
      go_round
      case rel => exact ⟨k + 1, by omega, by go_num, by go_num⟩
      case measure => simp [intOf]; omega
    · obtain rfl : k = n := by omega
      go_wp2
      go_ret
      exact ⟨rfl, rfl⟩

end Of
end Go.Proofs.YtehmlnojjfeheaaGreat

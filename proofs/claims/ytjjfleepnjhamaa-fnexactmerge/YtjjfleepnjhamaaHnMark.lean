/- Contracts of the laws' own helpers over controls that a function has been given or has made: marked, held against the marks. -/
import Derived.Test.YtjjfleepnjhamaaHnCtl
import Derived.Test.YtjjfleepnjhamaaHnInts
namespace Go.Proofs.Ytjjfleepnjhamaa
namespace Hn
open Go.ChangeShapes Go.WideShapes Go.ChangeAt Go.RowKit
open Pk (new_below join_below cell_at heap_new frozen_at lt_of kept heap_old Drawn info_of Room)
set_option linter.unusedSimpArgs false
set_option linter.unusedVariables false

theorem Controls.band {lo hi : Nat} {w w1 : World} {a : Option Addr} {ps : List Ct} (h : Controls w a ps) (L : Band lo hi w w1) (ha : ∀ b o, a = some ⟨b, o, none⟩ → ps ≠ [] → b < lo ∨ hi ≤ b) : Controls w1 a ps := by
  rcases h with h | ⟨b, o, rfl, hlt, hc⟩
  · exact Or.inl h
  · by_cases hz : ps = []
    · exact Or.inl hz
    · have hb := L.block b (ha b o rfl hz)
      exact Or.inr ⟨b, o, rfl, by rw [L.size]; exact hlt, fun i hi => by rw [World.cell?_of_block (a := ⟨b, o + i * 6, none⟩) hb, World.cell?_of_block (a := ⟨b, o + i * 6 + 1, none⟩) hb, World.cell?_of_block (a := ⟨b, o + i * 6 + 2, none⟩) hb, World.cell?_of_block (a := ⟨b, o + i * 6 + 3, none⟩) hb, World.cell?_of_block (a := ⟨b, o + i * 6 + 4, none⟩) hb, World.cell?_of_block (a := ⟨b, o + i * 6 + 5, none⟩) hb]; exact hc i hi⟩

/-- The marks of n controls in block g. -/
def Marked (z : Int) (w : World) (g n : Nat) : Prop := ∀ i, i < n → w.cell? ⟨g, i * 6, none⟩ = some (.int .i64 (z + 6 * (i : Int))) ∧ w.cell? ⟨g, i * 6 + 1, none⟩ = some (.int .i64 (z + 6 * (i : Int) + 1)) ∧ w.cell? ⟨g, i * 6 + 2, none⟩ = some (.int .i64 (z + 6 * (i : Int) + 2)) ∧ w.cell? ⟨g, i * 6 + 3, none⟩ = some (.int .i64 (z + 6 * (i : Int) + 3)) ∧ w.cell? ⟨g, i * 6 + 4, none⟩ = some (.int .i64 (z + 6 * (i : Int) + 4)) ∧ w.cell? ⟨g, i * 6 + 5, none⟩ = some (.int .i64 (z + 6 * (i : Int) + 5))

theorem Marked.on {w w1 : World} {g n B : Nat} {z : Int} (h : Marked z w g n) (L : Below B w w1) (hg : g < B) : Marked z w1 g n := by
  intro i hi
  rw [L.cell (p := ⟨g, i * 6, none⟩) hg, L.cell (p := ⟨g, i * 6 + 1, none⟩) hg, L.cell (p := ⟨g, i * 6 + 2, none⟩) hg, L.cell (p := ⟨g, i * 6 + 3, none⟩) hg, L.cell (p := ⟨g, i * 6 + 4, none⟩) hg, L.cell (p := ⟨g, i * 6 + 5, none⟩) hg]
  exact h i hi

theorem Marked.step {w : World} {g n k : Nat} {z : Int} (h : Marked z w g k) (R : Room w g (n * 6)) (hk : k < n) : Marked z ((((((w.setCell ⟨g, k * 6, none⟩ (.int .i64 (z + 6 * (k : Int)))).setCell ⟨g, k * 6 + 1, none⟩ (.int .i64 (z + 6 * (k : Int) + 1))).setCell ⟨g, k * 6 + 2, none⟩ (.int .i64 (z + 6 * (k : Int) + 2))).setCell ⟨g, k * 6 + 3, none⟩ (.int .i64 (z + 6 * (k : Int) + 3))).setCell ⟨g, k * 6 + 4, none⟩ (.int .i64 (z + 6 * (k : Int) + 4))).setCell ⟨g, k * 6 + 5, none⟩ (.int .i64 (z + 6 * (k : Int) + 5))) g (k + 1) := by
  intro i hi
  by_cases e : i = k
  · subst e
    obtain ⟨⟨v0, e0⟩, -⟩ := R (i * 6) (by omega)
    obtain ⟨⟨v1, e1⟩, -⟩ := R (i * 6 + 1) (by omega)
    obtain ⟨⟨v2, e2⟩, -⟩ := R (i * 6 + 2) (by omega)
    obtain ⟨⟨v3, e3⟩, -⟩ := R (i * 6 + 3) (by omega)
    obtain ⟨⟨v4, e4⟩, -⟩ := R (i * 6 + 4) (by omega)
    obtain ⟨⟨v5, e5⟩, -⟩ := R (i * 6 + 5) (by omega)
    rw [set_cell (set_cell (set_cell (set_cell (set_cell (set_cell e0))))), set_cell (set_cell (set_cell (set_cell (set_cell (set_cell e1))))), set_cell (set_cell (set_cell (set_cell (set_cell (set_cell e2))))), set_cell (set_cell (set_cell (set_cell (set_cell (set_cell e3))))), set_cell (set_cell (set_cell (set_cell (set_cell (set_cell e4))))), set_cell (set_cell (set_cell (set_cell (set_cell (set_cell e5)))))]
    simp
  · obtain ⟨e0, e1, e2, e3, e4, e5⟩ := h i (by omega)
    rw [set_cell (set_cell (set_cell (set_cell (set_cell (set_cell e0))))), set_cell (set_cell (set_cell (set_cell (set_cell (set_cell e1))))), set_cell (set_cell (set_cell (set_cell (set_cell (set_cell e2))))), set_cell (set_cell (set_cell (set_cell (set_cell (set_cell e3))))), set_cell (set_cell (set_cell (set_cell (set_cell (set_cell e4))))), set_cell (set_cell (set_cell (set_cell (set_cell (set_cell e5)))))]
    rw [if_neg (by omega), if_neg (by omega), if_neg (by omega), if_neg (by omega), if_neg (by omega), if_neg (by omega), if_neg (by omega), if_neg (by omega), if_neg (by omega), if_neg (by omega), if_neg (by omega), if_neg (by omega), if_neg (by omega), if_neg (by omega), if_neg (by omega), if_neg (by omega), if_neg (by omega), if_neg (by omega), if_neg (by omega), if_neg (by omega), if_neg (by omega), if_neg (by omega), if_neg (by omega), if_neg (by omega), if_neg (by omega), if_neg (by omega), if_neg (by omega), if_neg (by omega), if_neg (by omega), if_neg (by omega), if_neg (by omega), if_neg (by omega), if_neg (by omega), if_neg (by omega), if_neg (by omega), if_neg (by omega)]
    exact ⟨rfl, rfl, rfl, rfl, rfl, rfl⟩

set_option maxRecDepth 100000 in
set_option maxHeartbeats 2000000 in
theorem markControlS_val (a : Option Addr) (g n cap : Nat) (z : Int) (w : World) (hn : n ≤ 1048577) (hz0 : 0 ≤ z) (hz1 : z ≤ 1152921504606846976) (h : n = 0 ∨ (a = some ⟨g, 0, none⟩ ∧ Room w g (n * 6))) :
    Calls Try.prog 23 #[.slice a n cap, .int .i64 z] w fun e w' => e = .returned (.int .i64 (z + 6 * (n : Int))) ∧ Band g (g + 1) w w' ∧ Marked z w' g n ∧ ∀ m, Room w g m → Room w' g m := by
  have HR : Hid (0 < n → a = some ⟨g, 0, none⟩ ∧ Room w g (n * 6)) := fun h0 => h.resolve_left (by omega)
  clear h
  go_enter Try.func23, Try.ntmps23
  go_wp2
  go_loopw [1, 5] (fun t i wr => ∃ k : Nat, k ≤ n ∧ i = .int .i64 k ∧ t = .int .i64 (z + 6 * (k : Int)) ∧ Band g (g + 1) w wr ∧ Hid (∀ m, Room w g m → Room wr g m) ∧ Hid (Marked z wr g k) ∧ Hid (0 < n → a = some ⟨g, 0, none⟩ ∧ Room wr g (n * 6))) (fun _ i _ => n - (intOf i).toNat)
  case atStart => exact ⟨0, by omega, rfl, by simp, Band.refl _ _ _, fun m h => h, fun i hi => by omega, HR⟩
  case round =>
    obtain ⟨k, hk, rfl, rfl, L, RM, M, RR⟩ := hrel
    by_cases hkn : k < n
    · obtain ⟨rfl, R⟩ := RR.out (by omega)
      have HM : Hid (_) := M.out.step R hkn
      have HQ : Hid (_) := (((((R.set g (k * 6) (.int .i64 (z + 6 * (k : Int)))).set g (k * 6 + 1) (.int .i64 (z + 6 * (k : Int) + 1))).set g (k * 6 + 2) (.int .i64 (z + 6 * (k : Int) + 2))).set g (k * 6 + 3) (.int .i64 (z + 6 * (k : Int) + 3))).set g (k * 6 + 4) (.int .i64 (z + 6 * (k : Int) + 4))).set g (k * 6 + 5) (.int .i64 (z + 6 * (k : Int) + 5))
      have HX : Hid (∀ m, Room w g m → _) := fun m h => ((((((RM.out m h).set g (k * 6) (.int .i64 (z + 6 * (k : Int)))).set g (k * 6 + 1) (.int .i64 (z + 6 * (k : Int) + 1))).set g (k * 6 + 2) (.int .i64 (z + 6 * (k : Int) + 2))).set g (k * 6 + 3) (.int .i64 (z + 6 * (k : Int) + 3))).set g (k * 6 + 4) (.int .i64 (z + 6 * (k : Int) + 4))).set g (k * 6 + 5) (.int .i64 (z + 6 * (k : Int) + 5))
      have L3 := (((((L.set (i := k * 6) (Nat.le_refl g) (by omega) (.int .i64 (z + 6 * (k : Int)))).set (i := k * 6 + 1) (Nat.le_refl g) (by omega) (.int .i64 (z + 6 * (k : Int) + 1))).set (i := k * 6 + 2) (Nat.le_refl g) (by omega) (.int .i64 (z + 6 * (k : Int) + 2))).set (i := k * 6 + 3) (Nat.le_refl g) (by omega) (.int .i64 (z + 6 * (k : Int) + 3))).set (i := k * 6 + 4) (Nat.le_refl g) (by omega) (.int .i64 (z + 6 * (k : Int) + 4))).set (i := k * 6 + 5) (Nat.le_refl g) (by omega) (.int .i64 (z + 6 * (k : Int) + 5))
      obtain ⟨⟨v0, f0⟩, z0⟩ := R (k * 6) (by omega)
      obtain ⟨⟨v1, f1⟩, z1⟩ := R (k * 6 + 1) (by omega)
      obtain ⟨⟨v2, f2⟩, z2⟩ := R (k * 6 + 2) (by omega)
      obtain ⟨⟨v3, f3⟩, z3⟩ := R (k * 6 + 3) (by omega)
      obtain ⟨⟨v4, f4⟩, z4⟩ := R (k * 6 + 4) (by omega)
      obtain ⟨⟨v5, f5⟩, z5⟩ := R (k * 6 + 5) (by omega)
      have e2 : z + 6 * (k : Int) + 1 + 1 = z + 6 * (k : Int) + 2 := by omega
      have e3 : z + 6 * (k : Int) + 2 + 1 = z + 6 * (k : Int) + 3 := by omega
      have e4 : z + 6 * (k : Int) + 3 + 1 = z + 6 * (k : Int) + 4 := by omega
      have e5 : z + 6 * (k : Int) + 4 + 1 = z + 6 * (k : Int) + 5 := by omega
      have e6 : z + 6 * (k : Int) + 5 + 1 = z + 6 * (k : Int) + 6 := by omega
      clear R M RR HR
      go_wp2
      go_roundw
      case rel => exact ⟨k + 1, by omega, by go_num, by go_num, L3, HX, HM, fun _ => ⟨by simp, HQ.out⟩⟩
      case measure => simp [intOf]; omega
    · obtain rfl : k = n := by omega
      go_wp2
      go_ret
      exact ⟨rfl, L, M.out, RM.out⟩

set_option maxRecDepth 100000 in
set_option maxHeartbeats 2000000 in
theorem heldControlS_val (a : Option Addr) (g n cap : Nat) (z : Int) (w : World) (hn : n ≤ 1048577) (hz0 : 0 ≤ z) (hz1 : z ≤ 1152921504606846976) (h : n = 0 ∨ a = some ⟨g, 0, none⟩) (M : Marked z w g n) :
    Calls Try.prog 29 #[.slice a n cap, .int .i64 z] w fun e w' => e = .returned (.int .i64 (z + 6 * (n : Int))) ∧ w' = w := by
  have HA : Hid (0 < n → a = some ⟨g, 0, none⟩) := fun h0 => h.resolve_left (by omega)
  have HM : Hid (_) := M
  clear h M
  go_enter Try.func29, Try.ntmps29
  go_wp2
  go_loop [1, 5] (fun t i => ∃ k : Nat, k ≤ n ∧ i = .int .i64 k ∧ t = .int .i64 (z + 6 * (k : Int))) (fun _ i => n - (intOf i).toNat)
  case atStart => exact ⟨0, by omega, rfl, by simp⟩
  case round =>
    obtain ⟨k, hk, rfl, rfl⟩ := hrel
    by_cases hkn : k < n
    · obtain rfl := HA.out (by omega)
      obtain ⟨c0, c1, c2, c3, c4, c5⟩ := HM.out k hkn
      have e2 : z + 6 * (k : Int) + 1 + 1 = z + 6 * (k : Int) + 2 := by omega
      have e3 : z + 6 * (k : Int) + 2 + 1 = z + 6 * (k : Int) + 3 := by omega
      have e4 : z + 6 * (k : Int) + 3 + 1 = z + 6 * (k : Int) + 4 := by omega
      have e5 : z + 6 * (k : Int) + 4 + 1 = z + 6 * (k : Int) + 5 := by omega
      have e6 : z + 6 * (k : Int) + 5 + 1 = z + 6 * (k : Int) + 6 := by omega
      go_wp2
      go_round
      case rel => exact ⟨k + 1, by omega, by go_num, by go_num⟩
      case measure => simp [intOf]; omega
    · obtain rfl : k = n := by omega
      go_wp2
      go_ret
      exact ⟨rfl, rfl⟩

end Hn
end Go.Proofs.Ytjjfleepnjhamaa

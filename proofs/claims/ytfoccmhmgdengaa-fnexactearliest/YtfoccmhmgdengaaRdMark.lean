/- Contracts of the laws' own helpers over rides that a function has been given or has made: marked, held against the marks. -/
import Derived.Test.YtfoccmhmgdengaaTnRides
namespace Go.Proofs.Ytfoccmhmgdengaa
namespace Rd
open Go.ChangeShapes Go.WideShapes Go.ChangeAt Go.RowKit
open Pk (new_below join_below cell_at heap_new frozen_at lt_of kept heap_old Drawn info_of Room)
set_option linter.unusedSimpArgs false
set_option linter.unusedVariables false

/-- All but the blocks from lo up to hi is as it was. -/
structure Band (lo hi : Nat) (w w' : World) : Prop where
  os : w'.os = w.os
  tape : w'.tape = w.tape
  output : w'.output = w.output
  size : w'.heap.size = w.heap.size
  block : ∀ b, b < lo ∨ hi ≤ b → w'.heap[b]? = w.heap[b]?

theorem Band.refl (lo hi : Nat) (w : World) : Band lo hi w w := ⟨rfl, rfl, rfl, rfl, fun _ _ => rfl⟩

theorem Band.trans {lo hi : Nat} {a b c : World} (h : Band lo hi a b) (k : Band lo hi b c) : Band lo hi a c :=
  ⟨k.os.trans h.os, k.tape.trans h.tape, k.output.trans h.output, k.size.trans h.size, fun i hi => (k.block i hi).trans (h.block i hi)⟩

theorem Band.set {lo hi : Nat} {a w : World} (h : Band lo hi a w) {g i : Nat} (h1 : lo ≤ g) (h2 : g < hi) (u : Value) : Band lo hi a (w.setCell ⟨g, i, none⟩ u) := by
  have L := (Below.refl 0 w).setCell (p := ⟨g, i, none⟩) (Nat.zero_le _) u
  refine ⟨L.os.trans h.os, L.tape.trans h.tape, L.output.trans h.output, by rw [World.size_setCell]; exact h.size, fun b hb => ?_⟩
  rw [Below.heap_setCell w ⟨g, i, none⟩ u b (by show b ≠ g; omega)]
  exact h.block b hb

theorem Band.below {lo hi : Nat} {w w' : World} (h : Band lo hi w w') : Below lo w w' := ⟨h.os, h.tape, h.output, Nat.le_of_eq h.size.symm, fun k hk => h.block k (Or.inl hk)⟩

theorem Rides.band {lo hi : Nat} {w w1 : World} {a : Option Addr} {ps : List Ri} (h : Rides w a ps) (L : Band lo hi w w1) (ha : ∀ b o, a = some ⟨b, o, none⟩ → ps ≠ [] → b < lo ∨ hi ≤ b) : Rides w1 a ps := by
  rcases h with h | ⟨b, o, rfl, hlt, hc⟩
  · exact Or.inl h
  · by_cases hz : ps = []
    · exact Or.inl hz
    · have hb := L.block b (ha b o rfl hz)
      exact Or.inr ⟨b, o, rfl, by rw [L.size]; exact hlt, fun i hi => by rw [World.cell?_of_block (a := ⟨b, o + i * 4, none⟩) hb, World.cell?_of_block (a := ⟨b, o + i * 4 + 1, none⟩) hb, World.cell?_of_block (a := ⟨b, o + i * 4 + 2, none⟩) hb, World.cell?_of_block (a := ⟨b, o + i * 4 + 3, none⟩) hb]; exact hc i hi⟩

theorem Room.band {lo hi : Nat} {w w1 : World} {g m : Nat} (h : Room w g m) (L : Band lo hi w w1) (hg : g < lo ∨ hi ≤ g) : Room w1 g m := by
  intro j hj
  rw [World.cell?_of_block (a := ⟨g, j, none⟩) (L.block g hg), World.frozen?_of_block (a := ⟨g, j, none⟩) (L.block g hg)]
  exact h j hj

/-- The marks of n rides in block g. -/
def Marked (w : World) (g n : Nat) : Prop := ∀ i, i < n → w.cell? ⟨g, i * 4, none⟩ = some (.int .i64 (1 + 4 * (i : Int))) ∧ w.cell? ⟨g, i * 4 + 1, none⟩ = some (.int .i64 (1 + 4 * (i : Int) + 1)) ∧ w.cell? ⟨g, i * 4 + 2, none⟩ = some (.int .i64 (1 + 4 * (i : Int) + 2)) ∧ w.cell? ⟨g, i * 4 + 3, none⟩ = some (.int .i64 (1 + 4 * (i : Int) + 3))

theorem Marked.on {w w1 : World} {g n B : Nat} (h : Marked w g n) (L : Below B w w1) (hg : g < B) : Marked w1 g n := by
  intro i hi
  rw [L.cell (p := ⟨g, i * 4, none⟩) hg, L.cell (p := ⟨g, i * 4 + 1, none⟩) hg, L.cell (p := ⟨g, i * 4 + 2, none⟩) hg, L.cell (p := ⟨g, i * 4 + 3, none⟩) hg]
  exact h i hi

theorem Marked.step {w : World} {g n k : Nat} (h : Marked w g k) (R : Room w g (n * 4)) (hk : k < n) : Marked ((((w.setCell ⟨g, k * 4, none⟩ (.int .i64 (1 + 4 * (k : Int)))).setCell ⟨g, k * 4 + 1, none⟩ (.int .i64 (1 + 4 * (k : Int) + 1))).setCell ⟨g, k * 4 + 2, none⟩ (.int .i64 (1 + 4 * (k : Int) + 2))).setCell ⟨g, k * 4 + 3, none⟩ (.int .i64 (1 + 4 * (k : Int) + 3))) g (k + 1) := by
  intro i hi
  by_cases e : i = k
  · subst e
    obtain ⟨⟨v0, e0⟩, -⟩ := R (i * 4) (by omega)
    obtain ⟨⟨v1, e1⟩, -⟩ := R (i * 4 + 1) (by omega)
    obtain ⟨⟨v2, e2⟩, -⟩ := R (i * 4 + 2) (by omega)
    obtain ⟨⟨v3, e3⟩, -⟩ := R (i * 4 + 3) (by omega)
    rw [set_cell (set_cell (set_cell (set_cell e0))), set_cell (set_cell (set_cell (set_cell e1))), set_cell (set_cell (set_cell (set_cell e2))), set_cell (set_cell (set_cell (set_cell e3)))]
    simp
  · obtain ⟨e0, e1, e2, e3⟩ := h i (by omega)
    rw [set_cell (set_cell (set_cell (set_cell e0))), set_cell (set_cell (set_cell (set_cell e1))), set_cell (set_cell (set_cell (set_cell e2))), set_cell (set_cell (set_cell (set_cell e3)))]
    rw [if_neg (by omega), if_neg (by omega), if_neg (by omega), if_neg (by omega), if_neg (by omega), if_neg (by omega), if_neg (by omega), if_neg (by omega), if_neg (by omega), if_neg (by omega), if_neg (by omega), if_neg (by omega), if_neg (by omega), if_neg (by omega), if_neg (by omega), if_neg (by omega)]
    exact ⟨rfl, rfl, rfl, rfl⟩

set_option maxRecDepth 100000 in
set_option maxHeartbeats 2000000 in
theorem markRideS_val (a : Option Addr) (g n cap : Nat) (w : World) (hn : n ≤ 1048577) (h : n = 0 ∨ (a = some ⟨g, 0, none⟩ ∧ Room w g (n * 4))) :
    Calls Try.prog 21 #[.slice a n cap, .int .i64 1] w fun e w' => e = .returned (.int .i64 (1 + 4 * (n : Int))) ∧ Band g (g + 1) w w' ∧ Marked w' g n := by
  have HR : Hid (0 < n → a = some ⟨g, 0, none⟩ ∧ Room w g (n * 4)) := fun h0 => h.resolve_left (by omega)
  clear h
  go_enter Try.func21, Try.ntmps21
  go_wp2
  go_loopw [1, 5] (fun t i wr => ∃ k : Nat, k ≤ n ∧ i = .int .i64 k ∧ t = .int .i64 (1 + 4 * (k : Int)) ∧ Band g (g + 1) w wr ∧ Hid (Marked wr g k) ∧ Hid (0 < n → a = some ⟨g, 0, none⟩ ∧ Room wr g (n * 4))) (fun _ i _ => n - (intOf i).toNat)
  case atStart => exact ⟨0, by omega, rfl, by simp, Band.refl _ _ _, fun i hi => by omega, HR⟩
  case round =>
    obtain ⟨k, hk, rfl, rfl, L, M, RR⟩ := hrel
    by_cases hkn : k < n
    · obtain ⟨rfl, R⟩ := RR.out (by omega)
      have HM : Hid (_) := M.out.step R hkn
      have HQ : Hid (_) := (((R.set g (k * 4) (.int .i64 (1 + 4 * (k : Int)))).set g (k * 4 + 1) (.int .i64 (1 + 4 * (k : Int) + 1))).set g (k * 4 + 2) (.int .i64 (1 + 4 * (k : Int) + 2))).set g (k * 4 + 3) (.int .i64 (1 + 4 * (k : Int) + 3))
      have L3 := (((L.set (i := k * 4) (Nat.le_refl g) (by omega) (.int .i64 (1 + 4 * (k : Int)))).set (i := k * 4 + 1) (Nat.le_refl g) (by omega) (.int .i64 (1 + 4 * (k : Int) + 1))).set (i := k * 4 + 2) (Nat.le_refl g) (by omega) (.int .i64 (1 + 4 * (k : Int) + 2))).set (i := k * 4 + 3) (Nat.le_refl g) (by omega) (.int .i64 (1 + 4 * (k : Int) + 3))
      obtain ⟨⟨v0, f0⟩, z0⟩ := R (k * 4) (by omega)
      obtain ⟨⟨v1, f1⟩, z1⟩ := R (k * 4 + 1) (by omega)
      obtain ⟨⟨v2, f2⟩, z2⟩ := R (k * 4 + 2) (by omega)
      obtain ⟨⟨v3, f3⟩, z3⟩ := R (k * 4 + 3) (by omega)
      have e2 : 1 + 4 * (k : Int) + 1 + 1 = 1 + 4 * (k : Int) + 2 := by omega
      have e3 : 1 + 4 * (k : Int) + 2 + 1 = 1 + 4 * (k : Int) + 3 := by omega
      have e4 : 1 + 4 * (k : Int) + 3 + 1 = 1 + 4 * (k : Int) + 4 := by omega
      clear R M RR HR
      go_wp2
      go_roundw
      case rel => exact ⟨k + 1, by omega, by go_num, by go_num, L3, HM, fun _ => ⟨by simp, HQ.out⟩⟩
      case measure => simp [intOf]; omega
    · obtain rfl : k = n := by omega
      go_wp2
      go_ret
      exact ⟨rfl, L, M.out⟩

set_option maxRecDepth 100000 in
set_option maxHeartbeats 2000000 in
theorem heldRideS_val (a : Option Addr) (g n cap : Nat) (w : World) (hn : n ≤ 1048577) (h : n = 0 ∨ a = some ⟨g, 0, none⟩) (M : Marked w g n) :
    Calls Try.prog 22 #[.slice a n cap, .int .i64 1] w fun e w' => e = .returned (.int .i64 (1 + 4 * (n : Int))) ∧ w' = w := by
  have HA : Hid (0 < n → a = some ⟨g, 0, none⟩) := fun h0 => h.resolve_left (by omega)
  have HM : Hid (_) := M
  clear h M
  go_enter Try.func22, Try.ntmps22
  go_wp2
  go_loop [1, 5] (fun t i => ∃ k : Nat, k ≤ n ∧ i = .int .i64 k ∧ t = .int .i64 (1 + 4 * (k : Int))) (fun _ i => n - (intOf i).toNat)
  case atStart => exact ⟨0, by omega, rfl, by simp⟩
  case round =>
    obtain ⟨k, hk, rfl, rfl⟩ := hrel
    by_cases hkn : k < n
    · obtain rfl := HA.out (by omega)
      obtain ⟨c0, c1, c2, c3⟩ := HM.out k hkn
      have e2 : 1 + 4 * (k : Int) + 1 + 1 = 1 + 4 * (k : Int) + 2 := by omega
      have e3 : 1 + 4 * (k : Int) + 2 + 1 = 1 + 4 * (k : Int) + 3 := by omega
      have e4 : 1 + 4 * (k : Int) + 3 + 1 = 1 + 4 * (k : Int) + 4 := by omega
      go_wp2
      go_round
      case rel => exact ⟨k + 1, by omega, by go_num, by go_num⟩
      case measure => simp [intOf]; omega
    · obtain rfl : k = n := by omega
      go_wp2
      go_ret
      exact ⟨rfl, rfl⟩

end Rd
end Go.Proofs.Ytfoccmhmgdengaa

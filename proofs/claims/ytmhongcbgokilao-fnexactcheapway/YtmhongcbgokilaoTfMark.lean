/- Contracts of the laws' own helpers over edges and numbers that a function has been given or has made: marked, held against the marks. -/
import Derived.Test.YtmhongcbgokilaoTfBase
import Derived.Test.YtmhongcbgokilaoTfInts
namespace Go.Proofs.Ytmhongcbgokilao
namespace Tf
open Go.ChangeShapes Go.WideShapes Go.ChangeAt Go.RowKit
open Pk (new_below join_below cell_at heap_new frozen_at lt_of kept heap_old Drawn info_of Room)
set_option linter.unusedSimpArgs false
set_option linter.unusedVariables false

/-- All but the blocks from lo up to hi is as it was. -/
structure Band (lo hi : Nat) (w w' : World) : Prop where
  os : w'.os = w.os
  tape : w'.tape = w.tape
  output : w'.output = w.output
  size : w'.heap.size = w.heap.size
  block : ∀ b, b < lo ∨ hi ≤ b → w'.heap[b]? = w.heap[b]?

theorem Band.refl (lo hi : Nat) (w : World) : Band lo hi w w := ⟨rfl, rfl, rfl, rfl, fun _ _ => rfl⟩

theorem Band.trans {lo hi : Nat} {a b c : World} (h : Band lo hi a b) (k : Band lo hi b c) : Band lo hi a c :=
  ⟨k.os.trans h.os, k.tape.trans h.tape, k.output.trans h.output, k.size.trans h.size, fun i hi => (k.block i hi).trans (h.block i hi)⟩

theorem Band.wide {lo hi lo' hi' : Nat} {w w' : World} (h : Band lo hi w w') (h1 : lo' ≤ lo) (h2 : hi ≤ hi') : Band lo' hi' w w' :=
  ⟨h.os, h.tape, h.output, h.size, fun b hb => h.block b (by omega)⟩

theorem Band.set {lo hi : Nat} {a w : World} (h : Band lo hi a w) {g i : Nat} (h1 : lo ≤ g) (h2 : g < hi) (u : Value) : Band lo hi a (w.setCell ⟨g, i, none⟩ u) := by
  have L := (Below.refl 0 w).setCell (p := ⟨g, i, none⟩) (Nat.zero_le _) u
  refine ⟨L.os.trans h.os, L.tape.trans h.tape, L.output.trans h.output, by rw [World.size_setCell]; exact h.size, fun b hb => ?_⟩
  rw [Below.heap_setCell w ⟨g, i, none⟩ u b (by show b ≠ g; omega)]
  exact h.block b hb

theorem Band.below {lo hi : Nat} {w w' : World} (h : Band lo hi w w') : Below lo w w' := ⟨h.os, h.tape, h.output, Nat.le_of_eq h.size.symm, fun k hk => h.block k (Or.inl hk)⟩


theorem Ints.band {lo hi : Nat} {w w1 : World} {a : Option Addr} {zs : List Int} (h : Ints w a zs) (L : Band lo hi w w1) (ha : ∀ b o, a = some ⟨b, o, none⟩ → zs ≠ [] → b < lo ∨ hi ≤ b) : Ints w1 a zs := by
  rcases h with h | ⟨b, o, rfl, hlt, hc⟩
  · exact Or.inl h
  · by_cases hz : zs = []
    · exact Or.inl hz
    · exact Or.inr ⟨b, o, rfl, by rw [L.size]; exact hlt, fun i hi => by rw [World.cell?_of_block (a := ⟨b, o + i, none⟩) (L.block b (ha b o rfl hz))]; exact hc i hi⟩

/-- Numbers in a block of their own have room. -/
theorem Ints.room {w : World} {g : Nat} {zs : List Int} (h : Ints w (some ⟨g, 0, none⟩) zs) (hf : ∀ i, w.frozen? ⟨g, i, none⟩ = false) : Room w g zs.length := by
  intro j hj
  obtain ⟨b, o, e, -, hc⟩ := h.at j hj
  simp only [Option.some.injEq, Addr.mk.injEq] at e
  obtain ⟨rfl, rfl, -⟩ := e
  rw [Nat.zero_add] at hc
  exact ⟨⟨_, hc⟩, hf j⟩

set_option maxHeartbeats 1000000 in
theorem markEdgeS_val (a : Option Addr) (g n cap : Nat) (w : World) (hn : n ≤ 1048576) (h : n = 0 ∨ (a = some ⟨g, 0, none⟩ ∧ Room w g (n * 3))) :
    Calls Try.prog 28 #[.slice a n cap, .int .i64 1] w fun e w' => e = .returned (.int .i64 (1 + 3 * (n : Int))) ∧ Band g (g + 1) w w' := by
  have HR : Hid (0 < n → a = some ⟨g, 0, none⟩ ∧ Room w g (n * 3)) := fun h0 => h.resolve_left (by omega)
  clear h
  go_enter Try.func28, Try.ntmps28
  go_wp2
  go_loopw [1, 5] (fun t i wr => ∃ k : Nat, k ≤ n ∧ i = .int .i64 k ∧ t = .int .i64 (1 + 3 * (k : Int)) ∧ Band g (g + 1) w wr ∧ Hid (0 < n → a = some ⟨g, 0, none⟩ ∧ Room wr g (n * 3))) (fun _ i _ => n - (intOf i).toNat)
  case atStart => exact ⟨0, by omega, rfl, by simp, Band.refl _ _ _, HR⟩
  case round =>
    obtain ⟨k, hk, rfl, rfl, L, RR⟩ := hrel
    by_cases hkn : k < n
    · obtain ⟨rfl, R⟩ := RR.out (by omega)
      have HQ : Hid (_) := ((R.set g (k * 3) (.int .i64 (1 + 3 * (k : Int)))).set g (k * 3 + 1) (.int .i64 (1 + 3 * (k : Int) + 1))).set g (k * 3 + 2) (.int .i64 (1 + 3 * (k : Int) + 2))
      have L3 := ((L.set (i := k * 3) (Nat.le_refl g) (by omega) (.int .i64 (1 + 3 * (k : Int)))).set (i := k * 3 + 1) (Nat.le_refl g) (by omega) (.int .i64 (1 + 3 * (k : Int) + 1))).set (i := k * 3 + 2) (Nat.le_refl g) (by omega) (.int .i64 (1 + 3 * (k : Int) + 2))
      obtain ⟨⟨v0, f0⟩, z0⟩ := R (k * 3) (by omega)
      obtain ⟨⟨v1, f1⟩, z1⟩ := R (k * 3 + 1) (by omega)
      obtain ⟨⟨v2, f2⟩, z2⟩ := R (k * 3 + 2) (by omega)
      have e2 : 1 + 3 * (k : Int) + 1 + 1 = 1 + 3 * (k : Int) + 2 := by omega
      have e3 : 1 + 3 * (k : Int) + 2 + 1 = 1 + 3 * (k : Int) + 3 := by omega
      clear R RR HR
      go_wp2
      go_roundw
      case rel => exact ⟨k + 1, by omega, by go_num, by go_num, L3, fun _ => ⟨by simp, HQ.out⟩⟩
      case measure => simp [intOf]; omega
    · obtain rfl : k = n := by omega
      go_wp2
      go_ret
      exact ⟨rfl, L⟩

/-- The marks of n numbers in block g. -/
def Mkd (w : World) (g n : Nat) : Prop := ∀ i, i < n → w.cell? ⟨g, i, none⟩ = some (.int .i64 (1 + (i : Int)))

theorem Mkd.on {w w1 : World} {g n B : Nat} (h : Mkd w g n) (L : Below B w w1) (hg : g < B) : Mkd w1 g n := by
  intro i hi
  rw [L.cell (p := ⟨g, i, none⟩) hg]
  exact h i hi

theorem Mkd.step {w : World} {g n k : Nat} (h : Mkd w g k) (R : Room w g n) (hk : k < n) : Mkd (w.setCell ⟨g, k, none⟩ (.int .i64 (1 + (k : Int)))) g (k + 1) := by
  intro i hi
  by_cases e : i = k
  · subst e
    obtain ⟨⟨v, hv⟩, -⟩ := R i hk
    rw [set_cell hv, if_pos rfl]
  · rw [set_cell (h i (by omega)), if_neg e]

set_option maxHeartbeats 1000000 in
theorem markIntS_val (a : Option Addr) (g n cap : Nat) (w : World) (hn : n ≤ 1048576) (h : n = 0 ∨ (a = some ⟨g, 0, none⟩ ∧ Room w g n)) :
    Calls Try.prog 29 #[.slice a n cap, .int .i64 1] w fun e w' => e = .returned (.int .i64 (1 + (n : Int))) ∧ Band g (g + 1) w w' ∧ Mkd w' g n := by
  have HR : Hid (0 < n → a = some ⟨g, 0, none⟩ ∧ Room w g n) := fun h0 => h.resolve_left (by omega)
  clear h
  go_enter Try.func29, Try.ntmps29
  go_wp2
  go_loopw [1, 5] (fun t i wr => ∃ k : Nat, k ≤ n ∧ i = .int .i64 k ∧ t = .int .i64 (1 + (k : Int)) ∧ Band g (g + 1) w wr ∧ Hid (Mkd wr g k) ∧ Hid (0 < n → a = some ⟨g, 0, none⟩ ∧ Room wr g n)) (fun _ i _ => n - (intOf i).toNat)
  case atStart => exact ⟨0, by omega, rfl, by simp, Band.refl _ _ _, fun i hi => by omega, HR⟩
  case round =>
    obtain ⟨k, hk, rfl, rfl, L, M, RR⟩ := hrel
    by_cases hkn : k < n
    · obtain ⟨rfl, R⟩ := RR.out (by omega)
      have HM : Hid (_) := M.out.step R hkn
      have HQ : Hid (_) := R.set g k (.int .i64 (1 + (k : Int)))
      have L3 := L.set (i := k) (Nat.le_refl g) (by omega) (.int .i64 (1 + (k : Int)))
      obtain ⟨⟨v0, f0⟩, z0⟩ := R k hkn
      clear R RR HR M
      go_wp2
      go_roundw
      case rel => exact ⟨k + 1, by omega, by go_num, by go_num, L3, HM, fun _ => ⟨by simp, HQ.out⟩⟩
      case measure => simp [intOf]; omega
    · obtain rfl : k = n := by omega
      go_wp2
      go_ret
      exact ⟨rfl, L, M.out⟩

set_option maxHeartbeats 1000000 in
theorem heldIntS_val (a : Option Addr) (g n cap : Nat) (w : World) (hn : n ≤ 1048576) (h : n = 0 ∨ a = some ⟨g, 0, none⟩) (M : Mkd w g n) :
    Calls Try.prog 30 #[.slice a n cap, .int .i64 1] w fun e w' => e = .returned (.int .i64 (1 + (n : Int))) ∧ w' = w := by
  have HA : Hid (0 < n → a = some ⟨g, 0, none⟩) := fun h0 => h.resolve_left (by omega)
  have HM : Hid (_) := M
  clear h M
  go_enter Try.func30, Try.ntmps30
  go_wp2
  go_loop [1, 5] (fun t i => ∃ k : Nat, k ≤ n ∧ i = .int .i64 k ∧ t = .int .i64 (1 + (k : Int))) (fun _ i => n - (intOf i).toNat)
  case atStart => exact ⟨0, by omega, rfl, by simp⟩
  case round =>
    obtain ⟨k, hk, rfl, rfl⟩ := hrel
    by_cases hkn : k < n
    · obtain rfl := HA.out (by omega)
      have c0 := HM.out k hkn
      go_wp2
      go_round
      case rel => exact ⟨k + 1, by omega, by go_num, by go_num⟩
      case measure => simp [intOf]; omega
    · obtain rfl : k = n := by omega
      go_wp2
      go_ret
      exact ⟨rfl, rfl⟩

end Tf
end Go.Proofs.Ytmhongcbgokilao

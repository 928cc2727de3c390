/- Contracts of the laws' own helpers over trains that a function has made: marked, held against their marks; a list of them marked. -/
import Derived.Test.YtfoccmhmgdengaaTnFind
namespace Go.Proofs.Ytfoccmhmgdengaa
namespace Tn
open Go.ChangeShapes Go.WideShapes Go.ChangeAt Go.RowKit
open Pk (new_below join_below cell_at heap_new frozen_at lt_of kept heap_old info_of own_form own_below Room)
set_option linter.unusedSimpArgs false
set_option linter.unusedVariables false

/-- All but the blocks from lo up to hi is as it was. -/
structure Band (lo hi : Nat) (w w' : World) : Prop where
  os : w'.os = w.os
  tape : w'.tape = w.tape
  output : w'.output = w.output
  size : w'.heap.size = w.heap.size
  block : ∀ b, b < lo ∨ hi ≤ b → w'.heap[b]? = w.heap[b]?

theorem Band.refl (lo hi : Nat) (w : World) : Band lo hi w w := ⟨rfl, rfl, rfl, rfl, fun _ _ => rfl⟩

theorem Band.trans {lo hi : Nat} {a b c : World} (h : Band lo hi a b) (k : Band lo hi b c) : Band lo hi a c :=
  ⟨k.os.trans h.os, k.tape.trans h.tape, k.output.trans h.output, k.size.trans h.size, fun i hi => (k.block i hi).trans (h.block i hi)⟩

theorem Band.wide {lo hi lo' hi' : Nat} {w w' : World} (h : Band lo hi w w') (h1 : lo' ≤ lo) (h2 : hi ≤ hi') : Band lo' hi' w w' :=
  ⟨h.os, h.tape, h.output, h.size, fun b hb => h.block b (by omega)⟩

theorem Band.set {lo hi : Nat} {a w : World} (h : Band lo hi a w) {g i : Nat} (h1 : lo ≤ g) (h2 : g < hi) (u : Value) : Band lo hi a (w.setCell ⟨g, i, none⟩ u) := by
  have L := (Below.refl 0 w).setCell (p := ⟨g, i, none⟩) (Nat.zero_le _) u
  refine ⟨L.os.trans h.os, L.tape.trans h.tape, L.output.trans h.output, by rw [World.size_setCell]; exact h.size, fun b hb => ?_⟩
  rw [Below.heap_setCell w ⟨g, i, none⟩ u b (by show b ≠ g; omega)]
  exact h.block b hb

theorem Band.below {lo hi : Nat} {w w' : World} (h : Band lo hi w w') : Below lo w w' := ⟨h.os, h.tape, h.output, Nat.le_of_eq h.size.symm, fun k hk => h.block k (Or.inl hk)⟩

theorem Band.own {lo hi base e size : Nat} {w w1 : World} {v : Value} {n : Nat} {xs : List Value} (L : Band lo hi w w1) (h : w.ownsRow base e size v n xs) (hv : ∀ k, v.ownBlock = some k → k < lo ∨ hi ≤ k) : w1.ownsRow base e size v n xs := by
  obtain ⟨h1, h2⟩ := h
  refine ⟨h1, ?_⟩
  rcases h2 with h2 | ⟨g, cap, cur, hv', hg, hh, hr⟩
  · exact Or.inl h2
  · refine Or.inr ⟨g, cap, cur, hv', hg, ?_, hr⟩
    rw [L.block g (hv g (by rw [hv']; rfl))]
    exact hh

/-- The marks of n stops in block g, from z on. -/
def Marked (w : World) (g n : Nat) (z : Int) : Prop := ∀ i, i < n → w.cell? ⟨g, i * 3, none⟩ = some (.int .i64 (z + 3 * (i : Int))) ∧ w.cell? ⟨g, i * 3 + 1, none⟩ = some (.int .i64 (z + 3 * (i : Int) + 1)) ∧ w.cell? ⟨g, i * 3 + 2, none⟩ = some (.int .i64 (z + 3 * (i : Int) + 2))

theorem Marked.on {w w1 : World} {g n B : Nat} {z : Int} (h : Marked w g n z) (L : Below B w w1) (hg : g < B) : Marked w1 g n z := by
  intro i hi
  rw [L.cell (p := ⟨g, i * 3, none⟩) hg, L.cell (p := ⟨g, i * 3 + 1, none⟩) hg, L.cell (p := ⟨g, i * 3 + 2, none⟩) hg]
  exact h i hi

theorem Marked.step {w : World} {g n k : Nat} {z : Int} (h : Marked w g k z) (R : Room w g (n * 3)) (hk : k < n) : Marked (((w.setCell ⟨g, k * 3, none⟩ (.int .i64 (z + 3 * (k : Int)))).setCell ⟨g, k * 3 + 1, none⟩ (.int .i64 (z + 3 * (k : Int) + 1))).setCell ⟨g, k * 3 + 2, none⟩ (.int .i64 (z + 3 * (k : Int) + 2))) g (k + 1) z := by
  intro i hi
  by_cases e : i = k
  · subst e
    obtain ⟨⟨v0, e0⟩, -⟩ := R (i * 3) (by omega)
    obtain ⟨⟨v1, e1⟩, -⟩ := R (i * 3 + 1) (by omega)
    obtain ⟨⟨v2, e2⟩, -⟩ := R (i * 3 + 2) (by omega)
    rw [set_cell (set_cell (set_cell e0)), set_cell (set_cell (set_cell e1)), set_cell (set_cell (set_cell e2))]
    simp
  · obtain ⟨e0, e1, e2⟩ := h i (by omega)
    rw [set_cell (set_cell (set_cell e0)), set_cell (set_cell (set_cell e1)), set_cell (set_cell (set_cell e2))]
    rw [if_neg (by omega), if_neg (by omega), if_neg (by omega), if_neg (by omega), if_neg (by omega), if_neg (by omega), if_neg (by omega), if_neg (by omega), if_neg (by omega)]
    exact ⟨rfl, rfl, rfl⟩

set_option maxHeartbeats 1000000 in
theorem markStopS_val (a : Option Addr) (g n cap : Nat) (z : Int) (w : World) (hn : n ≤ 1048576) (hz : 0 ≤ z) (hz2 : z ≤ 1152921504606846976) (h : n = 0 ∨ (a = some ⟨g, 0, none⟩ ∧ Room w g (n * 3))) :
    Calls Try.prog 47 #[.slice a n cap, .int .i64 z] w fun e w' => e = .returned (.int .i64 (z + 3 * (n : Int))) ∧ Band g (g + 1) w w' ∧ Marked w' g n z ∧ ∀ m, Room w g m → Room w' g m := by
  have HR : Hid (0 < n → a = some ⟨g, 0, none⟩ ∧ Room w g (n * 3)) := fun h0 => h.resolve_left (by omega)
  clear h
  go_enter Try.func47, Try.ntmps47
  go_wp2
  go_loopw [1, 5] (fun t i wr => ∃ k : Nat, k ≤ n ∧ i = .int .i64 k ∧ t = .int .i64 (z + 3 * (k : Int)) ∧ Band g (g + 1) w wr ∧ Hid (∀ m, Room w g m → Room wr g m) ∧ Hid (Marked wr g k z) ∧ Hid (0 < n → a = some ⟨g, 0, none⟩ ∧ Room wr g (n * 3))) (fun _ i _ => n - (intOf i).toNat)
  case atStart => exact ⟨0, by omega, rfl, by simp, Band.refl _ _ _, fun m h => h, fun i hi => by omega, HR⟩
  case round =>
    obtain ⟨k, hk, rfl, rfl, L, RM, M, RR⟩ := hrel
    by_cases hkn : k < n
    · obtain ⟨rfl, R⟩ := RR.out (by omega)
      have HM : Hid (_) := M.out.step R hkn
      have HQ : Hid (_) := ((R.set g (k * 3) (.int .i64 (z + 3 * (k : Int)))).set g (k * 3 + 1) (.int .i64 (z + 3 * (k : Int) + 1))).set g (k * 3 + 2) (.int .i64 (z + 3 * (k : Int) + 2))
      have HX : Hid (∀ m, Room w g m → _) := fun m h => (((RM.out m h).set g (k * 3) (.int .i64 (z + 3 * (k : Int)))).set g (k * 3 + 1) (.int .i64 (z + 3 * (k : Int) + 1))).set g (k * 3 + 2) (.int .i64 (z + 3 * (k : Int) + 2))
      have L3 := ((L.set (i := k * 3) (Nat.le_refl g) (by omega) (.int .i64 (z + 3 * (k : Int)))).set (i := k * 3 + 1) (Nat.le_refl g) (by omega) (.int .i64 (z + 3 * (k : Int) + 1))).set (i := k * 3 + 2) (Nat.le_refl g) (by omega) (.int .i64 (z + 3 * (k : Int) + 2))
      obtain ⟨⟨v0, f0⟩, z0⟩ := R (k * 3) (by omega)
      obtain ⟨⟨v1, f1⟩, z1⟩ := R (k * 3 + 1) (by omega)
      obtain ⟨⟨v2, f2⟩, z2⟩ := R (k * 3 + 2) (by omega)
      have e2 : z + 3 * (k : Int) + 1 + 1 = z + 3 * (k : Int) + 2 := by omega
      have e3 : z + 3 * (k : Int) + 2 + 1 = z + 3 * (k : Int) + 3 := by omega
      clear R M RR HR
      go_wp2
      go_roundw
      case rel => exact ⟨k + 1, by omega, by go_num, by go_num, L3, HX, HM, fun _ => ⟨by simp, HQ.out⟩⟩
      case measure => simp [intOf]; omega
    · obtain rfl : k = n := by omega
      go_wp2
      go_ret
      exact ⟨rfl, L, M.out, RM.out⟩

/-- A list of trains that may be marked: its own block g, and a block of its own for each train's stops, all from lo up to hi. -/
def Mk (w : World) (lo hi g : Nat) (ts : List Tr) : Prop := Room w g (ts.length * 5) ∧ ∀ i (h : i < ts.length), ∃ gi, lo ≤ gi ∧ gi < hi ∧ gi ≠ g ∧ w.cell? ⟨g, i * 5 + 4, none⟩ = some (.slice (some ⟨gi, 0, none⟩) ts[i].l.length ts[i].l.length) ∧ Room w gi (ts[i].l.length * 3)

theorem Mine.mk {w : World} {lo g : Nat} {ts : List Tr} (h : Mine w lo g ts.length ts.length ts) : Mk w lo w.heap.size g ts := by
  refine ⟨h.1, fun i hi => ?_⟩
  obtain ⟨-, gi, h1, h2, h3, h4, -, h5⟩ := h.2 i hi hi
  exact ⟨gi, h1, h3, h2, h4, h5⟩

theorem Mk.on {w w1 : World} {lo hi g : Nat} {ts : List Tr} (h : Mk w lo hi g ts) (L : Below w.heap.size w w1) (hg : g < w.heap.size) (hh : hi ≤ w.heap.size) : Mk w1 lo hi g ts := by
  refine ⟨h.1.on L hg, fun i hi => ?_⟩
  obtain ⟨gi, h1, h2, h3, h4, h5⟩ := h.2 i hi
  exact ⟨gi, h1, h2, h3, by rw [L.cell (p := ⟨g, i * 5 + 4, none⟩) hg]; exact h4, h5.on L (by omega)⟩

/-- A store into one of the first four cells of a train keeps it. -/
theorem Mk.set {w : World} {lo hi g : Nat} {ts : List Tr} (h : Mk w lo hi g ts) (k r : Nat) (hr : r < 4) (u : Value) : Mk (w.setCell ⟨g, k * 5 + r, none⟩ u) lo hi g ts := by
  refine ⟨h.1.set g _ u, fun i hi => ?_⟩
  obtain ⟨gi, h1, h2, h3, h4, h5⟩ := h.2 i hi
  exact ⟨gi, h1, h2, h3, by rw [set_cell h4, if_neg (by omega)], h5.set g _ u⟩

/-- What turns one block of stops alone, and keeps its room, keeps it. -/
theorem Mk.band {w w1 : World} {lo hi g k : Nat} {ts : List Tr} (h : Mk w lo hi g ts) (L : Band k (k + 1) w w1) (hk : k ≠ g) (hR : ∀ m, Room w k m → Room w1 k m) : Mk w1 lo hi g ts := by
  have hc : ∀ b i, b ≠ k → w1.cell? ⟨b, i, none⟩ = w.cell? ⟨b, i, none⟩ := fun b i hb => World.cell?_of_block (L.block b (by omega))
  have hf : ∀ b i, b ≠ k → w1.frozen? ⟨b, i, none⟩ = w.frozen? ⟨b, i, none⟩ := fun b i hb => World.frozen?_of_block (L.block b (by omega))
  have hm : ∀ b m, Room w b m → Room w1 b m := by
    intro b m h
    by_cases e : b = k
    · subst e; exact hR m h
    · intro j hj
      rw [hc b j e, hf b j e]
      exact h j hj
  refine ⟨hm g _ h.1, fun i hi => ?_⟩
  obtain ⟨gi, h1, h2, h3, h4, h5⟩ := h.2 i hi
  exact ⟨gi, h1, h2, h3, by rw [hc g _ (fun h => hk h.symm)]; exact h4, hm gi _ h5⟩

set_option maxHeartbeats 2000000 in
theorem markTrainS_val (lo hi g : Nat) (ts : List Tr) (cap : Nat) (w : World) (hb : bulk ts ≤ 1048576) (h1 : lo ≤ g) (h2 : g < hi) (M : Mk w lo hi g ts) :
    Calls Try.prog 20 #[.slice (some ⟨g, 0, none⟩) ts.length cap, .int .i64 1] w fun e w' => ∃ z : Int, 0 ≤ z ∧ e = .returned (.int .i64 z) ∧ Band lo hi w w' := by
  have HB : Hid (bulk ts ≤ 1048576) := hb
  have hn : ts.length ≤ 1048576 := by unfold bulk at hb; omega
  clear hb
  have HM : Hid (Mk w lo hi g ts) := M
  clear M
  go_enter Try.func20, Try.ntmps20
  go_wp2
  go_loopw [1, 5] (fun t i wr => ∃ (k : Nat) (z : Int), k ≤ ts.length ∧ i = .int .i64 k ∧ t = .int .i64 z ∧ 0 ≤ z ∧ z ≤ 1 + 4 * (k : Int) + 3 * 1048576 * (k : Int) ∧ Band lo hi w wr ∧ Hid (Mk wr lo hi g ts)) (fun _ i _ => ts.length - (intOf i).toNat)
  case atStart => exact ⟨0, 1, by omega, rfl, rfl, by omega, by omega, Band.refl _ _ _, HM⟩
  case round =>
    obtain ⟨k, z, hk, rfl, rfl, hz0, hz1, L, M⟩ := hrel
    by_cases hkn : k < ts.length
    · have hq := (bulk_le HB.out k hkn).2
      have m4 := ((((M.out.set k 0 (by omega) (.int .i64 z)).set k 1 (by omega) (.int .i64 (z + 1))).set k 2 (by omega) (.int .i64 (z + 2))).set k 3 (by omega) (.int .i64 (z + 3)))
      have L4 := (((L.set (i := k * 5) h1 h2 (.int .i64 z)).set (i := k * 5 + 1) h1 h2 (.int .i64 (z + 1))).set (i := k * 5 + 2) h1 h2 (.int .i64 (z + 2))).set (i := k * 5 + 3) h1 h2 (.int .i64 (z + 3))
      obtain ⟨⟨v0, f0⟩, y0⟩ := M.out.1 (k * 5) (by omega)
      obtain ⟨⟨v1, f1⟩, y1⟩ := M.out.1 (k * 5 + 1) (by omega)
      obtain ⟨⟨v2, f2⟩, y2⟩ := M.out.1 (k * 5 + 2) (by omega)
      obtain ⟨⟨v3, f3⟩, y3⟩ := M.out.1 (k * 5 + 3) (by omega)
      obtain ⟨gi, g1, g2, g3, f4, R⟩ := M.out.2 k hkn
      have R4 := (((R.set g (k * 5) (.int .i64 z)).set g (k * 5 + 1) (.int .i64 (z + 1))).set g (k * 5 + 2) (.int .i64 (z + 2))).set g (k * 5 + 3) (.int .i64 (z + 3))
      rw [Nat.add_zero] at m4
      have HM4 : Hid (_) := m4
      have HR4 : Hid (_) := R4
      have HL4 : Hid (_) := L4
      have e2 : z + 1 + 1 = z + 2 := by omega
      have e3 : z + 2 + 1 = z + 3 := by omega
      have e4 : z + 3 + 1 = z + 4 := by omega
      clear R R4 m4 L4 M HM
      generalize ts[k].l.length = m at *
      go_wp2_with fail
      refine (markStopS_val (some ⟨gi, 0, none⟩) gi m m (z + 4) _ hq (by omega) (by omega) (Or.inr ⟨rfl, HR4.out⟩)).mono ?_
      rintro e w5 ⟨rfl, L5, -, hRm⟩
      have L6 := Band.trans HL4.out (L5.wide g1 (by omega))
      have HM6 : Hid (Mk w5 lo hi g ts) := Mk.band HM4.out L5 g3 hRm
      clear HM4 HR4 HL4 L5 hRm f0 f1 f2 f3 f4 y0 y1 y2 y3
      go_wp2
      go_roundw
      case rel => exact ⟨k + 1, z + 4 + 3 * (m : Int), by omega, by go_num, rfl, by omega, by omega, L6, HM6⟩
      case measure => simp [intOf]; omega
    · go_wp2
      go_ret
      exact ⟨z, hz0, rfl, L⟩

end Tn
end Go.Proofs.Ytfoccmhmgdengaa

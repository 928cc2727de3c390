/- (Marks from any number on.) Contracts of the laws' own helpers over what an office that begins holds: marked, and held against the marks. -/
import Derived.Test.YtehmlnojjfeheaaGreatOfStart
import Derived.Test.YtehmlnojjfeheaaGreatTnMark
namespace Go.Proofs.YtehmlnojjfeheaaGreat
namespace Of
open Go.ChangeShapes Go.WideShapes Go.ChangeAt Go.RowKit Go.Joins
open Pk (new_below join_below cell_at heap_new frozen_at lt_of kept heap_old info_of Room)
set_option linter.unusedSimpArgs false
set_option linter.unusedVariables false

open Tn (Tr Stops Trains Nums Band)
open Tf (Ed Edges)

/-- The marks of n edges in block g, from z on. -/
def MarkedE (w : World) (g n : Nat) (z : Int) : Prop := ∀ i, i < n → w.cell? ⟨g, i * 3, none⟩ = some (.int .i64 (z + 3 * (i : Int))) ∧ w.cell? ⟨g, i * 3 + 1, none⟩ = some (.int .i64 (z + 3 * (i : Int) + 1)) ∧ w.cell? ⟨g, i * 3 + 2, none⟩ = some (.int .i64 (z + 3 * (i : Int) + 2))

theorem MarkedE.on {w w1 : World} {g n B : Nat} {z : Int} (h : MarkedE w g n z) (L : Below B w w1) (hg : g < B) : MarkedE w1 g n z := by
  intro i hi
  rw [L.cell (p := ⟨g, i * 3, none⟩) hg, L.cell (p := ⟨g, i * 3 + 1, none⟩) hg, L.cell (p := ⟨g, i * 3 + 2, none⟩) hg]
  exact h i hi

theorem MarkedE.step {w : World} {g n k : Nat} {z : Int} (h : MarkedE w g k z) (R : Room w g (n * 3)) (hk : k < n) : MarkedE (((w.setCell ⟨g, k * 3, none⟩ (.int .i64 (z + 3 * (k : Int)))).setCell ⟨g, k * 3 + 1, none⟩ (.int .i64 (z + 3 * (k : Int) + 1))).setCell ⟨g, k * 3 + 2, none⟩ (.int .i64 (z + 3 * (k : Int) + 2))) g (k + 1) z := by
  intro i hi
  by_cases e : i = k
  · subst e
    obtain ⟨⟨v0, e0⟩, -⟩ := R (i * 3) (by omega)
    obtain ⟨⟨v1, e1⟩, -⟩ := R (i * 3 + 1) (by omega)
    obtain ⟨⟨v2, e2⟩, -⟩ := R (i * 3 + 2) (by omega)
    rw [Tn.set_cell (Tn.set_cell (Tn.set_cell e0)), Tn.set_cell (Tn.set_cell (Tn.set_cell e1)), Tn.set_cell (Tn.set_cell (Tn.set_cell e2))]
    simp
  · obtain ⟨e0, e1, e2⟩ := h i (by omega)
    rw [Tn.set_cell (Tn.set_cell (Tn.set_cell e0)), Tn.set_cell (Tn.set_cell (Tn.set_cell e1)), Tn.set_cell (Tn.set_cell (Tn.set_cell e2))]
    rw [if_neg (by omega), if_neg (by omega), if_neg (by omega), if_neg (by omega), if_neg (by omega), if_neg (by omega), if_neg (by omega), if_neg (by omega), if_neg (by omega)]
    exact ⟨rfl, rfl, rfl⟩

set_option maxHeartbeats 1000000 in
theorem markEdgeS_val (a : Option Addr) (g n cap : Nat) (z : Int) (w : World) (hn : n ≤ 1048576) (hz : 0 ≤ z) (hz2 : z ≤ 1152921504606846976) (h : n = 0 ∨ (a = some ⟨g, 0, none⟩ ∧ Room w g (n * 3))) :
    Calls Tryz.prog 33 #[.slice a n cap, .int .i64 z] w fun e w' => e = .returned (.int .i64 (z + 3 * (n : Int))) ∧ Band g (g + 1) w w' ∧ MarkedE w' g n z ∧ ∀ m, Room w g m → Room w' g m := by
  have HR : Hid (0 < n → a = some ⟨g, 0, none⟩ ∧ Room w g (n * 3)) := fun h0 => h.resolve_left (by omega)
  clear h
  go_enter Tryz.func33, Tryz.ntmps33
  go_wp2
  go_loopw [1, 5] (fun t i wr => ∃ k : Nat, k ≤ n ∧ i = .int .i64 k ∧ t = .int .i64 (z + 3 * (k : Int)) ∧ Band g (g + 1) w wr ∧ Hid (∀ m, Room w g m → Room wr g m) ∧ Hid (MarkedE wr g k z) ∧ Hid (0 < n → a = some ⟨g, 0, none⟩ ∧ Room wr g (n * 3))) (fun _ i _ => n - (intOf i).toNat)
  case atStart => exact ⟨0, by omega, rfl, by simp, Band.refl _ _ _, fun m h => h, fun i hi => by omega, HR⟩
  case round =>
    obtain ⟨k, hk, rfl, rfl, L, RM, M, RR⟩ := hrel
    by_cases hkn : k < n
    · obtain ⟨rfl, R⟩ := RR.out (by omega)
      have HM : Hid (_) := M.out.step R hkn
      have HQ : Hid (_) := ((R.set g (k * 3) (.int .i64 (z + 3 * (k : Int)))).set g (k * 3 + 1) (.int .i64 (z + 3 * (k : Int) + 1))).set g (k * 3 + 2) (.int .i64 (z + 3 * (k : Int) + 2))
      have HX : Hid (∀ m, Room w g m → _) := fun m h => (((RM.out m h).set g (k * 3) (.int .i64 (z + 3 * (k : Int)))).set g (k * 3 + 1) (.int .i64 (z + 3 * (k : Int) + 1))).set g (k * 3 + 2) (.int .i64 (z + 3 * (k : Int) + 2))
      have L3 := ((L.set (i := k * 3) (Nat.le_refl g) (by omega) (.int .i64 (z + 3 * (k : Int)))).set (i := k * 3 + 1) (Nat.le_refl g) (by omega) (.int .i64 (z + 3 * (k : Int) + 1))).set (i := k * 3 + 2) (Nat.le_refl g) (by omega) (.int .i64 (z + 3 * (k : Int) + 2))
      obtain ⟨⟨v0, f0⟩, z0⟩ := R (k * 3) (by omega)
      obtain ⟨⟨v1, f1⟩, z1⟩ := R (k * 3 + 1) (by omega)
      obtain ⟨⟨v2, f2⟩, z2⟩ := R (k * 3 + 2) (by omega)
      have e2 : z + 3 * (k : Int) + 1 + 1 = z + 3 * (k : Int) + 2 := by omega
      have e3 : z + 3 * (k : Int) + 2 + 1 = z + 3 * (k : Int) + 3 := by omega
      clear R M RR HR
      go_wp2
      go_roundw
      case rel => exact ⟨k + 1, by omega, by go_num, by go_num, L3, HX, HM, fun _ => ⟨by simp, HQ.out⟩⟩
      case measure => simp [intOf]; omega
    · obtain rfl : k = n := by omega
      go_wp2
      go_ret
      exact ⟨rfl, L, M.out, RM.out⟩

set_option maxHeartbeats 1000000 in
theorem heldEdgeS_val (a : Option Addr) (g n cap : Nat) (z : Int) (w : World) (hn : n ≤ 1048576) (hz : 0 ≤ z) (hz2 : z ≤ 1152921504606846976) (h : n = 0 ∨ a = some ⟨g, 0, none⟩) (M : MarkedE w g n z) :
    Calls Tryz.prog 67 #[.slice a n cap, .int .i64 z] w fun e w' => e = .returned (.int .i64 (z + 3 * (n : Int))) ∧ w' = w := by
  have HA : Hid (0 < n → a = some ⟨g, 0, none⟩) := fun h0 => h.resolve_left (by omega)
  have HM : Hid (_) := M
  clear h M
  go_enter Tryz.func67, Tryz.ntmps67
  go_wp2
  go_loop [1, 5] (fun t i => ∃ k : Nat, k ≤ n ∧ i = .int .i64 k ∧ t = .int .i64 (z + 3 * (k : Int))) (fun _ i => n - (intOf i).toNat)
  case atStart => exact ⟨0, by omega, rfl, by simp⟩
  case round =>
    obtain ⟨k, hk, rfl, rfl⟩ := hrel
    by_cases hkn : k < n
    · obtain rfl := HA.out (by omega)
      obtain ⟨c0, c1, c2⟩ := HM.out k hkn
      have e2 : z + 3 * (k : Int) + 1 + 1 = z + 3 * (k : Int) + 2 := by omega
      have e3 : z + 3 * (k : Int) + 2 + 1 = z + 3 * (k : Int) + 3 := by omega
      go_wp2
      go_round
      case rel => exact ⟨k + 1, by omega, by go_num, by go_num⟩
      case measure => simp [intOf]; omega
    · obtain rfl : k = n := by omega
      go_wp2
      go_ret
      exact ⟨rfl, rfl⟩

set_option maxHeartbeats 2000000 in
theorem markTrainS_bd (lo hi g : Nat) (ts : List Tr) (cap : Nat) (w : World) (hb : Tn.bulk ts ≤ 1048576) (h1 : lo ≤ g) (h2 : g < hi) (M : Tn.Mk w lo hi g ts) :
    Calls Tryz.prog 32 #[.slice (some ⟨g, 0, none⟩) ts.length cap, .int .i64 1] w fun e w' => ∃ z : Int, 1 ≤ z ∧ z ≤ 1 + 4 * (ts.length : Int) + 3 * 1048576 * (ts.length : Int) ∧ e = .returned (.int .i64 z) ∧ Band lo hi w w' := by
  have HB : Hid (Tn.bulk ts ≤ 1048576) := hb
  have hn : ts.length ≤ 1048576 := by unfold Tn.bulk at hb; omega
  clear hb
  have HM : Hid (Tn.Mk w lo hi g ts) := M
  clear M
  go_enter Tryz.func32, Tryz.ntmps32
  go_wp2
  go_loopw [1, 5] (fun t i wr => ∃ (k : Nat) (z : Int), k ≤ ts.length ∧ i = .int .i64 k ∧ t = .int .i64 z ∧ 1 ≤ z ∧ z ≤ 1 + 4 * (k : Int) + 3 * 1048576 * (k : Int) ∧ Band lo hi w wr ∧ Hid (Tn.Mk wr lo hi g ts)) (fun _ i _ => ts.length - (intOf i).toNat)
  case atStart => exact ⟨0, 1, by omega, rfl, rfl, by omega, by omega, Band.refl _ _ _, HM⟩
  case round =>
    obtain ⟨k, z, hk, rfl, rfl, hz0, hz1, L, M⟩ := hrel
    by_cases hkn : k < ts.length
    · have hq := (Tn.bulk_le HB.out k hkn).2
      have m4 := ((((M.out.set k 0 (by omega) (.int .i64 z)).set k 1 (by omega) (.int .i64 (z + 1))).set k 2 (by omega) (.int .i64 (z + 2))).set k 3 (by omega) (.int .i64 (z + 3)))
      have L4 := (((L.set (i := k * 5) h1 h2 (.int .i64 z)).set (i := k * 5 + 1) h1 h2 (.int .i64 (z + 1))).set (i := k * 5 + 2) h1 h2 (.int .i64 (z + 2))).set (i := k * 5 + 3) h1 h2 (.int .i64 (z + 3))
      obtain ⟨⟨v0, f0⟩, y0⟩ := M.out.1 (k * 5) (by omega)
      obtain ⟨⟨v1, f1⟩, y1⟩ := M.out.1 (k * 5 + 1) (by omega)
      obtain ⟨⟨v2, f2⟩, y2⟩ := M.out.1 (k * 5 + 2) (by omega)
      obtain ⟨⟨v3, f3⟩, y3⟩ := M.out.1 (k * 5 + 3) (by omega)
      obtain ⟨gi, g1, g2, g3, f4, R⟩ := M.out.2 k hkn
      have R4 := (((R.set g (k * 5) (.int .i64 z)).set g (k * 5 + 1) (.int .i64 (z + 1))).set g (k * 5 + 2) (.int .i64 (z + 2))).set g (k * 5 + 3) (.int .i64 (z + 3))
      rw [Nat.add_zero] at m4
      have HM4 : Hid (_) := m4
      have HR4 : Hid (_) := R4
      have HL4 : Hid (_) := L4
      have e2 : z + 1 + 1 = z + 2 := by omega
      have e3 : z + 2 + 1 = z + 3 := by omega
      have e4 : z + 3 + 1 = z + 4 := by omega
      clear R R4 m4 L4 M HM
      generalize ts[k].l.length = m at *
      go_wp2_with fail
      refine (Tn.markStopS_val (some ⟨gi, 0, none⟩) gi m m (z + 4) _ hq (by omega) (by omega) (Or.inr ⟨rfl, HR4.out⟩)).mono ?_
      rintro e w5 ⟨rfl, L5, -, hRm⟩
      have L6 := Band.trans HL4.out (L5.wide g1 (by omega))
      have HM6 : Hid (Tn.Mk w5 lo hi g ts) := Tn.Mk.band HM4.out L5 g3 hRm
      clear HM4 HR4 HL4 L5 hRm f0 f1 f2 f3 f4 y0 y1 y2 y3
      go_wp2
      go_roundw
      case rel => exact ⟨k + 1, z + 4 + 3 * (m : Int), by omega, by go_num, rfl, by omega, by omega, L6, HM6⟩
      case measure => simp [intOf]; omega
    · obtain rfl : k = ts.length := by omega
      go_wp2
      go_ret
      exact ⟨z, hz0, hz1, rfl, L⟩

/-- The mark that train k begins with. -/
def off (z0 : Int) (ts : List Tr) : Nat → Int
  | 0 => z0
  | k + 1 => off z0 ts k + 4 + 3 * ((ts.getD k Tn.t0).l.length : Int)

theorem off_step (z0 : Int) (ts : List Tr) (k : Nat) (h : k < ts.length) : off z0 ts (k + 1) = off z0 ts k + 4 + 3 * (ts[k].l.length : Int) := by
  show off z0 ts k + 4 + 3 * ((ts.getD k Tn.t0).l.length : Int) = _
  rw [Tn.getT_at ts k h]

theorem off_bd (z0 : Int) (ts : List Tr) (hs : ∀ i (h : i < ts.length), ts[i].l.length ≤ 20) (k : Nat) (hk : k ≤ ts.length) : z0 ≤ off z0 ts k ∧ off z0 ts k ≤ z0 + 64 * (k : Int) := by
  induction k with
  | zero => exact ⟨by show z0 ≤ z0; omega, by show z0 ≤ _; omega⟩
  | succ k ih =>
    have := ih (by omega)
    have := hs k (by omega)
    rw [off_step z0 ts k (by omega)]
    omega

/-- A list of trains that may be marked, and whose marks then stay apart. -/
structure Mc (w : World) (lo hi g : Nat) (gf cf : Nat → Nat) (ts : List Tr) : Prop where
  room : Room w g (ts.length * 5)
  each : ∀ i (h : i < ts.length), lo ≤ gf i ∧ gf i < hi ∧ gf i ≠ g ∧ w.cell? ⟨g, i * 5 + 4, none⟩ = some (.slice (some ⟨gf i, 0, none⟩) ts[i].l.length (cf i)) ∧ Room w (gf i) (ts[i].l.length * 3)
  apart : ∀ i j, i < ts.length → j < ts.length → i ≠ j → gf i ≠ gf j

theorem Mc.of {w : World} {lo hi g : Nat} {gf cf : Nat → Nat} {ts : List Tr} (h : Cp w lo g gf cf ts.length ts) (hf : ∀ i, i < ts.length → gf i < hi) : Mc w lo hi g gf cf ts := by
  refine ⟨h.room, fun i hi => ?_, fun i j hi hj hne => h.apart i j hi hj hi hj hne⟩
  obtain ⟨q1, q2, q3, q4, q5, q6⟩ := h.each i hi hi
  exact ⟨q1, hf i hi, q2, q4, q6⟩

theorem Mc.set {w : World} {lo hi g : Nat} {gf cf : Nat → Nat} {ts : List Tr} (h : Mc w lo hi g gf cf ts) (k r : Nat) (hr : r < 4) (u : Value) : Mc (w.setCell ⟨g, k * 5 + r, none⟩ u) lo hi g gf cf ts := by
  refine ⟨h.room.set g _ u, fun i hi => ?_, h.apart⟩
  obtain ⟨h1, h2, h3, h4, h5⟩ := h.each i hi
  exact ⟨h1, h2, h3, by rw [Od.set_cell h4, if_neg (by omega)], h5.set g _ u⟩

theorem Mc.band {w w1 : World} {lo hi g k : Nat} {gf cf : Nat → Nat} {ts : List Tr} (h : Mc w lo hi g gf cf ts) (L : Band k (k + 1) w w1) (hk : k ≠ g) (hR : ∀ m, Room w k m → Room w1 k m) : Mc w1 lo hi g gf cf ts := by
  have hc : ∀ b i, b ≠ k → w1.cell? ⟨b, i, none⟩ = w.cell? ⟨b, i, none⟩ := fun b i hb => World.cell?_of_block (L.block b (by omega))
  have hf : ∀ b i, b ≠ k → w1.frozen? ⟨b, i, none⟩ = w.frozen? ⟨b, i, none⟩ := fun b i hb => World.frozen?_of_block (L.block b (by omega))
  have hm : ∀ b m, Room w b m → Room w1 b m := by
    intro b m h
    by_cases e : b = k
    · subst e; exact hR m h
    · intro j hj
      rw [hc b j e, hf b j e]
      exact h j hj
  refine ⟨hm g _ h.room, fun i hi => ?_, h.apart⟩
  obtain ⟨h1, h2, h3, h4, h5⟩ := h.each i hi
  exact ⟨h1, h2, h3, by rw [hc g _ (fun h => hk h.symm)]; exact h4, hm (gf i) _ h5⟩

/-- The first k trains bear their marks. -/
def MT (z0 : Int) (w : World) (g : Nat) (gf : Nat → Nat) (ts : List Tr) (k : Nat) : Prop := ∀ i (h : i < ts.length), i < k → (w.cell? ⟨g, i * 5, none⟩ = some (.int .i64 (off z0 ts i)) ∧ w.cell? ⟨g, i * 5 + 1, none⟩ = some (.int .i64 (off z0 ts i + 1)) ∧ w.cell? ⟨g, i * 5 + 2, none⟩ = some (.int .i64 (off z0 ts i + 2)) ∧ w.cell? ⟨g, i * 5 + 3, none⟩ = some (.int .i64 (off z0 ts i + 3))) ∧ Tn.Marked w (gf i) ts[i].l.length (off z0 ts i + 4)

/-- Four cells of a train marked. -/
def set4 (w : World) (g k : Nat) (z : Int) : World := (((w.setCell ⟨g, k * 5, none⟩ (.int .i64 z)).setCell ⟨g, k * 5 + 1, none⟩ (.int .i64 (z + 1))).setCell ⟨g, k * 5 + 2, none⟩ (.int .i64 (z + 2))).setCell ⟨g, k * 5 + 3, none⟩ (.int .i64 (z + 3))

theorem set4_cell {w : World} {g i k : Nat} {z : Int} {v : Value} (h : w.cell? ⟨g, i, none⟩ = some v) : (set4 w g k z).cell? ⟨g, i, none⟩ = some (if i = k * 5 + 3 then .int .i64 (z + 3) else if i = k * 5 + 2 then .int .i64 (z + 2) else if i = k * 5 + 1 then .int .i64 (z + 1) else if i = k * 5 then .int .i64 z else v) := Od.set_cell (Od.set_cell (Od.set_cell (Od.set_cell h)))

theorem set4_other {w : World} {g k : Nat} {z : Int} {p : Addr} (h : p.block ≠ g) : (set4 w g k z).cell? p = w.cell? p := by
  unfold set4
  rw [Od.cell_other h, Od.cell_other h, Od.cell_other h, Od.cell_other h]

theorem MT.step {z0 : Int} {w w5 : World} {lo hi g k : Nat} {gf cf : Nat → Nat} {ts : List Tr} (h : MT z0 w g gf ts k) (M : Mc w lo hi g gf cf ts) (hk : k < ts.length) (L : Band (gf k) (gf k + 1) (set4 w g k (off z0 ts k)) w5) (MK : Tn.Marked w5 (gf k) ts[k].l.length (off z0 ts k + 4)) : MT z0 w5 g gf ts (k + 1) := by
  have hgk := (M.each k hk).2.2.1
  have hc : ∀ b i, b ≠ gf k → w5.cell? ⟨b, i, none⟩ = (set4 w g k (off z0 ts k)).cell? ⟨b, i, none⟩ := fun b i hb => World.cell?_of_block (L.block b (by omega))
  intro i hi hik
  by_cases e : i = k
  · subst e
    refine ⟨?_, MK⟩
    obtain ⟨⟨v0, e0⟩, -⟩ := M.room (i * 5) (by omega)
    obtain ⟨⟨v1, e1⟩, -⟩ := M.room (i * 5 + 1) (by omega)
    obtain ⟨⟨v2, e2⟩, -⟩ := M.room (i * 5 + 2) (by omega)
    obtain ⟨⟨v3, e3⟩, -⟩ := M.room (i * 5 + 3) (by omega)
    rw [hc g _ (fun h => hgk h.symm), hc g _ (fun h => hgk h.symm), hc g _ (fun h => hgk h.symm), hc g _ (fun h => hgk h.symm), set4_cell e0, set4_cell e1, set4_cell e2, set4_cell e3]
    simp
  · obtain ⟨⟨q0, q1, q2, q3⟩, q4⟩ := h i hi (by omega)
    refine ⟨?_, fun j hj => ?_⟩
    · rw [hc g _ (fun h => hgk h.symm), hc g _ (fun h => hgk h.symm), hc g _ (fun h => hgk h.symm), hc g _ (fun h => hgk h.symm), set4_cell q0, set4_cell q1, set4_cell q2, set4_cell q3]
      rw [if_neg (by omega), if_neg (by omega), if_neg (by omega), if_neg (by omega), if_neg (by omega), if_neg (by omega), if_neg (by omega), if_neg (by omega), if_neg (by omega), if_neg (by omega), if_neg (by omega), if_neg (by omega), if_neg (by omega), if_neg (by omega), if_neg (by omega), if_neg (by omega)]
      exact ⟨rfl, rfl, rfl, rfl⟩
    · have ha := M.apart i k hi hk e
      have hb := (M.each i hi).2.2.1
      rw [hc (gf i) _ ha, hc (gf i) _ ha, hc (gf i) _ ha, set4_other (p := ⟨gf i, j * 3, none⟩) hb, set4_other (p := ⟨gf i, j * 3 + 1, none⟩) hb, set4_other (p := ⟨gf i, j * 3 + 2, none⟩) hb]
      exact q4 j hj

theorem MT.away {z0 : Int} {w w1 : World} {g k : Nat} {gf : Nat → Nat} {ts : List Tr} (h : MT z0 w g gf ts k) (hc : ∀ b i, b = g ∨ (∃ j, j < ts.length ∧ b = gf j) → w1.cell? ⟨b, i, none⟩ = w.cell? ⟨b, i, none⟩) : MT z0 w1 g gf ts k := by
  intro i hi hik
  obtain ⟨⟨q0, q1, q2, q3⟩, q4⟩ := h i hi hik
  refine ⟨?_, fun j hj => ?_⟩
  · rw [hc g _ (Or.inl rfl), hc g _ (Or.inl rfl), hc g _ (Or.inl rfl), hc g _ (Or.inl rfl)]
    exact ⟨q0, q1, q2, q3⟩
  · rw [hc (gf i) _ (Or.inr ⟨i, hi, rfl⟩), hc (gf i) _ (Or.inr ⟨i, hi, rfl⟩), hc (gf i) _ (Or.inr ⟨i, hi, rfl⟩)]
    exact q4 j hj

set_option maxHeartbeats 2000000 in
theorem markTrainS_own (z0 : Int) (hz1 : 0 ≤ z0) (hz2 : z0 ≤ 1152921504606840000) (lo hi g : Nat) (gf cf : Nat → Nat) (ts : List Tr) (cap : Nat) (w : World) (hn : ts.length ≤ 40) (hs : ∀ i (h : i < ts.length), ts[i].l.length ≤ 20) (h1 : lo ≤ g) (h2 : g < hi) (M : Mc w lo hi g gf cf ts) :
    Calls Tryz.prog 32 #[.slice (some ⟨g, 0, none⟩) ts.length cap, .int .i64 z0] w fun e w' => e = .returned (.int .i64 (off z0 ts ts.length)) ∧ Band lo hi w w' ∧ MT z0 w' g gf ts ts.length ∧ Mc w' lo hi g gf cf ts := by
  have HS : Hid (∀ i (h : i < ts.length), ts[i].l.length ≤ 20) := hs
  have HM : Hid (Mc w lo hi g gf cf ts) := M
  clear M hs
  go_enter Tryz.func32, Tryz.ntmps32
  go_wp2
  go_loopw [1, 5] (fun t i wr => ∃ (k : Nat), k ≤ ts.length ∧ i = .int .i64 k ∧ t = .int .i64 (off z0 ts k) ∧ Band lo hi w wr ∧ Hid (Mc wr lo hi g gf cf ts) ∧ Hid (MT z0 wr g gf ts k)) (fun _ i _ => ts.length - (intOf i).toNat)
  case atStart => exact ⟨0, by omega, rfl, rfl, Band.refl _ _ _, HM, fun i hi h => by omega⟩
  case round =>
    obtain ⟨k, hk, rfl, rfl, L, M, T⟩ := hrel
    have hob := off_bd z0 ts HS.out k hk
    by_cases hkn : k < ts.length
    · have hq := HS.out k hkn
      have HZ : Hid (off z0 ts (k + 1) = off z0 ts k + 4 + 3 * (ts[k].l.length : Int)) := off_step z0 ts k hkn
      have m4 := ((((M.out.set k 0 (by omega) (.int .i64 (off z0 ts k))).set k 1 (by omega) (.int .i64 (off z0 ts k + 1))).set k 2 (by omega) (.int .i64 (off z0 ts k + 2))).set k 3 (by omega) (.int .i64 (off z0 ts k + 3)))
      have L4 := (((L.set (i := k * 5) h1 h2 (.int .i64 (off z0 ts k))).set (i := k * 5 + 1) h1 h2 (.int .i64 (off z0 ts k + 1))).set (i := k * 5 + 2) h1 h2 (.int .i64 (off z0 ts k + 2))).set (i := k * 5 + 3) h1 h2 (.int .i64 (off z0 ts k + 3))
      obtain ⟨⟨v0, f0⟩, y0⟩ := M.out.room (k * 5) (by omega)
      obtain ⟨⟨v1, f1⟩, y1⟩ := M.out.room (k * 5 + 1) (by omega)
      obtain ⟨⟨v2, f2⟩, y2⟩ := M.out.room (k * 5 + 2) (by omega)
      obtain ⟨⟨v3, f3⟩, y3⟩ := M.out.room (k * 5 + 3) (by omega)
      obtain ⟨g1, g2, g3, f4, R⟩ := M.out.each k hkn
      have R4 := (((R.set g (k * 5) (.int .i64 (off z0 ts k))).set g (k * 5 + 1) (.int .i64 (off z0 ts k + 1))).set g (k * 5 + 2) (.int .i64 (off z0 ts k + 2))).set g (k * 5 + 3) (.int .i64 (off z0 ts k + 3))
      rw [Nat.add_zero] at m4
      have HST : Hid (∀ w5, Band (gf k) (gf k + 1) (set4 wr g k (off z0 ts k)) w5 → Tn.Marked w5 (gf k) ts[k].l.length (off z0 ts k + 4) → MT z0 w5 g gf ts (k + 1)) := fun w5 B5 MK => T.out.step M.out hkn B5 MK
      have HM4 : Hid (_) := m4
      have HR4 : Hid (_) := R4
      have HL4 : Hid (_) := L4
      clear R R4 m4 L4 M HM T
      generalize ts[k].l.length = m at *
      generalize off z0 ts k = z at *
      have e2 : z + 1 + 1 = z + 2 := by omega
      have e3 : z + 2 + 1 = z + 3 := by omega
      have e4 : z + 3 + 1 = z + 4 := by omega
      generalize gf k = gi at *
      generalize cf k = ck at *
      go_wp2_with fail
      refine (Tn.markStopS_val (some ⟨gi, 0, none⟩) gi m ck (z + 4) _ (by omega) (by omega) (by omega) (Or.inr ⟨rfl, HR4.out⟩)).mono ?_
      rintro e w5 ⟨rfl, L5, MK5, hRm⟩
      have L6 := Band.trans HL4.out (L5.wide g1 (by omega))
      have HM6 : Hid (Mc w5 lo hi g gf cf ts) := Mc.band HM4.out L5 g3 hRm
      have HT6 : Hid (MT z0 w5 g gf ts (k + 1)) := HST.out w5 L5 MK5
      clear HM4 HR4 HL4 L5 hRm f0 f1 f2 f3 f4 y0 y1 y2 y3 HST MK5
      go_wp2
      go_roundw
      case rel => exact ⟨k + 1, by omega, by go_num, by rw [HZ.out], L6, HM6, HT6⟩
      case measure => simp [intOf]; omega
    · obtain rfl : k = ts.length := by omega
      go_wp2
      go_ret
      exact ⟨rfl, L, T.out, M.out⟩

set_option maxHeartbeats 2000000 in
theorem heldTrainS_own (z0 : Int) (hz1 : 0 ≤ z0) (hz2 : z0 ≤ 1152921504606840000) (lo hi g : Nat) (gf cf : Nat → Nat) (ts : List Tr) (cap : Nat) (w : World) (hn : ts.length ≤ 40) (hs : ∀ i (h : i < ts.length), ts[i].l.length ≤ 20) (M : Mc w lo hi g gf cf ts) (T : MT z0 w g gf ts ts.length) :
    Calls Tryz.prog 66 #[.slice (some ⟨g, 0, none⟩) ts.length cap, .int .i64 z0] w fun e w' => e = .returned (.int .i64 (off z0 ts ts.length)) ∧ w' = w := by
  have HS : Hid (∀ i (h : i < ts.length), ts[i].l.length ≤ 20) := hs
  have HM : Hid (Mc w lo hi g gf cf ts) := M
  have HT : Hid (MT z0 w g gf ts ts.length) := T
  clear M T hs
  go_enter Tryz.func66, Tryz.ntmps66
  go_wp2
  go_loopw [1, 5] (fun t i wr => ∃ (k : Nat), k ≤ ts.length ∧ i = .int .i64 k ∧ t = .int .i64 (off z0 ts k) ∧ w = wr) (fun _ i _ => ts.length - (intOf i).toNat)
  case atStart => exact ⟨0, by omega, rfl, rfl, rfl⟩
  case round =>
    obtain ⟨k, hk, rfl, rfl, hwr⟩ := hrel
    subst hwr
    have hob := off_bd z0 ts HS.out k hk
    by_cases hkn : k < ts.length
    · have hq := HS.out k hkn
      have HZ : Hid (off z0 ts (k + 1) = off z0 ts k + 4 + 3 * (ts[k].l.length : Int)) := off_step z0 ts k hkn
      obtain ⟨g1, g2, g3, f4, R⟩ := HM.out.each k hkn
      obtain ⟨⟨q0, q1, q2, q3⟩, q4⟩ := HT.out k hkn hkn
      have HK : Hid (∀ _ : Unit, _) := fun _ => Tn.heldStopS_val (some ⟨gf k, 0, none⟩) (gf k) ts[k].l.length (cf k) (off z0 ts k + 4) w (by omega) (by omega) (by omega) (Or.inr rfl) q4
      clear R q4
      generalize ts[k].l.length = m at *
      generalize off z0 ts k = z at *
      have e2 : z + 1 + 1 = z + 2 := by omega
      have e3 : z + 2 + 1 = z + 3 := by omega
      have e4 : z + 3 + 1 = z + 4 := by omega
      have hd : decide (z + 4 + 3 * (m : Int) < 0) = false := decide_eq_false (by omega)
      generalize gf k = gi at *
      generalize cf k = ck at *
      go_wp2_with fail
      refine (HK.out ()).mono ?_
      rintro e w5 ⟨rfl, hw5⟩
      have hw6 := hw5.symm
      clear hw5
      subst hw6
      go_wp2
      go_roundw
      case rel => exact ⟨k + 1, by omega, by go_num, by rw [HZ.out], by first | rfl | trivial⟩
      case measure => simp [intOf]; omega
    · obtain rfl : k = ts.length := by omega
      go_wp2
      go_ret
      exact ⟨rfl, rfl⟩

end Of
end Go.Proofs.YtehmlnojjfeheaaGreat

/- Texts laid into one, in their order: HnInts, HnOff, HnHand, HnOk, HnOkS, Math, Num, NumPow, NumGcd, NumInv, NumPrime, NumAll, MathSign, NumSignVal, MathSum, NumFold, SignSpec, SignImpl, HnOpen, HnMark, HnCopy, HnStart, SignSpec2, SignKey, DkLit, DkDeskI, DkDeskS. -/
import Derived.Test.YtmoinacceildcaaGreatDoorHnCtl
import Derived.Handy
import Derived.Test.YtmoinacceildcaaGreatDoorRows
import Derived.WalkKit
import Derived.ProofKit
import Derived.OpenShut
import Derived.Deep.QuietTactic
import Derived.BigQuiet
import Derived.WalkSmall
import Derived.Laws.Bits64
import Derived.Laws.BitsLemmas
import Derived.Below
import Derived.Deep.RegionWith
import Derived.Deep.Slices
import Derived.Lib.SmallJoins
import Derived.Test.YtmoinacceildcaaGreatDoorErrs
import Derived.Test.YtmoinacceildcaaGreatDoorDkPlat
import Derived.Laws.CopyOwn
import Derived.Laws.Tables
import Derived.Deep.WholeRow
/- Contracts of the laws' own helpers over slices of numbers: their size, a copy, two held against each other, marked from a number on and held against the marks. -/
namespace Go.Proofs.YtmoinacceildcaaGreatDoor
namespace Hn
open Go.ChangeShapes Go.WideShapes Go.ChangeAt Go.RowKit
open Pk (new_below join_below cell_at heap_new frozen_at lt_of kept info_of own_form own_below Drawn Room)
set_option linter.unusedSimpArgs false
set_option linter.unusedVariables false

/-- A slice of numbers. -/
def Ints (w : World) (a : Option Addr) (zs : List Int) : Prop := zs = [] ∨ ∃ b o, a = some ⟨b, o, none⟩ ∧ b < w.heap.size ∧ ∀ i (hi : i < zs.length), w.cell? ⟨b, o + i, none⟩ = some (.int .i64 zs[i])

theorem Ints.on {w w1 : World} {a : Option Addr} {zs : List Int} (h : Ints w a zs) (hb : Below w.heap.size w w1) : Ints w1 a zs := by
  rcases h with h | ⟨b, o, ha, hlt, hc⟩
  · exact Or.inl h
  · exact Or.inr ⟨b, o, ha, Nat.lt_of_lt_of_le hlt hb.size, fun i hi => by rw [hb.cell (p := ⟨b, o + i, none⟩) hlt]; exact hc i hi⟩

theorem Ints.at {w : World} {a : Option Addr} {zs : List Int} (h : Ints w a zs) (i : Nat) (hi : i < zs.length) : ∃ b o, a = some ⟨b, o, none⟩ ∧ b < w.heap.size ∧ w.cell? ⟨b, o + i, none⟩ = some (.int .i64 zs[i]) := by
  rcases h with h | ⟨b, o, ha, hlt, hc⟩
  · subst h; simp at hi
  · exact ⟨b, o, ha, hlt, hc i hi⟩

theorem intInfo : (Tryz.prog.info? 3).map (fun i => (i.zero, i.size, i.bytes)) = some (some (.int .i64 0), 1, 8) := by kernel_rfl

/-- The first k cells of block g hold the numbers; all n can be written. -/
def Filled (w : World) (g n k : Nat) (zs : List Int) : Prop := ∀ j, j < n → (∃ v, w.cell? ⟨g, j, none⟩ = some v) ∧ w.frozen? ⟨g, j, none⟩ = false ∧ (j < k → w.cell? ⟨g, j, none⟩ = some (.int .i64 (zs.getD j 0)))

theorem Filled.step {w : World} {g n k : Nat} {zs : List Int} (h : Filled w g n k zs) : Filled (w.setCell ⟨g, k, none⟩ (.int .i64 (zs.getD k 0))) g n (k + 1) zs := by
  intro j hj
  obtain ⟨⟨v, hv⟩, hf, hc⟩ := h j hj
  by_cases e : j = k
  · subst e
    refine ⟨⟨_, World.cell?_setCell_same _ _ _ hv⟩, by rw [World.frozen?_setCell]; exact hf, fun _ => World.cell?_setCell_same _ _ _ hv⟩
  · have hne : (⟨g, j, none⟩ : Addr) ≠ ⟨g, k, none⟩ := by simp [e]
    refine ⟨⟨v, by rw [World.cell?_setCell_other _ _ _ _ (by simp [e])]; exact hv⟩, by rw [World.frozen?_setCell]; exact hf, fun hk => ?_⟩
    rw [World.cell?_setCell_other _ _ _ _ (by simp [e])]
    exact hc (by omega)

theorem Filled.ints {w : World} {g : Nat} {zs : List Int} (h : Filled w g zs.length zs.length zs) (hg : g < w.heap.size) : Ints w (some ⟨g, 0, none⟩) zs := by
  refine Or.inr ⟨g, 0, rfl, hg, fun i hi => ?_⟩
  have := (h i hi).2.2 hi
  rw [Nat.zero_add, this, List.getD_eq_getElem?_getD, List.getElem?_eq_getElem hi]
  rfl

theorem Filled.made {w : World} {g n : Nat} {cur : Array Value} {t : TypeId} {zs : List Int} (h : w.heap[g]? = some (.cells cur t (0, 0))) (hs : cur.size = n) : Filled w g n 0 zs := by
  intro j hj
  refine ⟨⟨cur[j], ?_⟩, frozen_at h j, fun hk => by omega⟩
  rw [cell_at h j]
  exact Array.getElem?_eq_getElem (by omega)

/-- What came in as a row, as a slice of numbers. -/
theorem ints_row {w : World} {x : Addr} {len : Nat} {zs : List Int} (hl : len ≤ zs.length) (hc : ∀ i, i < zs.length → w.cell? (x.add i) = some (.int .i64 (zs.getD i 0))) : ∃ ys : List Int, ys.length = len ∧ Ints w (some x) ys := by
  by_cases h0 : len = 0
  · exact ⟨[], h0.symm, Or.inl rfl⟩
  obtain ⟨b, o, spot⟩ := x
  have hs := World.cell?_spot (hc 0 (by omega))
  simp [Addr.add] at hs
  subst hs
  refine ⟨zs.take len, by rw [List.length_take]; omega, Or.inr ⟨b, o, rfl, ?_, fun i hi => ?_⟩⟩
  · have h1 := hc 0 (by omega)
    apply Nat.lt_of_not_le
    intro hle
    unfold World.cell? at h1
    simp [Addr.add, Array.getElem?_eq_none hle] at h1
  · rw [List.length_take] at hi
    have h1 := hc i (by omega)
    rw [show Addr.add ⟨b, o, none⟩ i = ⟨b, o + i, none⟩ by simp [Addr.add]] at h1
    rw [h1, List.getElem_take, List.getD_eq_getElem?_getD, List.getElem?_eq_getElem (by omega)]
    rfl

set_option maxHeartbeats 1000000 in
theorem eqIntS_same (a b : Option Addr) (zs : List Int) (c1 c2 : Nat) (w : World) (hz : zs.length ≤ 1048576) (I : Ints w a zs) (J : Ints w b zs) :
    Calls Tryz.prog 52 #[.slice a zs.length c1, .slice b zs.length c2] w fun e w' => e = .returned (.bool true) ∧ Drawn w w' := by
  go_enter Tryz.func52, Tryz.ntmps52
  go_wp2
  go_loopw [5] (fun i wr => ∃ (k n : Nat), k ≤ zs.length ∧ i = .int .i64 k ∧ wr = w.drewN n) (fun i _ => zs.length - (intOf i).toNat)
  case atStart => exact ⟨0, 0, by omega, rfl, rfl⟩
  case round =>
    obtain ⟨k, n, hk, rfl, rfl⟩ := hrel
    by_cases hkn : k < zs.length
    · obtain ⟨x, o, rfl, hx, hxc⟩ := I.at k hkn
      obtain ⟨y, u, rfl, hy, hyc⟩ := J.at k hkn
      generalize zs[k] = z at *
      go_wp2
      go_quiet (fail)
      go_wp2
      go_roundw
      case rel => exact ⟨k + 1, n + nq, by omega, by go_num, rfl⟩
      case measure => simp [intOf]; omega
    · go_wp2
      go_ret
      exact ⟨rfl, n, rfl⟩

/-- All but the blocks from lo up to hi is as it was. -/
structure Band (lo hi : Nat) (w w' : World) : Prop where
  os : w'.os = w.os
  tape : w'.tape = w.tape
  output : w'.output = w.output
  size : w'.heap.size = w.heap.size
  block : ∀ b, b < lo ∨ hi ≤ b → w'.heap[b]? = w.heap[b]?

theorem Band.refl (lo hi : Nat) (w : World) : Band lo hi w w := ⟨rfl, rfl, rfl, rfl, fun _ _ => rfl⟩

theorem Band.trans {lo hi : Nat} {a b c : World} (h : Band lo hi a b) (k : Band lo hi b c) : Band lo hi a c :=
  ⟨k.os.trans h.os, k.tape.trans h.tape, k.output.trans h.output, k.size.trans h.size, fun i hi => (k.block i hi).trans (h.block i hi)⟩

theorem Band.wide {lo hi lo' hi' : Nat} {w w' : World} (h : Band lo hi w w') (h1 : lo' ≤ lo) (h2 : hi ≤ hi') : Band lo' hi' w w' :=
  ⟨h.os, h.tape, h.output, h.size, fun b hb => h.block b (by omega)⟩

theorem Band.set {lo hi : Nat} {a w : World} (h : Band lo hi a w) {g i : Nat} (h1 : lo ≤ g) (h2 : g < hi) (u : Value) : Band lo hi a (w.setCell ⟨g, i, none⟩ u) := by
  have L := (Below.refl 0 w).setCell (p := ⟨g, i, none⟩) (Nat.zero_le _) u
  refine ⟨L.os.trans h.os, L.tape.trans h.tape, L.output.trans h.output, by rw [World.size_setCell]; exact h.size, fun b hb => ?_⟩
  rw [Below.heap_setCell w ⟨g, i, none⟩ u b (by show b ≠ g; omega)]
  exact h.block b hb

theorem Band.below {lo hi : Nat} {w w' : World} (h : Band lo hi w w') : Below lo w w' := ⟨h.os, h.tape, h.output, Nat.le_of_eq h.size.symm, fun k hk => h.block k (Or.inl hk)⟩


theorem Ints.band {lo hi : Nat} {w w1 : World} {a : Option Addr} {zs : List Int} (h : Ints w a zs) (L : Band lo hi w w1) (ha : ∀ b o, a = some ⟨b, o, none⟩ → zs ≠ [] → b < lo ∨ hi ≤ b) : Ints w1 a zs := by
  rcases h with h | ⟨b, o, rfl, hlt, hc⟩
  · exact Or.inl h
  · by_cases hz : zs = []
    · exact Or.inl hz
    · exact Or.inr ⟨b, o, rfl, by rw [L.size]; exact hlt, fun i hi => by rw [World.cell?_of_block (a := ⟨b, o + i, none⟩) (L.block b (ha b o rfl hz))]; exact hc i hi⟩

/-- Numbers in a block of their own have room. -/
theorem Ints.room {w : World} {g : Nat} {zs : List Int} (h : Ints w (some ⟨g, 0, none⟩) zs) (hf : ∀ i, w.frozen? ⟨g, i, none⟩ = false) : Room w g zs.length := by
  intro j hj
  obtain ⟨b, o, e, -, hc⟩ := h.at j hj
  simp only [Option.some.injEq, Addr.mk.injEq] at e
  obtain ⟨rfl, rfl, -⟩ := e
  rw [Nat.zero_add] at hc
  exact ⟨⟨_, hc⟩, hf j⟩

theorem Room.band {lo hi : Nat} {w w1 : World} {g m : Nat} (h : Room w g m) (L : Band lo hi w w1) (hg : g < lo ∨ hi ≤ g) : Room w1 g m := by
  intro j hj
  rw [World.cell?_of_block (a := ⟨g, j, none⟩) (L.block g hg), World.frozen?_of_block (a := ⟨g, j, none⟩) (L.block g hg)]
  exact h j hj

/-- The marks of n numbers in block g. -/
def Mkd (z : Int) (w : World) (g n : Nat) : Prop := ∀ i, i < n → w.cell? ⟨g, i, none⟩ = some (.int .i64 (z + (i : Int)))

theorem Mkd.on {w w1 : World} {g n B : Nat} {z : Int} (h : Mkd z w g n) (L : Below B w w1) (hg : g < B) : Mkd z w1 g n := by
  intro i hi
  rw [L.cell (p := ⟨g, i, none⟩) hg]
  exact h i hi

theorem Mkd.step {w : World} {g n k : Nat} {z : Int} (h : Mkd z w g k) (R : Room w g n) (hk : k < n) : Mkd z (w.setCell ⟨g, k, none⟩ (.int .i64 (z + (k : Int)))) g (k + 1) := by
  intro i hi
  by_cases e : i = k
  · subst e
    obtain ⟨⟨v, hv⟩, -⟩ := R i hk
    rw [set_cell hv, if_pos rfl]
  · rw [set_cell (h i (by omega)), if_neg e]

set_option maxHeartbeats 1000000 in
theorem markIntS_val (a : Option Addr) (g n cap : Nat) (z : Int) (w : World) (hn : n ≤ 1048576) (hz0 : 0 ≤ z) (hz1 : z ≤ 1152921504606846976) (h : n = 0 ∨ (a = some ⟨g, 0, none⟩ ∧ Room w g n)) :
    Calls Tryz.prog 55 #[.slice a n cap, .int .i64 z] w fun e w' => e = .returned (.int .i64 (z + (n : Int))) ∧ Band g (g + 1) w w' ∧ Mkd z w' g n ∧ ∀ m, Room w g m → Room w' g m := by
  have HR : Hid (0 < n → a = some ⟨g, 0, none⟩ ∧ Room w g n) := fun h0 => h.resolve_left (by omega)
  clear h
  go_enter Tryz.func55, Tryz.ntmps55
  go_wp2
  go_loopw [1, 5] (fun t i wr => ∃ k : Nat, k ≤ n ∧ i = .int .i64 k ∧ t = .int .i64 (z + (k : Int)) ∧ Band g (g + 1) w wr ∧ Hid (∀ m, Room w g m → Room wr g m) ∧ Hid (Mkd z wr g k) ∧ Hid (0 < n → a = some ⟨g, 0, none⟩ ∧ Room wr g n)) (fun _ i _ => n - (intOf i).toNat)
  case atStart => exact ⟨0, by omega, rfl, by simp, Band.refl _ _ _, fun m h => h, fun i hi => by omega, HR⟩
  case round =>
    obtain ⟨k, hk, rfl, rfl, L, RM, M, RR⟩ := hrel
    by_cases hkn : k < n
    · obtain ⟨rfl, R⟩ := RR.out (by omega)
      have HM : Hid (_) := M.out.step R hkn
      have HQ : Hid (_) := R.set g k (.int .i64 (z + (k : Int)))
      have HX : Hid (∀ m, Room w g m → _) := fun m h => (RM.out m h).set g k (.int .i64 (z + (k : Int)))
      have L3 := L.set (i := k) (Nat.le_refl g) (by omega) (.int .i64 (z + (k : Int)))
      obtain ⟨⟨v0, f0⟩, z0⟩ := R k hkn
      clear R RR HR M
      go_wp2
      go_roundw
      case rel => exact ⟨k + 1, by omega, by go_num, by go_num, L3, HX, HM, fun _ => ⟨by simp, HQ.out⟩⟩
      case measure => simp [intOf]; omega
    · obtain rfl : k = n := by omega
      go_wp2
      go_ret
      exact ⟨rfl, L, M.out, RM.out⟩

set_option maxHeartbeats 1000000 in
theorem heldIntS_val (a : Option Addr) (g n cap : Nat) (z : Int) (w : World) (hn : n ≤ 1048576) (hz0 : 0 ≤ z) (hz1 : z ≤ 1152921504606846976) (h : n = 0 ∨ a = some ⟨g, 0, none⟩) (M : Mkd z w g n) :
    Calls Tryz.prog 58 #[.slice a n cap, .int .i64 z] w fun e w' => e = .returned (.int .i64 (z + (n : Int))) ∧ w' = w := by
  have HA : Hid (0 < n → a = some ⟨g, 0, none⟩) := fun h0 => h.resolve_left (by omega)
  have HM : Hid (_) := M
  clear h M
  go_enter Tryz.func58, Tryz.ntmps58
  go_wp2
  go_loop [1, 5] (fun t i => ∃ k : Nat, k ≤ n ∧ i = .int .i64 k ∧ t = .int .i64 (z + (k : Int))) (fun _ i => n - (intOf i).toNat)
  case atStart => exact ⟨0, by omega, rfl, by simp⟩
  case round =>
    obtain ⟨k, hk, rfl, rfl⟩ := hrel
    by_cases hkn : k < n
    · obtain rfl := HA.out (by omega)
      have c0 := HM.out k hkn
      go_wp2
      go_round
      case rel => exact ⟨k + 1, by omega, by go_num, by go_num⟩
      case measure => simp [intOf]; omega
    · obtain rfl : k = n := by omega
      go_wp2
      go_ret
      exact ⟨rfl, rfl⟩

end Hn
end Go.Proofs.YtmoinacceildcaaGreatDoor

/- Lists of numbers that are off: OffOk of program and model. -/
namespace Go.Proofs.YtmoinacceildcaaGreatDoor
namespace Hn
open Go.ChangeShapes Go.WideShapes Go.ChangeAt Go.RowKit
open Pk (new_below join_below cell_at heap_new frozen_at lt_of kept heap_old Drawn info_of Room)
set_option linter.unusedSimpArgs false
set_option linter.unusedVariables false

def inB (x lo hi : Int) : Bool := decide (lo ≤ x) && decide (x ≤ hi)

theorem in_is {x lo hi : Int} : inB x lo hi = true ↔ lo ≤ x ∧ x ≤ hi := by simp [inB]
theorem in_not {x lo hi : Int} : inB x lo hi = false ↔ ¬ (lo ≤ x ∧ x ≤ hi) := by
  rw [← in_is]
  simp

theorem btw_yes (x lo hi : Int) (w : World) (h : inB x lo hi = true) :
    Calls Tryz.prog 41 #[.int .i64 x, .int .i64 lo, .int .i64 hi] w fun e w' => e = .returned (.bool true) ∧ w' = w := by
  obtain ⟨h1, h2⟩ := in_is.1 h
  have d1 : decide (lo ≤ x) = true := decide_eq_true h1
  have d2 : decide (x ≤ hi) = true := decide_eq_true h2
  clear h h1 h2
  go_enter Tryz.func41, Tryz.ntmps41
  go_wp2
  go_ret
  exact ⟨rfl, rfl⟩

theorem btw_no (x lo hi : Int) (w : World) (h : inB x lo hi = false) :
    Calls Tryz.prog 41 #[.int .i64 x, .int .i64 lo, .int .i64 hi] w fun e w' => e = .returned (.bool false) ∧ w' = w := by
  by_cases h1 : lo ≤ x
  · have h2 : ¬ x ≤ hi := fun h2 => in_not.1 h ⟨h1, h2⟩
    have d1 : decide (lo ≤ x) = true := decide_eq_true h1
    have d2 : decide (x ≤ hi) = false := decide_eq_false h2
    clear h h1 h2
    go_enter Tryz.func41, Tryz.ntmps41
    go_wp2
    go_ret
    exact ⟨rfl, rfl⟩
  · have d1 : decide (lo ≤ x) = false := decide_eq_false h1
    clear h h1
    go_enter Tryz.func41, Tryz.ntmps41
    go_wp2
    go_ret
    exact ⟨rfl, rfl⟩

theorem btw_val (x lo hi : Int) (w : World) : Calls Tryz.prog 41 #[.int .i64 x, .int .i64 lo, .int .i64 hi] w fun e w' => e = .returned (.bool (inB x lo hi)) ∧ w' = w := by
  cases h : inB x lo hi
  · exact btw_no x lo hi w h
  · exact btw_yes x lo hi w h

theorem ins_yes (x lo hi : Int) (w : World) (h : inB x lo hi = true) :
    Calls Tryz.prog 32 #[.int .i64 x, .int .i64 lo, .int .i64 hi] w fun e w' => e = .returned (.bool true) ∧ w' = w := by
  obtain ⟨h1, h2⟩ := in_is.1 h
  have d1 : decide (lo ≤ x) = true := decide_eq_true h1
  have d2 : decide (x ≤ hi) = true := decide_eq_true h2
  clear h h1 h2
  go_enter Tryz.func32, Tryz.ntmps32
  go_wp2
  go_ret
  exact ⟨rfl, rfl⟩

theorem ins_no (x lo hi : Int) (w : World) (h : inB x lo hi = false) :
    Calls Tryz.prog 32 #[.int .i64 x, .int .i64 lo, .int .i64 hi] w fun e w' => e = .returned (.bool false) ∧ w' = w := by
  by_cases h1 : lo ≤ x
  · have h2 : ¬ x ≤ hi := fun h2 => in_not.1 h ⟨h1, h2⟩
    have d1 : decide (lo ≤ x) = true := decide_eq_true h1
    have d2 : decide (x ≤ hi) = false := decide_eq_false h2
    clear h h1 h2
    go_enter Tryz.func32, Tryz.ntmps32
    go_wp2
    go_ret
    exact ⟨rfl, rfl⟩
  · have d1 : decide (lo ≤ x) = false := decide_eq_false h1
    clear h h1
    go_enter Tryz.func32, Tryz.ntmps32
    go_wp2
    go_ret
    exact ⟨rfl, rfl⟩

theorem ins_val (x lo hi : Int) (w : World) : Calls Tryz.prog 32 #[.int .i64 x, .int .i64 lo, .int .i64 hi] w fun e w' => e = .returned (.bool (inB x lo hi)) ∧ w' = w := by
  cases h : inB x lo hi
  · exact ins_no x lo hi w h
  · exact ins_yes x lo hi w h

/-- Numbers that ascend from above p on, none above the greatest. -/
def offG (p : Int) : List Int → Bool
  | [] => true
  | x :: t => decide (p < x) && (decide (x ≤ 999999999) && offG x t)

/-- Whether a list of numbers is right. -/
def offB (l : List Int) : Bool := decide (l.length ≤ 200) && offG 0 l

theorem off_step {p : Int} {l : List Int} {k : Nat} (hk : k < l.length) : offG p (l.drop k) = (decide (p < l[k]) && (decide (l[k] ≤ 999999999) && offG l[k] (l.drop (k + 1)))) := by
  rw [List.drop_eq_getElem_cons hk]
  rfl

theorem off_end (p : Int) (l : List Int) : offG p (l.drop l.length) = true := by simp [offG]

set_option maxHeartbeats 1000000 in
theorem implOff_val (a : Option Addr) (l : List Int) (cap : Nat) (w : World) (hz : l.length ≤ 1048576) (I : Ints w a l) :
    Calls Tryz.prog 84 #[.slice a l.length cap] w fun e w' => e = .returned (.bool (offB l)) ∧ w' = w := by
  by_cases h2 : l.length ≤ 200
  · have hd : decide ((200 : Int) < (l.length : Int)) = false := decide_eq_false (by omega)
    have HO : Hid (offB l = offG 0 l) := by show offB l = offG 0 l; unfold offB; rw [decide_eq_true h2, Bool.true_and]
    clear h2
    go_enter Tryz.func84, Tryz.ntmps84
    go_wp2
    go_loop [3, 11] (fun t i => ∃ (k : Nat) (p : Int), k ≤ l.length ∧ i = .int .i64 k ∧ t = .int .i64 p ∧ Hid (offG p (l.drop k) = offG 0 l)) (fun _ i => l.length - (intOf i).toNat)
    case atStart => exact ⟨0, 0, by omega, rfl, rfl, rfl⟩
    case round =>
      obtain ⟨k, p, hk, rfl, rfl, HP⟩ := hrel
      by_cases hkn : k < l.length
      · obtain ⟨b, o, rfl, hlt, hc⟩ := I.at k hkn
        have HS : Hid (_ = _) := (off_step (p := p) hkn).symm.trans HP.out
        clear HP
        generalize l[k] = x at *
        by_cases h3 : p < x
        · have d3 : decide (x ≤ p) = false := decide_eq_false (by omega)
          by_cases h4 : x ≤ 999999999
          · have d4 : decide ((999999999 : Int) < x) = false := decide_eq_false (by omega)
            have HN : Hid (offG x (l.drop (k + 1)) = offG 0 l) := by
              have := HS.out
              rw [decide_eq_true h3, decide_eq_true h4, Bool.true_and, Bool.true_and] at this
              exact this
            clear h3 h4 HS
            go_wp2
            go_round
            case rel => exact ⟨k + 1, x, by omega, by go_num, rfl, HN⟩
            case measure => simp [intOf]; omega
          · have d4 : decide ((999999999 : Int) < x) = true := decide_eq_true (by omega)
            have HN : Hid (offB l = false) := by
              show offB l = false
              rw [HO.out, ← HS.out, decide_eq_false h4]
              simp
            clear h3 h4 HS
            go_wp2
            go_ret
            exact ⟨by rw [HN.out] <;> rfl, rfl⟩
        · have d3 : decide (x ≤ p) = true := decide_eq_true (by omega)
          have HN : Hid (offB l = false) := by
            show offB l = false
            rw [HO.out, ← HS.out, decide_eq_false h3]
            simp
          clear h3 HS
          go_wp2
          go_ret
          exact ⟨by rw [HN.out] <;> rfl, rfl⟩
      · obtain rfl : k = l.length := by omega
        have HN : Hid (offB l = true) := by
          show offB l = true
          rw [HO.out, ← HP.out]
          exact off_end p l
        go_wp2
        go_ret
        exact ⟨by rw [HN.out] <;> rfl, rfl⟩
  · have hd : decide ((200 : Int) < (l.length : Int)) = true := decide_eq_true (by omega)
    have HO : Hid (offB l = false) := by show offB l = false; unfold offB; rw [decide_eq_false h2, Bool.false_and]
    clear h2
    go_enter Tryz.func84, Tryz.ntmps84
    go_wp2
    go_ret
    exact ⟨by rw [HO.out] <;> rfl, rfl⟩

/-- What stands ahead of place k. -/
def pre (l : List Int) (k : Nat) : Int := if k = 0 then 0 else l.getD (k - 1) 0

theorem pre_next {l : List Int} {k : Nat} (hk : k < l.length) : pre l (k + 1) = l[k] := by
  unfold pre
  rw [if_neg (by omega), List.getD_eq_getElem?_getD, Nat.add_sub_cancel, List.getElem?_eq_getElem hk]
  rfl

theorem off_first {p x : Int} {t : List Int} {r : Bool} (h : (decide (p < x) && (decide (x ≤ 999999999) && offG x t)) = r) (h1 : p < x) (h2 : x ≤ 999999999) : offG x t = r := by
  rw [decide_eq_true h1, decide_eq_true h2, Bool.true_and, Bool.true_and] at h
  exact h

theorem off_no {p x : Int} {t : List Int} {r : Bool} (h : (decide (p < x) && (decide (x ≤ 999999999) && offG x t)) = r) (h1 : ¬ (p < x ∧ x ≤ 999999999)) : r = false := by
  rw [← h]
  by_cases h2 : p < x
  · have h3 : ¬ x ≤ 999999999 := fun h3 => h1 ⟨h2, h3⟩
    rw [decide_eq_false h3]
    simp
  · rw [decide_eq_false h2]
    simp

theorem offG_pos : ∀ {p : Int} {l : List Int}, 0 ≤ p → offG p l = true → ∀ x ∈ l, 1 ≤ x
  | _, [], _, _, x, hx => by simp at hx
  | p, y :: t, hp, h, x, hx => by
    simp [offG] at h
    rcases List.mem_cons.1 hx with rfl | hx
    · omega
    · exact offG_pos (p := y) (by omega) h.2.2 x hx

set_option maxRecDepth 100000 in
set_option maxHeartbeats 4000000 in
theorem specOff_val (a : Option Addr) (l : List Int) (cap : Nat) (w : World) (hz : l.length ≤ 1048576) (I : Ints w a l) :
    Calls Tryz.prog 67 #[.slice a l.length cap] w fun e w' => e = .returned (.bool (offB l)) ∧ Drawn w w' := by
  have HO : Hid (offB l = (decide (l.length ≤ 200) && offG 0 l)) := rfl
  have HI : Hid (_ ∨ _) := I
  go_enter Tryz.func67, Tryz.ntmps67
  go_wp2
  go_loopw [3] (fun i wr => ∃ (k : Nat), k ≤ l.length ∧ i = .int .i64 k ∧ Drawn w wr ∧ Hid (offG (pre l k) (l.drop k) = offG 0 l) ∧ 0 ≤ pre l k) (fun i _ => l.length - (intOf i).toNat)
  case atStart => exact ⟨0, by omega, rfl, Drawn.refl _, rfl, by simp [pre]⟩
  case round =>
    obtain ⟨k, hk, rfl, hD, HP, hpp⟩ := hrel
    by_cases hkn : k < l.length
    · have IR : Ints wr a l := Ints.on HI.out (hD.below _)
      obtain ⟨b, o, rfl, hlt, hc⟩ := IR.at k hkn
      have HS : Hid (_ = _) := (off_step (p := pre l k) hkn).symm.trans HP.out
      have HX : Hid (pre l (k + 1) = l[k]) := pre_next hkn
      clear HP
      by_cases h1 : inB l[k] 1 999999999 = true
      · have HIN : Hid (∀ W : World, _) := fun W => ins_yes l[k] 1 999999999 W h1
        obtain ⟨hx1, hx2⟩ := in_is.1 h1
        clear h1
        by_cases h0 : k = 0
        · have HN : Hid (offG (pre l (k + 1)) (l.drop (k + 1)) = offG 0 l) := by
            show _ = _
            rw [HX.out]
            refine off_first HS.out ?_ hx2
            have : pre l k = 0 := by simp [pre, h0]
            omega
          have HP' : Hid (0 ≤ pre l (k + 1)) := by show 0 ≤ _; rw [HX.out]; omega
          have dk : decide ((0 : Int) < (k : Int)) = false := decide_eq_false (by omega)
          have dk2 : decide (0 < k) = false := decide_eq_false (by omega)
          generalize l[k] = x at *
          clear HS HX h0
          go_wp2
          go_quiet ((go_at_call 32; exact Calls.quiet_of_same (HIN.out _)))
          go_wp2
          go_roundw
          case rel => exact ⟨k + 1, by omega, by go_num, hD.more _, HN, HP'.out⟩
          case measure => simp [intOf]; omega
        · have hk1 : k - 1 < l.length := by omega
          obtain ⟨b', o', e', -, hc'⟩ := IR.at (k - 1) hk1
          simp only [Option.some.injEq, Addr.mk.injEq, and_true] at e'
          obtain ⟨rfl, rfl⟩ := e'
          have HQ : Hid (pre l k = l[k - 1]) := by
            show _ = _
            have := pre_next hk1
            rwa [Nat.sub_add_cancel (by omega)] at this
          have hw : IntKind.i64.wrap ((k : Int) - 1) = ((k - 1 : Nat) : Int) := by rw [IntKind.wrap_i64]; omega
          have hw3 : wrap64 ((k : Int) - 1) = ((k - 1 : Nat) : Int) := by unfold wrap64; omega
          have dk2 : decide (0 < k) = true := decide_eq_true (by omega)
          have dk : decide ((0 : Int) < (k : Int)) = true := decide_eq_true (by omega)
          have hkm : k - 1 < l.length := hk1
          by_cases h3 : pre l k < l[k]
          · have HN : Hid (offG (pre l (k + 1)) (l.drop (k + 1)) = offG 0 l) := by
              show _ = _
              rw [HX.out]
              exact off_first HS.out h3 hx2
            have HP' : Hid (0 ≤ pre l (k + 1)) := by show 0 ≤ _; rw [HX.out]; omega
            rw [HQ.out] at h3
            generalize l[k] = x at *
            generalize l[k - 1] = y at *
            generalize hj : k - 1 = j at *
            have d3 : decide (x ≤ y) = false := decide_eq_false (by omega)
            clear HS HX HQ h3
            go_wp2
            go_quiet ((go_at_call 32; exact Calls.quiet_of_same (HIN.out _)))
            go_wp2
            go_roundw
            case rel => exact ⟨k + 1, by omega, by go_num, hD.more _, HN, HP'.out⟩
            case measure => simp [intOf]; omega
          · have HN : Hid (offB l = false) := by
              show offB l = false
              rw [HO.out, off_no HS.out (fun h => h3 h.1)]
              simp
            rw [HQ.out] at h3
            generalize l[k] = x at *
            generalize l[k - 1] = y at *
            generalize hj : k - 1 = j at *
            have d3 : decide (x ≤ y) = true := decide_eq_true (by omega)
            clear HS HX HQ h3
            go_wp2
            go_quiet ((go_at_call 32; exact Calls.quiet_of_same (HIN.out _)))
            go_wp2
            go_ret
            exact ⟨by rw [HN.out] <;> rfl, hD.more _⟩
      · have h1' : inB l[k] 1 999999999 = false := by simpa using h1
        have HIN : Hid (∀ W : World, _) := fun W => ins_no l[k] 1 999999999 W h1'
        have hno : ¬ (pre l k < l[k] ∧ l[k] ≤ 999999999) := fun h => in_not.1 h1' ⟨by omega, h.2⟩
        have HN : Hid (offB l = false) := by
          show offB l = false
          rw [HO.out, off_no HS.out hno]
          simp
        clear h1 h1' hno HS HX
        generalize l[k] = x at *
        go_wp2
        go_quiet ((go_at_call 32; exact Calls.quiet_of_same (HIN.out _)))
        go_wp2
        go_ret
        exact ⟨by rw [HN.out] <;> rfl, hD.more _⟩
    · obtain rfl : k = l.length := by omega
      have HN : Hid (offB l = decide (l.length ≤ 200)) := by
        show offB l = _
        rw [HO.out, ← HP.out, off_end, Bool.and_true]
      go_wp2
      go_ret
      refine ⟨?_, hD⟩
      rw [HN.out]
      congr 2
      simp
      try omega

end Hn
end Go.Proofs.YtmoinacceildcaaGreatDoor

/- Devices as values: what they hold, and where it lies. -/
namespace Go.Proofs.YtmoinacceildcaaGreatDoor
namespace Hn
open Go.ChangeShapes Go.WideShapes Go.ChangeAt Go.RowKit
open Pk (new_below join_below cell_at heap_new frozen_at lt_of kept heap_old Drawn info_of Room)
set_option linter.unusedSimpArgs false
set_option linter.unusedVariables false

/-- What a device holds. -/
structure Hnd where
  dv : Int
  p : Int
  q : Int
  g : Int
  op : Int
  is : Int
  ve : Int
  ol : List Int
  sl : List Ct

/-- Where its lists lie. -/
structure Pl where
  a : Option Addr
  c : Nat
  b : Option Addr
  d : Nat

/-- It as a value, and as a block. -/
abbrev hnV (x : Pl) (o : Hnd) : Value := .agg #[.int .i64 o.dv, .int .i64 o.p, .int .i64 o.q, .int .i64 o.g, .int .i64 o.op, .int .i64 o.is, .int .i64 o.ve, .slice x.a o.ol.length x.c, .slice x.b o.sl.length x.d]
abbrev hnB (x : Pl) (o : Hnd) (t : TypeId) : Obj := .cells #[.int .i64 o.dv, .int .i64 o.p, .int .i64 o.q, .int .i64 o.g, .int .i64 o.op, .int .i64 o.is, .int .i64 o.ve, .slice x.a o.ol.length x.c, .slice x.b o.sl.length x.d] t

/-- Its lists lie there. -/
structure In (w : World) (x : Pl) (o : Hnd) : Prop where
  off : Ints w x.a o.ol
  seen : Controls w x.b o.sl

theorem In.on {w w1 : World} {x : Pl} {o : Hnd} (h : In w x o) (L : Below w.heap.size w w1) : In w1 x o := ⟨h.off.on L, h.seen.on L⟩

/-- The controls are those of the device, numbered on from k. -/
def seenF (dv : Int) (k : Nat) : List Ct → Bool
  | [] => true
  | c :: t => decide (c.dv = dv) && (decide (c.no = (k : Int) + 1) && seenF dv (k + 1) t)

def seenB (dv : Int) (l : List Ct) : Bool := decide (l.length ≤ 300) && seenF dv 0 l

/-- Whether a device is right. -/
def handB (o : Hnd) : Bool := inB o.dv 1 9999 && (inB o.is 0 9999 && (decide (0 ≤ o.ve) && (offB o.ol && seenB o.dv o.sl)))

theorem seen_step {dv : Int} {l : List Ct} {k : Nat} (hk : k < l.length) : seenF dv k (l.drop k) = (decide (l[k].dv = dv) && (decide (l[k].no = (k : Int) + 1) && seenF dv (k + 1) (l.drop (k + 1)))) := by
  rw [List.drop_eq_getElem_cons hk]
  rfl

theorem seen_end (dv : Int) (k : Nat) (l : List Ct) : seenF dv k (l.drop l.length) = true := by simp [seenF]

theorem seen_yes {dv x y : Int} {k : Int} {r s : Bool} (h : (decide (x = dv) && (decide (y = k) && r)) = s) (h1 : x = dv) (h2 : y = k) : r = s := by
  rw [decide_eq_true h1, decide_eq_true h2, Bool.true_and, Bool.true_and] at h
  exact h

theorem seen_no {dv x y : Int} {k : Int} {r s : Bool} (h : (decide (x = dv) && (decide (y = k) && r)) = s) (h1 : ¬ (x = dv ∧ y = k)) : s = false := by
  rw [← h]
  by_cases h2 : x = dv
  · have h3 : ¬ y = k := fun h3 => h1 ⟨h2, h3⟩
    rw [decide_eq_false h3]
    simp
  · rw [decide_eq_false h2]
    simp

set_option maxHeartbeats 2000000 in
theorem implSeen_val (a : Option Addr) (l : List Ct) (cap : Nat) (dv : Int) (w : World) (hz : l.length ≤ 1048576) (I : Controls w a l) :
    Calls Tryz.prog 85 #[.slice a l.length cap, .int .i64 dv] w fun e w' => e = .returned (.bool (seenB dv l)) ∧ Below w.heap.size w w' := by
  by_cases h2 : l.length ≤ 300
  · have hd : decide ((300 : Int) < (l.length : Int)) = false := decide_eq_false (by omega)
    have HO : Hid (seenB dv l = seenF dv 0 l) := by show seenB dv l = seenF dv 0 l; unfold seenB; rw [decide_eq_true h2, Bool.true_and]
    clear h2
    go_enter Tryz.func85, Tryz.ntmps85
    go_wp2
    go_loopw [12] (fun i wr => ∃ (k : Nat), k ≤ l.length ∧ i = .int .i64 k ∧ Below w.heap.size w wr ∧ Hid (seenF dv k (l.drop k) = seenF dv 0 l)) (fun i _ => l.length - (intOf i).toNat)
    case atStart => exact ⟨0, by omega, rfl, Below.refl _ _, rfl⟩
    case round =>
      obtain ⟨k, hk, rfl, LR, HP⟩ := hrel
      by_cases hkn : k < l.length
      · obtain ⟨b, o, rfl, hlt, hc0, hc1, hc2, hc3, hc4, hc5⟩ := (I.on LR).at k hkn
        have HS : Hid (_ = _) := (seen_step (dv := dv) hkn).symm.trans HP.out
        clear HP
        generalize l[k] = x at *
        have LN := join_below LR (new_below wr (.cells #[.int .i64 x.dv, .int .i64 x.no, .int .i64 x.tk, .int .i64 x.tr, .int .i64 x.dy, .int .i64 x.sa] 107))
        by_cases h3 : x.dv = dv
        · have d3 : (x.dv != dv) = false := by simp [h3]
          by_cases h4 : x.no = (k : Int) + 1
          · have d4 : (x.no != (k : Int) + 1) = false := by simp [h4]
            have HN : Hid (seenF dv (k + 1) (l.drop (k + 1)) = seenF dv 0 l) := seen_yes HS.out h3 h4
            clear h3 h4 HS
            go_wp2
            go_roundw
            case rel => exact ⟨k + 1, by omega, by go_num, LN, HN⟩
            case measure => simp [intOf]; omega
          · have d4 : (x.no != (k : Int) + 1) = true := by simp [h4]
            have HN : Hid (seenB dv l = false) := HO.out.trans (seen_no HS.out fun h => h4 h.2)
            clear h3 h4 HS
            go_wp2
            go_ret
            exact ⟨by rw [HN.out] <;> rfl, LN⟩
        · have d3 : (x.dv != dv) = true := by simp [h3]
          have HN : Hid (seenB dv l = false) := HO.out.trans (seen_no HS.out fun h => h3 h.1)
          clear h3 HS
          go_wp2
          go_ret
          exact ⟨by rw [HN.out] <;> rfl, LN⟩
      · obtain rfl : k = l.length := by omega
        have HN : Hid (seenB dv l = true) := HO.out.trans (HP.out.symm.trans (seen_end dv _ l))
        go_wp2
        go_ret
        exact ⟨by rw [HN.out] <;> rfl, LR⟩
  · have hd : decide ((300 : Int) < (l.length : Int)) = true := decide_eq_true (by omega)
    have HO : Hid (seenB dv l = false) := by show seenB dv l = false; unfold seenB; rw [decide_eq_false h2, Bool.false_and]
    clear h2
    go_enter Tryz.func85, Tryz.ntmps85
    go_wp2
    go_ret
    exact ⟨by rw [HO.out] <;> rfl, Below.refl _ _⟩

end Hn
end Go.Proofs.YtmoinacceildcaaGreatDoor

/- HandOk of program and model. -/
namespace Go.Proofs.YtmoinacceildcaaGreatDoor
namespace Hn
open Go.ChangeShapes Go.WideShapes Go.ChangeAt Go.RowKit
open Pk (new_below join_below cell_at heap_new frozen_at lt_of kept heap_old Drawn info_of Room)
set_option linter.unusedSimpArgs false
set_option linter.unusedVariables false

theorem hand_no0 {o : Hnd} (h : inB o.dv 1 9999 = false) : handB o = false := by unfold handB; rw [h]; rfl
theorem hand_no1 {o : Hnd} (h : inB o.is 0 9999 = false) : handB o = false := by unfold handB; rw [h, Bool.false_and, Bool.and_false]
theorem hand_no2 {o : Hnd} (h : ¬ 0 ≤ o.ve) : handB o = false := by unfold handB; rw [decide_eq_false h, Bool.false_and, Bool.and_false, Bool.and_false]
theorem hand_no3 {o : Hnd} (h : offB o.ol = false) : handB o = false := by unfold handB; rw [h, Bool.false_and, Bool.and_false, Bool.and_false, Bool.and_false]
theorem hand_is {o : Hnd} (h0 : inB o.dv 1 9999 = true) (h1 : inB o.is 0 9999 = true) (h2 : 0 ≤ o.ve) (h3 : offB o.ol = true) : handB o = seenB o.dv o.sl := by
  unfold handB
  rw [h0, h1, decide_eq_true h2, h3, Bool.true_and, Bool.true_and, Bool.true_and, Bool.true_and]

set_option maxRecDepth 100000 in
set_option maxHeartbeats 4000000 in
theorem implHand_val (x : Pl) (o : Hnd) (w : World) (hz : o.ol.length ≤ 1048576) (hz2 : o.sl.length ≤ 1048576) (I : In w x o) :
    Calls Tryz.prog 48 #[hnV x o] w fun e w' => e = .returned (.bool (handB o)) ∧ Below w.heap.size w w' := by
  have N := new_below w (hnB x o 36)
  have m := heap_new w (hnB x o 36)
  have IN := I.on N
  have HF : Hid (∀ W : World, _) := fun W => btw_val o.dv 1 9999 W
  have HG : Hid (∀ W : World, _) := fun W => btw_val o.is 0 9999 W
  have HO : Hid (∀ W : World, Ints W x.a o.ol → _) := fun W h => implOff_val x.a o.ol x.c W hz h
  have HS : Hid (∀ W : World, Controls W x.b o.sl → _) := fun W h => implSeen_val x.b o.sl x.d o.dv W hz2 h
  cases h0 : inB o.dv 1 9999
  · have HV : Hid (handB o = false) := hand_no0 h0
    rw [h0] at HF
    clear h0 HG HO HS m I
    go_enter Tryz.func48, Tryz.ntmps48
    go_wp2_with fail
    refine (HF.out _).mono ?_
    rintro e w1 ⟨rfl, rfl⟩
    go_wp2
    go_ret
    exact ⟨by rw [HV.out] <;> rfl, N⟩
  cases h1 : inB o.is 0 9999
  · have HV : Hid (handB o = false) := hand_no1 h1
    rw [h0] at HF
    rw [h1] at HG
    clear h0 h1 HO HS m I
    go_enter Tryz.func48, Tryz.ntmps48
    go_wp2_with fail
    refine (HF.out _).mono ?_
    rintro e w1 ⟨rfl, rfl⟩
    go_wp2_with fail
    refine (HG.out _).mono ?_
    rintro e w1 ⟨rfl, rfl⟩
    go_wp2
    go_ret
    exact ⟨by rw [HV.out] <;> rfl, N⟩
  by_cases h2 : 0 ≤ o.ve
  · have d2 : decide (o.ve < 0) = false := decide_eq_false (by omega)
    rw [h0] at HF
    rw [h1] at HG
    cases h3 : offB o.ol
    · have HV : Hid (handB o = false) := hand_no3 h3
      rw [h3] at HO
      clear h0 h1 h2 h3 HS m I
      go_enter Tryz.func48, Tryz.ntmps48
      go_wp2_with fail
      refine (HF.out _).mono ?_
      rintro e w1 ⟨rfl, rfl⟩
      go_wp2_with fail
      refine (HG.out _).mono ?_
      rintro e w1 ⟨rfl, rfl⟩
      go_wp2_with fail
      refine (HO.out _ IN.off).mono ?_
      rintro e w1 ⟨rfl, rfl⟩
      go_wp2
      go_ret
      exact ⟨by rw [HV.out] <;> rfl, N⟩
    · have HV : Hid (handB o = seenB o.dv o.sl) := hand_is h0 h1 h2 h3
      rw [h3] at HO
      clear h0 h1 h2 h3 m I
      go_enter Tryz.func48, Tryz.ntmps48
      go_wp2_with fail
      refine (HF.out _).mono ?_
      rintro e w1 ⟨rfl, rfl⟩
      go_wp2_with fail
      refine (HG.out _).mono ?_
      rintro e w1 ⟨rfl, rfl⟩
      go_wp2_with fail
      refine (HO.out _ IN.off).mono ?_
      rintro e w1 ⟨rfl, rfl⟩
      go_wp2_with fail
      refine (HS.out _ IN.seen).mono ?_
      rintro e w2 ⟨rfl, L2⟩
      have K2 := join_below N L2
      go_wp2
      go_ret
      exact ⟨by rw [HV.out] <;> rfl, K2⟩
  · have d2 : decide (o.ve < 0) = true := decide_eq_true (by omega)
    have HV : Hid (handB o = false) := hand_no2 h2
    rw [h0] at HF
    rw [h1] at HG
    clear h0 h1 h2 HO HS m I
    go_enter Tryz.func48, Tryz.ntmps48
    go_wp2_with fail
    refine (HF.out _).mono ?_
    rintro e w1 ⟨rfl, rfl⟩
    go_wp2_with fail
    refine (HG.out _).mono ?_
    rintro e w1 ⟨rfl, rfl⟩
    go_wp2
    go_ret
    exact ⟨by rw [HV.out] <;> rfl, N⟩

end Hn
end Go.Proofs.YtmoinacceildcaaGreatDoor

/- HandOk of the model. -/
namespace Go.Proofs.YtmoinacceildcaaGreatDoor
namespace Hn
open Go.ChangeShapes Go.WideShapes Go.ChangeAt Go.RowKit
open Pk (new_below join_below cell_at heap_new frozen_at lt_of kept heap_old Drawn info_of Room)
set_option linter.unusedSimpArgs false
set_option linter.unusedVariables false

theorem seen_long {dv : Int} {l : List Ct} (h : ¬ l.length ≤ 300) : seenB dv l = false := by unfold seenB; rw [decide_eq_false h, Bool.false_and]
theorem seen_short {dv : Int} {l : List Ct} (h : l.length ≤ 300) : seenB dv l = seenF dv 0 l := by unfold seenB; rw [decide_eq_true h, Bool.true_and]

set_option maxRecDepth 100000 in
set_option maxHeartbeats 4000000 in
theorem specHand_val (x : Pl) (o : Hnd) (w : World) (hz : o.ol.length ≤ 1048576) (hz2 : o.sl.length ≤ 1048576) (I : In w x o) :
    Calls Tryz.prog 38 #[hnV x o] w fun e w' => e = .returned (.bool (handB o)) ∧ Below w.heap.size w w' := by
  have N := new_below w (hnB x o 36)
  have m := heap_new w (hnB x o 36)
  have IN := I.on N
  have HF : Hid (∀ W : World, _) := fun W => ins_val o.dv 1 9999 W
  have HG : Hid (∀ W : World, _) := fun W => ins_val o.is 0 9999 W
  have HO : Hid (∀ W : World, Ints W x.a o.ol → _) := fun W h => specOff_val x.a o.ol x.c W hz h
  cases h0 : inB o.dv 1 9999
  · have HV : Hid (handB o = false) := hand_no0 h0
    rw [h0] at HF
    clear h0 HG HO m I
    go_enter Tryz.func38, Tryz.ntmps38
    go_wp2_with fail
    refine (HF.out _).mono ?_
    rintro e w1 ⟨rfl, rfl⟩
    go_wp2
    go_ret
    exact ⟨by rw [HV.out] <;> rfl, N⟩
  cases h1 : inB o.is 0 9999
  · have HV : Hid (handB o = false) := hand_no1 h1
    rw [h0] at HF
    rw [h1] at HG
    clear h0 h1 HO m I
    go_enter Tryz.func38, Tryz.ntmps38
    go_wp2_with fail
    refine (HF.out _).mono ?_
    rintro e w1 ⟨rfl, rfl⟩
    go_wp2_with fail
    refine (HG.out _).mono ?_
    rintro e w1 ⟨rfl, rfl⟩
    go_wp2
    go_ret
    exact ⟨by rw [HV.out] <;> rfl, N⟩
  by_cases h2 : 0 ≤ o.ve
  · have d2 : decide (o.ve < 0) = false := decide_eq_false (by omega)
    rw [h0] at HF
    rw [h1] at HG
    cases h3 : offB o.ol
    · have HV : Hid (handB o = false) := hand_no3 h3
      rw [h3] at HO
      clear h0 h1 h2 h3 m I
      go_enter Tryz.func38, Tryz.ntmps38
      go_wp2_with fail
      refine (HF.out _).mono ?_
      rintro e w1 ⟨rfl, rfl⟩
      go_wp2_with fail
      refine (HG.out _).mono ?_
      rintro e w1 ⟨rfl, rfl⟩
      go_wp2_with fail
      refine (HO.out _ IN.off).mono ?_
      rintro e w1 ⟨rfl, D1⟩
      have K1 := join_below N (D1.below _)
      go_wp2
      go_ret
      exact ⟨by rw [HV.out] <;> rfl, K1⟩
    · have HV : Hid (handB o = seenB o.dv o.sl) := hand_is h0 h1 h2 h3
      rw [h3] at HO
      clear h0 h1 h2 h3
      by_cases h4 : o.sl.length ≤ 300
      · have d4 : decide ((300 : Int) < (o.sl.length : Int)) = false := decide_eq_false (by omega)
        have HW : Hid (handB o = seenF o.dv 0 o.sl) := HV.out.trans (seen_short h4)
        clear h4 HV
        go_enter Tryz.func38, Tryz.ntmps38
        go_wp2_with fail
        refine (HF.out _).mono ?_
        rintro e w1 ⟨rfl, rfl⟩
        go_wp2_with fail
        refine (HG.out _).mono ?_
        rintro e w1 ⟨rfl, rfl⟩
        go_wp2_with fail
        refine (HO.out _ IN.off).mono ?_
        rintro e w1 ⟨rfl, D1⟩
        have LW := D1.below (w.alloc (hnB x o 36)).heap.size
        have K1 := join_below N LW
        have m1 := kept LW (lt_of m) m
        have I1 := IN.seen.on LW
        have c8 : w1.cell? ⟨w.heap.size, 8, none⟩ = some (.slice x.b o.sl.length x.d) := cell_at m1 8
        clear D1 LW m N IN HO HF HG
        go_wp2
        go_loopw [3] (fun i wr => ∃ (k : Nat), k ≤ o.sl.length ∧ i = .int .i64 k ∧ Drawn w1 wr ∧ Hid (seenF o.dv k (o.sl.drop k) = seenF o.dv 0 o.sl)) (fun i _ => o.sl.length - (intOf i).toNat)
        case atStart => exact ⟨0, by omega, rfl, Drawn.refl _, rfl⟩
        case round =>
          obtain ⟨k, hk, rfl, hD, HP⟩ := hrel
          have LD := hD.below w1.heap.size
          have m2 := kept LD (lt_of m1) m1
          have r0 : wr.cell? ⟨w.heap.size, 0, none⟩ = some (.int .i64 o.dv) := cell_at m2 0
          have r8 : wr.cell? ⟨w.heap.size, 8, none⟩ = some (.slice x.b o.sl.length x.d) := cell_at m2 8
          have K2 := join_below K1 LD
          by_cases hkn : k < o.sl.length
          · obtain ⟨b, u, eb, hlt, hc0, hc1, hc2, hc3, hc4, hc5⟩ := (I1.on LD).at k hkn
            rw [eb] at r8
            have HS : Hid (_ = _) := (seen_step (dv := o.dv) hkn).symm.trans HP.out
            clear HP m2 LD
            generalize o.sl[k] = y at *
            generalize o.dv = dv at *
            by_cases h5 : y.dv = dv
            · have d5 : (y.dv != dv) = false := by simp [h5]
              by_cases h6 : y.no = (k : Int) + 1
              · have d6 : (y.no != (k : Int) + 1) = false := by simp [h6]
                have HN : Hid (seenF dv (k + 1) (o.sl.drop (k + 1)) = seenF dv 0 o.sl) := seen_yes HS.out h5 h6
                clear h5 h6 HS
                go_wp2
                go_quiet (fail)
                go_wp2
                go_roundw
                case rel => exact ⟨k + 1, by omega, by go_num, hD.more _, HN⟩
                case measure => simp [intOf]; omega
              · have d6 : (y.no != (k : Int) + 1) = true := by simp [h6]
                have HN : Hid (handB o = false) := HW.out.trans (seen_no HS.out fun h => h6 h.2)
                clear h5 h6 HS
                go_wp2
                go_quiet (fail)
                go_wp2
                go_ret
                exact ⟨by rw [HN.out] <;> rfl, join_below K1 ((hD.more _).below _)⟩
            · have d5 : (y.dv != dv) = true := by simp [h5]
              have HN : Hid (handB o = false) := HW.out.trans (seen_no HS.out fun h => h5 h.1)
              clear h5 HS
              go_wp2
              go_quiet (fail)
              go_wp2
              go_ret
              exact ⟨by rw [HN.out] <;> rfl, join_below K1 ((hD.more _).below _)⟩
          · obtain rfl : k = o.sl.length := by omega
            have HN : Hid (handB o = true) := HW.out.trans (HP.out.symm.trans (seen_end o.dv _ o.sl))
            go_wp2
            go_ret
            exact ⟨by rw [HN.out] <;> rfl, K2⟩
      · have d4 : decide ((300 : Int) < (o.sl.length : Int)) = true := decide_eq_true (by omega)
        have HW : Hid (handB o = false) := HV.out.trans (seen_long h4)
        have k8 : ∀ W : World, Drawn (w.alloc (hnB x o 36)) W → W.cell? ⟨w.heap.size, 8, none⟩ = some (.slice x.b o.sl.length x.d) := fun W D => cell_at (kept (D.below _) (lt_of m) m) 8
        clear h4 HV
        go_enter Tryz.func38, Tryz.ntmps38
        go_wp2_with fail
        refine (HF.out _).mono ?_
        rintro e w1 ⟨rfl, rfl⟩
        go_wp2_with fail
        refine (HG.out _).mono ?_
        rintro e w1 ⟨rfl, rfl⟩
        go_wp2_with fail
        refine (HO.out _ IN.off).mono ?_
        rintro e w1 ⟨rfl, D1⟩
        have c8 := k8 _ D1
        have K1 := join_below N (D1.below _)
        go_wp2
        go_ret
        exact ⟨by rw [HW.out] <;> rfl, K1⟩
  · have d2 : decide (o.ve < 0) = true := decide_eq_true (by omega)
    have HV : Hid (handB o = false) := hand_no2 h2
    rw [h0] at HF
    rw [h1] at HG
    clear h0 h1 h2 HO m I
    go_enter Tryz.func38, Tryz.ntmps38
    go_wp2_with fail
    refine (HF.out _).mono ?_
    rintro e w1 ⟨rfl, rfl⟩
    go_wp2_with fail
    refine (HG.out _).mono ?_
    rintro e w1 ⟨rfl, rfl⟩
    go_wp2
    go_ret
    exact ⟨by rw [HV.out] <;> rfl, N⟩

end Hn
end Go.Proofs.YtmoinacceildcaaGreatDoor

/- Plain facts on integers that the contracts of chapter 1 rest on: remainders, powers, divisors, inverses, primes. -/
namespace Go.Proofs.YtmoinacceildcaaGreatDoor
namespace Math

theorem tmod_neg (x m : Int) (h : 2 ≤ m) (hn : x.tmod m < 0) : x.tmod m + m = x % m := by
  rw [Int.tmod_eq_emod] at *
  have h1 := Int.emod_nonneg x (show m ≠ 0 by omega)
  split at hn
  · omega
  · rename_i hc
    rw [if_neg hc]
    omega

theorem tmod_pos (x m : Int) (h : 2 ≤ m) (hn : 0 ≤ x.tmod m) : x.tmod m = x % m := by
  rw [Int.tmod_eq_emod] at *
  have h1 := Int.emod_lt_of_pos x (show 0 < m by omega)
  split at hn
  · rename_i hc
    rw [if_pos hc]
    omega
  · omega

theorem emod_bd (x m : Int) (h : 2 ≤ m) : 0 ≤ x % m ∧ x % m < m :=
  ⟨Int.emod_nonneg x (by omega), Int.emod_lt_of_pos x (by omega)⟩

theorem mul_bd (a b m : Int) (ha : 0 ≤ a) (hb : 0 ≤ b) (ha' : a < m) (hb' : b < m) (hm : m ≤ 2147483647) :
    0 ≤ a * b ∧ a * b ≤ 4611686018427387904 := by
  refine ⟨Int.mul_nonneg ha hb, ?_⟩
  have h1 : a * b ≤ 2147483647 * 2147483647 := Int.mul_le_mul (by omega) (by omega) hb (by omega)
  omega

theorem gcd_step (x y : Nat) : Nat.gcd y (x % y) = Nat.gcd x y := by
  rw [Nat.gcd_comm y (x % y), ← Nat.gcd_rec y x, Nat.gcd_comm]

/-- The n-th power of a by m. -/
def pw (a : Int) (n : Nat) (m : Int) : Int := a ^ n % m

theorem pow_emod (x m : Int) (k : Nat) : (x % m) ^ k % m = x ^ k % m := by
  induction k with
  | zero => simp
  | succ k ih =>
    rw [Int.pow_succ, Int.pow_succ, Int.mul_emod, ih, Int.emod_emod_of_dvd _ (Int.dvd_refl m), ← Int.mul_emod]

theorem pow_two (x : Int) (k : Nat) : (x * x) ^ k = x ^ (2 * k) := by
  rw [Int.pow_mul]
  congr 1
  rw [show (2 : Nat) = 1 + 1 from rfl, Int.pow_succ, Int.pow_succ, Int.pow_zero, Int.one_mul]

theorem pw_odd (o b m : Int) (n : Nat) (h : n % 2 = 1) : (o * b % m) * (b * b % m) ^ (n / 2) % m = o * b ^ n % m := by
  rw [Int.mul_emod, pow_emod, Int.emod_emod_of_dvd _ (Int.dvd_refl m), ← Int.mul_emod, pow_two, Int.mul_assoc, Int.mul_comm b, ← Int.pow_succ, show (2 * (n / 2)).succ = n from by omega]

theorem pw_even (o b m : Int) (n : Nat) (h : n % 2 = 0) : o * (b * b % m) ^ (n / 2) % m = o * b ^ n % m := by
  rw [Int.mul_emod, pow_emod, ← Int.mul_emod, pow_two, show 2 * (n / 2) = n from by omega]

theorem pw_bd (a m : Int) (n : Nat) (h : 2 ≤ m) : 0 ≤ pw a n m ∧ pw a n m < m := emod_bd _ _ h

theorem mul_bd' (a b : Int) (ha : 0 ≤ a) (hb : 0 ≤ b) (ha' : a ≤ 2147483647) (hb' : b ≤ 2147483647) :
    0 ≤ a * b ∧ a * b ≤ 4611686018427387904 := by
  refine ⟨Int.mul_nonneg ha hb, ?_⟩
  have h1 : a * b ≤ 2147483647 * 2147483647 := Int.mul_le_mul (by omega) (by omega) hb (by omega)
  omega

theorem div_bd (x y : Int) (hx : 0 ≤ x) (hy : 0 < y) : 0 ≤ x / y ∧ x / y ≤ x ∧ 0 ≤ x / y * y ∧ x / y * y ≤ x ∧ 0 ≤ x - x / y * y ∧ x - x / y * y < y := by
  have h1 := Int.emod_nonneg x (show y ≠ 0 by omega)
  have h2 := Int.emod_lt_of_pos x hy
  have h3 := Int.emod_def x y
  have h4 : x / y * y = y * (x / y) := Int.mul_comm _ _
  have h5 : 0 ≤ x / y := Int.ediv_nonneg hx (by omega)
  have h6 : 0 ≤ x / y * y := Int.mul_nonneg h5 (by omega)
  have h7 : x / y ≤ x := Int.ediv_le_self _ hx
  refine ⟨h5, h7, h6, by omega, by omega, by omega⟩

theorem gcd_int (x y : Int) (hx : 0 ≤ x) (hy : 0 < y) : Nat.gcd y.toNat (x - x / y * y).toNat = Nat.gcd x.toNat y.toNat := by
  have h3 := Int.emod_def x y
  have h4 : x / y * y = y * (x / y) := Int.mul_comm _ _
  have e : (x - x / y * y).toNat = x.toNat % y.toNat := by
    rw [h4, ← h3]
    obtain ⟨a, rfl⟩ := Int.eq_ofNat_of_zero_le hx
    obtain ⟨b, rfl⟩ := Int.eq_ofNat_of_zero_le (show 0 ≤ y by omega)
    rfl
  rw [e, gcd_step]

/-- The greatest x below k with a x = 1 by m; 0 where there is none. -/
def invTo (a m : Int) : Nat → Int
  | 0 => 0
  | k + 1 => if a * k % m = 1 then k else invTo a m k

/-- The inverse of a by m. -/
def inv (a m : Int) : Int := invTo a m m.toNat

theorem dvd_of_one (a m x : Int) (e : a * x % m = 1) : m ∣ x * a - 1 := by
  have h1 := Int.emod_def (a * x) m
  refine ⟨a * x / m, ?_⟩
  rw [Int.mul_comm x a]
  omega

theorem one_of_dvd (a m x : Int) (h : 2 ≤ m) (e : m ∣ x * a - 1) : a * x % m = 1 := by
  obtain ⟨t, ht⟩ := e
  have : a * x = 1 + m * t := by rw [Int.mul_comm a x]; omega
  rw [this, Int.add_mul_emod_self_left]
  exact Int.emod_eq_of_lt (by omega) (by omega)

theorem unique (a m x y : Int) (h : 2 ≤ m) (hx : 0 ≤ x) (hx' : x < m) (hy : 0 ≤ y) (hy' : y < m) (e : m ∣ x * a - 1) (f : m ∣ y * a - 1) : x = y := by
  have d : m ∣ x - y := by
    have h1 : m ∣ y * (x * a - 1) := Int.dvd_mul_of_dvd_right e
    have h2 : m ∣ x * (y * a - 1) := Int.dvd_mul_of_dvd_right f
    have h3 := Int.dvd_sub h2 h1
    have h4 : x * (y * a - 1) - y * (x * a - 1) = y - x := by
      rw [Int.mul_sub, Int.mul_sub, ← Int.mul_assoc, ← Int.mul_assoc, Int.mul_comm x y]
      omega
    rw [h4] at h3
    have h5 := Int.dvd_neg.2 h3
    rwa [Int.neg_sub] at h5
  obtain ⟨t, ht⟩ := d
  have : t = 0 := by
    have h1 : -1 < t := by
      apply Int.lt_of_mul_lt_mul_left (a := m) _ (by omega)
      omega
    have h2 : t < 1 := by
      apply Int.lt_of_mul_lt_mul_left (a := m) _ (by omega)
      omega
    omega
  subst this
  omega

theorem invTo_eq (a m x : Int) (h : 2 ≤ m) (hx : 0 ≤ x) (e : m ∣ x * a - 1) (k : Nat) (hk : (k : Int) ≤ m) (hxk : x < k) : invTo a m k = x := by
  induction k with
  | zero => omega
  | succ k ih =>
    unfold invTo
    by_cases c : a * k % m = 1
    · rw [if_pos c]
      exact unique a m k x h (by omega) (by omega) hx (by omega) (dvd_of_one a m k c) e
    · rw [if_neg c]
      apply ih (by omega)
      have : x ≠ k := by
        intro hh
        subst hh
        exact c (one_of_dvd a m k h e)
      omega

theorem inv_eq (a m x : Int) (h : 2 ≤ m) (hx : 0 ≤ x) (hx' : x < m) (e : m ∣ x * a - 1) : x = inv a m :=
  (invTo_eq a m x h hx e m.toNat (by omega) (by omega)).symm

/-- What holds in Euclid's way down, the coefficients unreduced. -/
structure Eu (a m r0 r1 x0 x1 : Int) : Prop where
  a0 : 1 ≤ r0
  a1 : r0 ≤ m
  b0 : 0 ≤ r1
  b1 : r1 ≤ m
  g : Nat.gcd r0.toNat r1.toNat = Nat.gcd a.toNat m.toNat
  d0 : m ∣ x0 * a - r0
  d1 : m ∣ x1 * a - r1
  s : ∃ p q, 0 ≤ p ∧ 0 ≤ q ∧ r0 * q + r1 * p = m ∧ ((x0 = p ∧ x1 = -q) ∨ (x0 = -p ∧ x1 = q))

theorem Eu.start (a m : Int) (h : 2 ≤ m) (ha : 0 ≤ a) (ha' : a < m) : Eu a m m a 0 1 :=
  ⟨by omega, by omega, ha, by omega, Nat.gcd_comm _ _, by rw [Int.zero_mul, Int.zero_sub]; exact Int.dvd_neg.2 (Int.dvd_refl m), by rw [Int.one_mul, Int.sub_self]; exact Int.dvd_zero m,
    0, 1, by omega, by omega, by omega, Or.inr ⟨by omega, rfl⟩⟩

theorem dvd_step (a m r0 r1 x0 x1 k : Int) (d0 : m ∣ x0 * a - r0) (d1 : m ∣ x1 * a - r1) : m ∣ (x0 - k * x1) * a - (r0 - k * r1) := by
  have h1 : m ∣ k * (x1 * a - r1) := Int.dvd_mul_of_dvd_right d1
  have h2 := Int.dvd_sub d0 h1
  have h3 : x0 * a - r0 - k * (x1 * a - r1) = (x0 - k * x1) * a - (r0 - k * r1) := by
    rw [Int.mul_sub, Int.sub_mul, ← Int.mul_assoc]
    omega
  rwa [h3] at h2

theorem le_of_mul (x y m : Int) (hx : 1 ≤ x) (hy : 0 ≤ y) (h : x * y ≤ m) : y ≤ m := by
  have h1 : 1 * y ≤ x * y := Int.mul_le_mul_of_nonneg_right hx hy
  omega

theorem Eu.bd {a m r0 r1 x0 x1 : Int} (h : Eu a m r0 r1 x0 x1) (hr : 0 < r1) :
    -m ≤ x0 ∧ x0 ≤ m ∧ -m ≤ x1 ∧ x1 ≤ m ∧ -m ≤ r0 / r1 * x1 ∧ r0 / r1 * x1 ≤ m ∧ -m ≤ x0 - r0 / r1 * x1 ∧ x0 - r0 / r1 * x1 ≤ m := by
  obtain ⟨p, q, hp, hq, e, hs⟩ := h.s
  have ha0 := h.a0
  obtain ⟨k1, k2, k3, k4, k5, k6⟩ := div_bd r0 r1 (by omega) hr
  have m1 : 0 ≤ r0 * q := Int.mul_nonneg (by omega) hq
  have m2 : 0 ≤ r1 * p := Int.mul_nonneg (by omega) hp
  have hp' : p ≤ m := le_of_mul r1 p m (by omega) hp (by omega)
  have hq' : q ≤ m := le_of_mul r0 q m (by omega) hq (by omega)
  have m3 : 0 ≤ r0 / r1 * q := Int.mul_nonneg k1 hq
  have m4 : r1 * (p + r0 / r1 * q) ≤ m := by
    have n1 : r0 / r1 * r1 * q ≤ r0 * q := Int.mul_le_mul_of_nonneg_right k4 hq
    have n2 : r1 * (p + r0 / r1 * q) = r1 * p + r0 / r1 * r1 * q := by
      rw [Int.mul_add, ← Int.mul_assoc, Int.mul_comm r1 (r0 / r1)]
    omega
  have m5 : p + r0 / r1 * q ≤ m := le_of_mul r1 _ m (by omega) (by omega) m4
  rcases hs with ⟨rfl, rfl⟩ | ⟨rfl, rfl⟩
  · rw [Int.mul_neg]
    omega
  · omega

theorem Eu.step {a m r0 r1 x0 x1 : Int} (h : Eu a m r0 r1 x0 x1) (hr : 0 < r1) : Eu a m r1 (r0 - r0 / r1 * r1) x1 (x0 - r0 / r1 * x1) := by
  obtain ⟨p, q, hp, hq, e, hs⟩ := h.s
  have ha0 := h.a0
  have hb1 := h.b1
  obtain ⟨k1, k2, k3, k4, k5, k6⟩ := div_bd r0 r1 (by omega) hr
  refine ⟨by omega, hb1, k5, by omega, ?_, h.d1, dvd_step a m r0 r1 x0 x1 _ h.d0 h.d1, q, p + r0 / r1 * q, hq, ?_, ?_, ?_⟩
  · rw [gcd_int r0 r1 (by omega) hr]; exact h.g
  · have := Int.mul_nonneg k1 hq; omega
  · have n1 : r1 * (p + r0 / r1 * q) = r1 * p + r0 / r1 * r1 * q := by
      rw [Int.mul_add, ← Int.mul_assoc, Int.mul_comm r1 (r0 / r1)]
    have n2 : (r0 - r0 / r1 * r1) * q = r0 * q - r0 / r1 * r1 * q := Int.sub_mul _ _ _
    rw [n1, n2]
    omega
  · rcases hs with ⟨rfl, rfl⟩ | ⟨rfl, rfl⟩
    · refine Or.inr ⟨rfl, ?_⟩
      rw [Int.mul_neg]; omega
    · refine Or.inl ⟨rfl, ?_⟩
      omega

theorem inv_mod (a m x : Int) (h : 2 ≤ m) (e : m ∣ x * a - 1) : x % m = inv a m := by
  obtain ⟨h1, h2⟩ := emod_bd x m h
  refine inv_eq a m _ h h1 h2 ?_
  have h3 := Int.emod_def x m
  obtain ⟨t, ht⟩ := e
  refine ⟨t - x / m * a, ?_⟩
  rw [h3, Int.sub_mul, Int.mul_sub, Int.mul_assoc]
  omega

theorem Eu.done {a m r0 x0 x1 : Int} (h : Eu a m r0 0 x0 x1) (hm : 2 ≤ m) (hg : Nat.gcd a.toNat m.toNat = 1) : x0 % m = inv a m := by
  have e : r0 = 1 := by
    have h1 := h.g
    rw [hg] at h1
    have h2 := h.a0
    simp at h1
    omega
  refine inv_mod a m x0 hm ?_
  have := h.d0
  rwa [e] at this

/-- What holds in Euclid's way down, the coefficients reduced. -/
structure Er (a m r0 r1 x0 x1 : Int) : Prop where
  a0 : 1 ≤ r0
  a1 : r0 ≤ m
  b0 : 0 ≤ r1
  b1 : r1 ≤ m
  g : Nat.gcd r0.toNat r1.toNat = Nat.gcd a.toNat m.toNat
  d0 : m ∣ x0 * a - r0
  d1 : m ∣ x1 * a - r1
  x00 : 0 ≤ x0
  x01 : x0 < m
  x10 : 0 ≤ x1
  x11 : x1 < m

theorem Er.start (a m : Int) (h : 2 ≤ m) (ha : 0 ≤ a) (ha' : a < m) : Er a m m a 0 1 :=
  ⟨by omega, by omega, ha, by omega, Nat.gcd_comm _ _, by rw [Int.zero_mul, Int.zero_sub]; exact Int.dvd_neg.2 (Int.dvd_refl m), by rw [Int.one_mul, Int.sub_self]; exact Int.dvd_zero m,
    by omega, by omega, by omega, by omega⟩

theorem Er.step {a m r0 r1 x0 x1 : Int} (h : Er a m r0 r1 x0 x1) (hm : 2 ≤ m) (hr : 0 < r1) : Er a m r1 (r0 % r1) x1 ((x0 + m - r0 / r1 * x1 % m) % m) := by
  have ha0 := h.a0
  have hb1 := h.b1
  obtain ⟨k1, k2, k3, k4, k5, k6⟩ := div_bd r0 r1 (by omega) hr
  have e : r0 % r1 = r0 - r0 / r1 * r1 := by
    have h3 := Int.emod_def r0 r1
    rw [h3, Int.mul_comm]
  obtain ⟨y1, y2⟩ := emod_bd (x0 + m - r0 / r1 * x1 % m) m hm
  refine ⟨by omega, hb1, by omega, by omega, ?_, h.d1, ?_, h.x10, h.x11, y1, y2⟩
  · rw [e, gcd_int r0 r1 (by omega) hr]; exact h.g
  · have hd := dvd_step a m r0 r1 x0 x1 (r0 / r1) h.d0 h.d1
    rw [← e] at hd
    have h3 := Int.emod_def (x0 + m - r0 / r1 * x1 % m) m
    have h4 := Int.emod_def (r0 / r1 * x1) m
    obtain ⟨t, ht⟩ := hd
    generalize hA : (x0 + m - r0 / r1 * x1 % m) / m = A at *
    generalize hB : r0 / r1 * x1 / m = B at *
    refine ⟨t + (1 + B - A) * a, ?_⟩
    have e2 : (x0 + m - r0 / r1 * x1 % m) % m = (x0 - r0 / r1 * x1) + m * (1 + B - A) := by
      rw [h3, h4, Int.mul_sub, Int.mul_add, Int.mul_one]; omega
    rw [e2, Int.add_mul, Int.mul_add, ← ht, Int.mul_assoc]
    omega

theorem Er.bd {a m r0 r1 x0 x1 : Int} (h : Er a m r0 r1 x0 x1) (hm : 2 ≤ m) (hm' : m ≤ 2147483647) (hr : 0 < r1) :
    0 ≤ r0 / r1 ∧ r0 / r1 ≤ 2147483647 ∧ 0 ≤ r0 / r1 * x1 % m ∧ r0 / r1 * x1 % m < m := by
  have ha0 := h.a0
  have ha1 := h.a1
  obtain ⟨k1, k2, k3, k4, k5, k6⟩ := div_bd r0 r1 (by omega) hr
  obtain ⟨y1, y2⟩ := emod_bd (r0 / r1 * x1) m hm
  exact ⟨k1, by omega, y1, y2⟩

theorem Er.gcd {a m r0 x0 x1 : Int} (h : Er a m r0 0 x0 x1) : r0 = Nat.gcd a.toNat m.toNat := by
  have h1 := h.g
  have h2 := h.a0
  simp at h1
  omega

theorem Er.done {a m r0 x0 x1 : Int} (h : Er a m r0 0 x0 x1) (hm : 2 ≤ m) (hg : r0 = 1) : x0 = inv a m := by
  have := h.d0
  rw [hg] at this
  exact inv_eq a m x0 hm h.x00 h.x01 this

theorem invTo_bd (a m : Int) (k : Nat) : 0 ≤ invTo a m k ∧ (0 < k → invTo a m k < k) := by
  induction k with
  | zero => exact ⟨by simp [invTo], by omega⟩
  | succ k ih =>
    unfold invTo
    split
    · exact ⟨by omega, by omega⟩
    · refine ⟨ih.1, fun _ => ?_⟩
      by_cases h : 0 < k
      · have := ih.2 h; omega
      · obtain rfl : k = 0 := by omega
        simp [invTo]

theorem inv_bd (a m : Int) (h : 2 ≤ m) : 0 ≤ inv a m ∧ inv a m < m := by
  have h1 := invTo_bd a m m.toNat
  refine ⟨h1.1, ?_⟩
  have := h1.2 (by omega)
  unfold inv
  omega

theorem Eu.ends (a m : Int) (hg : Nat.gcd a.toNat m.toNat = 1) (n : Nat) : ∀ r0 r1 x0 x1, Eu a m r0 r1 x0 x1 → r1.toNat ≤ n → ∃ x, m ∣ x * a - 1 := by
  induction n with
  | zero =>
    intro r0 r1 x0 x1 E hn
    have hb := E.b0
    obtain rfl : r1 = 0 := by omega
    have h1 := E.g
    rw [hg] at h1
    have h2 := E.a0
    simp at h1
    obtain rfl : r0 = 1 := by omega
    exact ⟨x0, E.d0⟩
  | succ n ih =>
    intro r0 r1 x0 x1 E hn
    have hb := E.b0
    have ha := E.a0
    by_cases hr : 0 < r1
    · have h6 := (div_bd r0 r1 (by omega) hr).2.2.2.2.2
      exact ih _ _ _ _ (E.step hr) (by omega)
    · exact ih _ _ _ _ E (by omega)

theorem inv_ok (a m : Int) (h : 2 ≤ m) (ha : 0 ≤ a) (ha' : a < m) (hg : Nat.gcd a.toNat m.toNat = 1) : a * inv a m % m = 1 := by
  obtain ⟨x, hx⟩ := Eu.ends a m hg a.toNat m a 0 1 (Eu.start a m h ha ha') (Nat.le_refl _)
  have e := inv_mod a m x h hx
  have h1 := one_of_dvd a m x h hx
  rw [← e, Int.mul_emod, Int.emod_emod_of_dvd _ (Int.dvd_refl m), ← Int.mul_emod]
  exact h1

/-- Whether no number from 2 on below n divides n. -/
def primeB (n : Int) : Bool := decide (∀ d : Nat, d < n.toNat → 2 ≤ d → n.toNat % d ≠ 0)

theorem primeB_yes (n : Int) (h : ∀ d : Nat, 2 ≤ d → d < n.toNat → n.toNat % d ≠ 0) : primeB n = true :=
  decide_eq_true fun d hd h2 => h d h2 hd

theorem primeB_no (n : Int) (d : Nat) (h2 : 2 ≤ d) (hd : d < n.toNat) (h : n.toNat % d = 0) : primeB n = false :=
  decide_eq_false fun hh => hh d hd h2 h

theorem prime_of (n k : Nat) (hk : n < k * k) (h : ∀ d : Nat, 2 ≤ d → d < k → n % d ≠ 0) (d : Nat) (h2 : 2 ≤ d) (hd : d < n) : n % d ≠ 0 := by
  intro hz
  by_cases hdk : d < k
  · exact h d h2 hdk hz
  · have h1 := Nat.div_add_mod n d
    rw [hz, Nat.add_zero] at h1
    have hc : n / d < k := by
      apply Nat.lt_of_not_le
      intro hc
      have := Nat.mul_le_mul (show k ≤ d by omega) hc
      omega
    have hc2 : 2 ≤ n / d := by
      apply Nat.le_of_not_lt
      intro hlt
      generalize n / d = c at *
      have h3 : c = 0 ∨ c = 1 := by omega
      rcases h3 with h3 | h3
      · rw [h3] at h1; omega
      · rw [h3] at h1; omega
    refine h (n / d) hc2 hc ?_
    apply Nat.mod_eq_zero_of_dvd
    exact ⟨d, by rw [Nat.mul_comm]; exact h1.symm⟩

theorem root_bd (n k : Nat) (h : k * k ≤ n) (hn : n ≤ 2147483647) : k ≤ 46340 := by
  apply Nat.le_of_not_lt
  intro hlt
  have : 46341 * 46341 ≤ k * k := Nat.mul_le_mul hlt hlt
  omega

theorem sq_lt (n k : Nat) (h : k * k ≤ n) (hk : 2 ≤ k) : k < n := by
  have : 2 * k ≤ k * k := Nat.mul_le_mul_right k hk
  omega

theorem primeB_even (n : Nat) (h2 : 2 ≤ n) (he : n % 2 = 0) : primeB n = decide (n = 2) := by
  by_cases h : n = 2
  · subst h
    exact primeB_yes _ (fun d h1 h2 => by simp at h2; omega)
  · rw [primeB_no (n : Int) 2 (by omega) (by simp; omega) (by simpa using he)]
    simp [h]

theorem no_next (n k : Nat) (h : ∀ d : Nat, 2 ≤ d → d < k → n % d ≠ 0) (hk : n % k ≠ 0) (d : Nat) (h2 : 2 ≤ d) (hd : d < k + 1) : n % d ≠ 0 := by
  by_cases e : d = k
  · rw [e]; exact hk
  · exact h d h2 (by omega)

theorem no_next2 (n k : Nat) (ho : n % 2 = 1) (hko : k % 2 = 1) (h : ∀ d : Nat, 2 ≤ d → d < k → n % d ≠ 0) (hk : n % k ≠ 0) (d : Nat) (h2 : 2 ≤ d) (hd : d < k + 2) : n % d ≠ 0 := by
  by_cases e : d = k + 1
  · intro hz
    have h1 := Nat.mod_mod_of_dvd n (show 2 ∣ d from ⟨(k + 1) / 2, by omega⟩)
    rw [hz] at h1
    omega
  · exact no_next n k h hk d h2 (by omega)
end Math
end Go.Proofs.YtmoinacceildcaaGreatDoor

/- Contracts of the functions of chapter 1, of the program and of its model: what each call returns, the world as it was. -/
namespace Go.Proofs.YtmoinacceildcaaGreatDoor
namespace Num
open Go.ChangeShapes Go.WideShapes Go.ChangeAt Go.RowKit

theorem ret_int {k : IntKind} {a b : Int} (h : a = b) : Ending.returned (.int k a) = .returned (.int k b) := by rw [h]

/-- The world behind some draws. -/
def Drawn (w w1 : World) : Prop := ∃ q, w1 = w.drewN q

theorem Drawn.refl (w : World) : Drawn w w := ⟨0, rfl⟩

theorem Drawn.more {w w1 : World} (h : Drawn w w1) (n : Nat) : Drawn w (w1.drewN n) := by
  obtain ⟨q, rfl⟩ := h
  exact ⟨q + n, by rw [World.drewN_drewN]⟩

theorem l01In_any (x a b : Int) (w : World) :
    Calls Tryz.prog 32 #[.int .i64 x, .int .i64 a, .int .i64 b] w fun e w' => e = .returned (.bool (decide (a ≤ x ∧ x ≤ b))) ∧ w' = w := by
  by_cases h1 : a ≤ x <;> by_cases h2 : x ≤ b
  all_goals
    go_enter Tryz.func32, Tryz.ntmps32
    go_wp2
    go_ret
    exact ⟨by simp [h1, h2], rfl⟩

theorem l01Measure_yes (m : Int) (w : World) (h1 : 2 ≤ m) (h2 : m ≤ 2147483647) :
    Calls Tryz.prog 65 #[.int .i64 m] w fun e w' => e = .returned (.bool true) ∧ w' = w := by
  go_enter Tryz.func65, Tryz.ntmps65
  go_wp2
  go_ret
  exact ⟨by simp, rfl⟩

theorem l01Measure_no (m : Int) (w : World) (h : m < 2 ∨ 2147483647 < m) :
    Calls Tryz.prog 65 #[.int .i64 m] w fun e w' => e = .returned (.bool false) ∧ w' = w := by
  rcases h with h | h
  · go_enter Tryz.func65, Tryz.ntmps65
    go_wp2
    go_ret
    exact ⟨by simp, rfl⟩
  · go_enter Tryz.func65, Tryz.ntmps65
    go_wp2
    go_ret
    exact ⟨by simp; try omega, rfl⟩

theorem isMeasure_yes (m : Int) (w : World) (h1 : 2 ≤ m) (h2 : m ≤ 2147483647) :
    Calls Tryz.prog 80 #[.int .i64 m] w fun e w' => e = .returned (.bool true) ∧ w' = w := by
  go_enter Tryz.func80, Tryz.ntmps80
  go_wp2
  go_ret
  exact ⟨by simp, rfl⟩

theorem isMeasure_no (m : Int) (w : World) (h : m < 2 ∨ 2147483647 < m) :
    Calls Tryz.prog 80 #[.int .i64 m] w fun e w' => e = .returned (.bool false) ∧ w' = w := by
  rcases h with h | h
  · go_enter Tryz.func80, Tryz.ntmps80
    go_wp2
    go_ret
    exact ⟨by simp, rfl⟩
  · go_enter Tryz.func80, Tryz.ntmps80
    go_wp2
    go_ret
    exact ⟨by simp; try omega, rfl⟩

theorem specMod_no (x m : Int) (w : World) (h : m < 2 ∨ 2147483647 < m) :
    Calls Tryz.prog 66 #[.int .i64 x, .int .i64 m] w fun e w' => e = .returned (.int .i64 (-1)) ∧ w' = w := by
  go_enter Tryz.func66, Tryz.ntmps66
  go_wp2_with (go_at_call 65; refine (l01Measure_no _ _ h).mono ?_; rintro e w' ⟨rfl, rfl⟩)
  go_ret
  exact ⟨rfl, rfl⟩

theorem specMod_yes (x m : Int) (w : World) (h1 : 2 ≤ m) (h2 : m ≤ 2147483647) :
    Calls Tryz.prog 66 #[.int .i64 x, .int .i64 m] w fun e w' => e = .returned (.int .i64 (x % m)) ∧ w' = w := by
  have hb1 := Int.tmod_lt_of_pos x (show 0 < m by omega)
  have hb2 := Int.lt_tmod_of_pos x (show 0 < m by omega)
  go_enter Tryz.func66, Tryz.ntmps66
  go_wp2_with (go_at_call 65; refine (l01Measure_yes _ _ h1 h2).mono ?_; rintro e w' ⟨rfl, rfl⟩)
  all_goals go_ret
  · exact ⟨ret_int (Math.tmod_neg x m h1 ‹_›), rfl⟩
  · exact ⟨ret_int (Math.tmod_pos x m h1 ‹_›), rfl⟩

theorem residueOf_any (x m : Int) (w : World) (h1 : 2 ≤ m) (h2 : m ≤ 2147483647) :
    Calls Tryz.prog 82 #[.int .i64 x, .int .i64 m] w fun e w' => e = .returned (.int .u64 (x % m)) ∧ w' = w := by
  have hb1 := Int.tmod_lt_of_pos x (show 0 < m by omega)
  have hb2 := Int.lt_tmod_of_pos x (show 0 < m by omega)
  go_enter Tryz.func82, Tryz.ntmps82
  go_wp2
  all_goals go_ret
  · exact ⟨ret_int (Math.tmod_neg x m h1 ‹_›), rfl⟩
  · exact ⟨ret_int (Math.tmod_pos x m h1 ‹_›), rfl⟩

theorem times_any (r s m : Int) (w : World) (h1 : 2 ≤ m) (h2 : m ≤ 2147483647) (hr : 0 ≤ r) (hr' : r ≤ 2147483647) (hs : 0 ≤ s) (hs' : s ≤ 2147483647) :
    Calls Tryz.prog 117 #[.int .u64 r, .int .u64 s, .int .u64 m] w fun e w' => e = .returned (.int .u64 (r * s % m)) ∧ w' = w := by
  obtain ⟨hb1, hb2⟩ := Math.mul_bd' r s hr hs hr' hs'
  go_enter Tryz.func117, Tryz.ntmps117
  go_wp2
  go_ret
  exact ⟨rfl, rfl⟩

theorem upToMaxPrime_yes (m : Int) (w : World) (h1 : 0 ≤ m) (h2 : m ≤ 2147483647) :
    Calls Tryz.prog 81 #[.int .i64 m] w fun e w' => e = .returned (.bool true) ∧ w' = w := by
  go_enter Tryz.func81, Tryz.ntmps81
  go_wp2
  go_ret
  exact ⟨by simp, rfl⟩

theorem upToMaxPrime_no (m : Int) (w : World) (h : m < 0 ∨ 2147483647 < m) :
    Calls Tryz.prog 81 #[.int .i64 m] w fun e w' => e = .returned (.bool false) ∧ w' = w := by
  rcases h with h | h
  · go_enter Tryz.func81, Tryz.ntmps81
    go_wp2
    go_ret
    exact ⟨by simp, rfl⟩
  · go_enter Tryz.func81, Tryz.ntmps81
    go_wp2
    go_ret
    exact ⟨by simp; try omega, rfl⟩

end Num
end Go.Proofs.YtmoinacceildcaaGreatDoor

/- Contracts of PowMod, of the program and of its model: what it returns is the power by the measure. -/
namespace Go.Proofs.YtmoinacceildcaaGreatDoor
namespace Num
open Go.ChangeShapes Go.WideShapes Go.ChangeAt Go.RowKit

/-! Powers -/
theorem specPowMod_no (a n m : Int) (w : World) (h : (m < 2 ∨ 2147483647 < m) ∨ (2 ≤ m ∧ m ≤ 2147483647 ∧ (n < 0 ∨ 2147483647 < n))) :
    Calls Tryz.prog 37 #[.int .i64 a, .int .i64 n, .int .i64 m] w fun e w' => e = .returned (.int .i64 (-1)) ∧ w' = w := by
  rcases h with h | ⟨h1, h2, h3⟩
  · go_enter Tryz.func37, Tryz.ntmps37
    go_wp2_with (go_at_call 65; refine (l01Measure_no _ _ h).mono ?_; rintro e w' ⟨rfl, rfl⟩)
    go_ret
    exact ⟨rfl, rfl⟩
  · have hf : decide (0 ≤ n ∧ n ≤ 2147483647) = false := by simp; omega
    go_enter Tryz.func37, Tryz.ntmps37
    go_wp2_with (first | (go_at_call 65; refine (l01Measure_yes _ _ h1 h2).mono ?_; rintro e w' ⟨rfl, rfl⟩) | (go_at_call 32; refine (l01In_any _ _ _ _).mono ?_; rw [hf]; rintro e w' ⟨rfl, rfl⟩))
    go_ret
    exact ⟨rfl, rfl⟩

theorem specPowMod_yes (a n m : Int) (w : World) (h1 : 2 ≤ m) (h2 : m ≤ 2147483647) (hn1 : 0 ≤ n) (hn2 : n ≤ 2147483647) :
    Calls Tryz.prog 37 #[.int .i64 a, .int .i64 n, .int .i64 m] w fun e w' => e = .returned (.int .i64 (Math.pw a n.toNat m)) ∧ ∃ q, w' = w.drewN q := by
  have hf : decide (0 ≤ n ∧ n ≤ 2147483647) = true := by simp; omega
  go_enter Tryz.func37, Tryz.ntmps37
  go_wp2_with (first | (go_at_call 65; refine (l01Measure_yes _ _ h1 h2).mono ?_; rintro e w' ⟨rfl, rfl⟩) | (go_at_call 32; refine (l01In_any _ _ _ _).mono ?_; rw [hf]; rintro e w' ⟨rfl, rfl⟩))
  go_quiet ((go_at_call 66; exact Calls.quiet_of_same (specMod_yes _ _ _ h1 h2)))
  go_wp2
  go_loop [1, 7, 8] (fun t o b => ∃ (k : Nat) (x y : Int), k ≤ 2147483647 ∧ 0 ≤ x ∧ x < m ∧ 0 ≤ y ∧ y < m ∧ t = .int .i64 k ∧ o = .int .i64 x ∧ b = .int .i64 y ∧ Hid (x * y ^ k % m = Math.pw a n.toNat m)) (fun t _ _ => (intOf t).toNat)
  case atStart =>
    obtain ⟨hx1, hx2⟩ := Math.emod_bd 1 m h1
    obtain ⟨hy1, hy2⟩ := Math.emod_bd a m h1
    refine ⟨n.toNat, 1 % m, a % m, by omega, hx1, hx2, hy1, hy2, by rw [Int.toNat_of_nonneg hn1], rfl, rfl, ?_⟩
    show _ = _
    unfold Math.pw
    rw [Int.mul_emod, Math.pow_emod, Int.emod_emod_of_dvd _ (Int.dvd_refl m), ← Int.mul_emod, Int.one_mul]
  case round =>
    obtain ⟨k, x, y, hk, hx1, hx2, hy1, hy2, rfl, rfl, rfl, H⟩ := hrel
    obtain ⟨hb1, hb2⟩ := Math.mul_bd x y m hx1 hy1 hx2 hy2 h2
    obtain ⟨hc1, hc2⟩ := Math.mul_bd y y m hy1 hy1 hy2 hy2 h2
    by_cases hk0 : 0 < k
    · have hxx := Math.emod_bd (x * y) m h1
      have hyy := Math.emod_bd (y * y) m h1
      go_wp2
      · go_round
        case rel => exact ⟨k / 2, x * y % m, y * y % m, by omega, hxx.1, hxx.2, hyy.1, hyy.2, by go_num, rfl, rfl, (Math.pw_odd x y m k (by simp at *; omega)).trans H.out⟩
        case measure => simp [intOf]; omega
      · go_round
        case rel => exact ⟨k / 2, x, y * y % m, by omega, hx1, hx2, hyy.1, hyy.2, by go_num, rfl, rfl, (Math.pw_even x y m k (by simp at *; omega)).trans H.out⟩
        case measure => simp [intOf]; omega
    · obtain rfl : k = 0 := by omega
      have hfin : x = Math.pw a n.toNat m := by
        have := H.out
        rw [Int.pow_zero, Int.mul_one, Int.emod_eq_of_lt hx1 hx2] at this
        exact this
      have HF : Hid (x = Math.pw a n.toNat m) := hfin
      clear hfin
      go_wp2
      go_ret
      exact ⟨ret_int HF.out, nq, rfl⟩

theorem power_any (a n m : Int) (w : World) (h1 : 2 ≤ m) (h2 : m ≤ 2147483647) (hn1 : 0 ≤ n) (hn2 : n ≤ 2147483647) (ha1 : 0 ≤ a) (ha2 : a < m) :
    Calls Tryz.prog 83 #[.int .u64 a, .int .u64 n, .int .u64 m] w fun e w' => e = .returned (.int .u64 (Math.pw a n.toNat m)) ∧ w' = w := by
  go_enter Tryz.func83, Tryz.ntmps83
  go_wp2
  go_loop [1, 7, 8] (fun t o b => ∃ (k : Nat) (x y : Int), k ≤ 2147483647 ∧ 0 ≤ x ∧ x < m ∧ 0 ≤ y ∧ y < m ∧ t = .int .u64 k ∧ o = .int .u64 x ∧ b = .int .u64 y ∧ Hid (x * y ^ k % m = Math.pw a n.toNat m)) (fun t _ _ => (intOf t).toNat)
  case atStart =>
    refine ⟨n.toNat, 1, a, by omega, by omega, by omega, ha1, ha2, by rw [Int.toNat_of_nonneg hn1], rfl, rfl, ?_⟩
    show _ = _
    unfold Math.pw
    rw [Int.one_mul]
  case round =>
    obtain ⟨k, x, y, hk, hx1, hx2, hy1, hy2, rfl, rfl, rfl, H⟩ := hrel
    by_cases hk0 : 0 < k
    · have hxx := Math.emod_bd (x * y) m h1
      have hyy := Math.emod_bd (y * y) m h1
      have hne : ((k : Int) != 0) = true := by rw [bne_iff_ne]; omega
      go_wp2_with (go_at_call 117; refine (times_any _ _ _ _ h1 h2 (by assumption) (by omega) (by assumption) (by omega)).mono ?_; rintro e w' ⟨rfl, rfl⟩)
      · have ho : (bits BinOp.and IntKind.u64 (↑k) 1 == 1) = true := by assumption
        rw [and_one_u64 _ (by omega) (by omega)] at ho
        go_round
        case rel => exact ⟨k / 2, x * y % m, y * y % m, by omega, hxx.1, hxx.2, hyy.1, hyy.2, by go_num, rfl, rfl, (Math.pw_odd x y m k (by simp at ho; omega)).trans H.out⟩
        case measure => simp [intOf]; omega
      · have ho : (bits BinOp.and IntKind.u64 (↑k) 1 == 1) = false := by assumption
        rw [and_one_u64 _ (by omega) (by omega)] at ho
        go_round
        case rel => exact ⟨k / 2, x, y * y % m, by omega, hx1, hx2, hyy.1, hyy.2, by go_num, rfl, rfl, (Math.pw_even x y m k (by simp at ho; omega)).trans H.out⟩
        case measure => simp [intOf]; omega
    · obtain rfl : k = 0 := by omega
      have hfin : x = Math.pw a n.toNat m := by
        have := H.out
        rw [Int.pow_zero, Int.mul_one, Int.emod_eq_of_lt hx1 hx2] at this
        exact this
      have HF : Hid (x = Math.pw a n.toNat m) := hfin
      clear hfin
      go_wp2
      go_ret
      exact ⟨ret_int HF.out, rfl⟩

theorem implPowMod_no (a n m : Int) (w : World) (h : (m < 2 ∨ 2147483647 < m) ∨ (2 ≤ m ∧ m ≤ 2147483647 ∧ (n < 0 ∨ 2147483647 < n))) :
    Calls Tryz.prog 47 #[.int .i64 a, .int .i64 n, .int .i64 m] w fun e w' => e = .returned (.int .i64 (-1)) ∧ w' = w := by
  rcases h with h | ⟨h1, h2, h3⟩
  · go_enter Tryz.func47, Tryz.ntmps47
    go_wp2_with (go_at_call 80; refine (isMeasure_no _ _ h).mono ?_; rintro e w' ⟨rfl, rfl⟩)
    go_ret
    exact ⟨rfl, rfl⟩
  · go_enter Tryz.func47, Tryz.ntmps47
    go_wp2_with (first | (go_at_call 80; refine (isMeasure_yes _ _ h1 h2).mono ?_; rintro e w' ⟨rfl, rfl⟩) | (go_at_call 81; refine (upToMaxPrime_no _ _ h3).mono ?_; rintro e w' ⟨rfl, rfl⟩))
    go_ret
    exact ⟨rfl, rfl⟩

theorem implPowMod_yes (a n m : Int) (w : World) (h1 : 2 ≤ m) (h2 : m ≤ 2147483647) (hn1 : 0 ≤ n) (hn2 : n ≤ 2147483647) :
    Calls Tryz.prog 47 #[.int .i64 a, .int .i64 n, .int .i64 m] w fun e w' => e = .returned (.int .i64 (Math.pw a n.toNat m)) ∧ w' = w := by
  obtain ⟨hb1, hb2⟩ := Math.emod_bd a m h1
  have HE : Hid (Math.pw (a % m) n.toNat m = Math.pw a n.toNat m) := Math.pow_emod a m n.toNat
  obtain ⟨hp1, hp2⟩ := Math.pw_bd (a % m) m n.toNat h1
  go_enter Tryz.func47, Tryz.ntmps47
  go_wp2_with (first | (go_at_call 80; refine (isMeasure_yes _ _ h1 h2).mono ?_; rintro e w' ⟨rfl, rfl⟩) | (go_at_call 81; refine (upToMaxPrime_yes _ _ hn1 hn2).mono ?_; rintro e w' ⟨rfl, rfl⟩) | (go_at_call 82; refine (residueOf_any _ _ _ h1 h2).mono ?_; rintro e w' ⟨rfl, rfl⟩) | (go_at_call 83; refine (power_any _ _ _ _ h1 h2 hn1 hn2 hb1 hb2).mono ?_; rintro e w' ⟨rfl, rfl⟩))
  go_ret
  exact ⟨ret_int HE.out, rfl⟩

end Num
end Go.Proofs.YtmoinacceildcaaGreatDoor

/- Contracts of Gcd, of the program and of its model: what it returns is the greatest common divisor. -/
namespace Go.Proofs.YtmoinacceildcaaGreatDoor
namespace Num
open Go.ChangeShapes Go.WideShapes Go.ChangeAt Go.RowKit

end Num
end Go.Proofs.YtmoinacceildcaaGreatDoor

/- Contracts of Inverse, of the program and of its model: what it returns is the inverse by the measure, where there is one. -/
namespace Go.Proofs.YtmoinacceildcaaGreatDoor
namespace Num
open Go.ChangeShapes Go.WideShapes Go.ChangeAt Go.RowKit

theorem ret_two {k : IntKind} {a b : Int} {x : Value} (h : a = b) : Ending.returned (.tuple #[.int k a, x]) = .returned (.tuple #[.int k b, x]) := by rw [h]

/-- What the method inverse answers. -/
def invV (a m : Int) : Value := if Nat.gcd a.toNat m.toNat = 1 then .tuple #[.int .u64 (Math.inv a m), .bool true] else .tuple #[.int .u64 0, .bool false]
theorem invV_yes (a m : Int) (h : Nat.gcd a.toNat m.toNat = 1) : invV a m = .tuple #[.int .u64 (Math.inv a m), .bool true] := if_pos h
theorem invV_no (a m : Int) (h : Nat.gcd a.toNat m.toNat ≠ 1) : invV a m = .tuple #[.int .u64 0, .bool false] := if_neg h

end Num
end Go.Proofs.YtmoinacceildcaaGreatDoor

/- Contracts of Prime, of the program and of its model: whether no number below n, from 2 on, divides n. -/
namespace Go.Proofs.YtmoinacceildcaaGreatDoor
namespace Num
open Go.ChangeShapes Go.WideShapes Go.ChangeAt Go.RowKit

theorem ret_bool {a b : Bool} (h : a = b) : Ending.returned (.bool a) = .returned (.bool b) := by rw [h]

theorem specPrime_no (n : Int) (w : World) (h : n < 2 ∨ 2147483647 < n) :
    Calls Tryz.prog 64 #[.int .i64 n] w fun e w' => e = .returned (.bool false) ∧ w' = w := by
  go_enter Tryz.func64, Tryz.ntmps64
  go_wp2_with (go_at_call 65; refine (l01Measure_no _ _ h).mono ?_; rintro e w' ⟨rfl, rfl⟩)
  go_ret
  exact ⟨rfl, rfl⟩

theorem specPrime_yes (n : Nat) (w : World) (h1 : 2 ≤ n) (h2 : n ≤ 2147483647) :
    Calls Tryz.prog 64 #[.int .i64 n] w fun e w' => e = .returned (.bool (Math.primeB n)) ∧ w' = w := by
  go_enter Tryz.func64, Tryz.ntmps64
  go_wp2_with (go_at_call 65; refine (l01Measure_yes _ _ (by omega) (by omega)).mono ?_; rintro e w' ⟨rfl, rfl⟩)
  go_loop [3] (fun t => ∃ k : Nat, 2 ≤ k ∧ (k - 1) * (k - 1) ≤ n ∧ t = .int .i64 k ∧ Hid (∀ d : Nat, 2 ≤ d → d < k → n % d ≠ 0)) (fun t => (46341 - intOf t).toNat)
  case atStart => exact ⟨2, by omega, by omega, rfl, fun d h1 h2 => by omega⟩
  case round =>
    obtain ⟨k, hk2, hk, rfl, H⟩ := hrel
    have hb := Math.root_bd n (k - 1) hk h2
    have hm := Math.mul_bd' k k (by omega) (by omega) (by omega) (by omega)
    obtain ⟨hm1, hm2⟩ := hm
    clear hk
    by_cases hkk : k * k ≤ n
    · have hkk' : (k : Int) * (k : Int) ≤ n := by exact_mod_cast hkk
      have hb2 := Math.root_bd n k hkk h2
      by_cases hz : n % k = 0
      · have hz' : ((n : Int) % (k : Int) == 0) = true := by rw [beq_iff_eq]; exact_mod_cast hz
        have HF : Hid (Math.primeB n = false) := Math.primeB_no n k hk2 (by have := Math.sq_lt n k hkk hk2; simpa using this) (by simpa using hz)
        clear hz
        go_wp2
        go_ret
        exact ⟨ret_bool HF.out.symm, rfl⟩
      · have hz' : ((n : Int) % (k : Int) == 0) = false := by rw [beq_eq_false_iff_ne]; intro hc; exact hz (by exact_mod_cast hc)
        have HN : Hid (∀ d : Nat, 2 ≤ d → d < k + 1 → n % d ≠ 0) := Math.no_next n k H.out hz
        clear hz
        go_wp2
        go_round
        case rel => exact ⟨k + 1, by omega, by simpa using hkk, by go_num, HN⟩
        case measure => simp [intOf]; omega
    · have hkk' : (n : Int) < (k : Int) * (k : Int) := by exact_mod_cast Nat.lt_of_not_le hkk
      have HF : Hid (Math.primeB n = true) := Math.primeB_yes n (by simpa using Math.prime_of n k (Nat.lt_of_not_le hkk) H.out)
      go_wp2
      go_ret
      exact ⟨ret_bool HF.out.symm, rfl⟩

theorem implPrime_no (n : Int) (w : World) (h : n < 2 ∨ 2147483647 < n) :
    Calls Tryz.prog 87 #[.int .i64 n] w fun e w' => e = .returned (.bool false) ∧ w' = w := by
  go_enter Tryz.func87, Tryz.ntmps87
  go_wp2_with (go_at_call 80; refine (isMeasure_no _ _ h).mono ?_; rintro e w' ⟨rfl, rfl⟩)
  go_ret
  exact ⟨rfl, rfl⟩

theorem implPrime_yes (n : Nat) (w : World) (h1 : 2 ≤ n) (h2 : n ≤ 2147483647) :
    Calls Tryz.prog 87 #[.int .i64 n] w fun e w' => e = .returned (.bool (Math.primeB n)) ∧ w' = w := by
  by_cases he : n % 2 = 0
  · have HF : Hid (Math.primeB n = decide (n = 2)) := Math.primeB_even n h1 he
    have he' : ((n : Int) % 2 == 0) = true := by rw [beq_iff_eq]; omega
    clear he
    go_enter Tryz.func87, Tryz.ntmps87
    go_wp2_with (go_at_call 80; refine (isMeasure_yes _ _ (by omega) (by omega)).mono ?_; rintro e w' ⟨rfl, rfl⟩)
    go_ret
    refine ⟨ret_bool ?_, rfl⟩
    rw [HF.out, Bool.eq_iff_iff]
    simp
    omega
  · have he' : ((n : Int) % 2 == 0) = false := by rw [beq_eq_false_iff_ne]; omega
    have HO : Hid (n % 2 = 1) := by have : n % 2 = 1 := by omega
                                    exact this
    clear he
    go_enter Tryz.func87, Tryz.ntmps87
    go_wp2_with (go_at_call 80; refine (isMeasure_yes _ _ (by omega) (by omega)).mono ?_; rintro e w' ⟨rfl, rfl⟩)
    go_loop [3] (fun t => ∃ k : Nat, 3 ≤ k ∧ Hid (k % 2 = 1) ∧ (k - 2) * (k - 2) ≤ n ∧ t = .int .i64 k ∧ Hid (∀ d : Nat, 2 ≤ d → d < k → n % d ≠ 0)) (fun t => (46342 - intOf t).toNat)
    case atStart =>
      have ho := HO.out
      refine ⟨3, by omega, rfl, by omega, rfl, ?_⟩
      intro d hd1 hd2
      obtain rfl : d = 2 := by omega
      omega
    case round =>
      obtain ⟨k, hk2, HK, hk, rfl, H⟩ := hrel
      have hb := Math.root_bd n (k - 2) hk h2
      have hm := Math.mul_bd' k k (by omega) (by omega) (by omega) (by omega)
      obtain ⟨hm1, hm2⟩ := hm
      clear hk
      by_cases hkk : k * k ≤ n
      · have hkk' : (k : Int) * (k : Int) ≤ n := by exact_mod_cast hkk
        have hb2 := Math.root_bd n k hkk h2
        by_cases hz : n % k = 0
        · have hz' : ((n : Int) % (k : Int) == 0) = true := by rw [beq_iff_eq]; exact_mod_cast hz
          have HF : Hid (Math.primeB n = false) := Math.primeB_no n k (by omega) (by have := Math.sq_lt n k hkk (by omega); simpa using this) (by simpa using hz)
          clear hz
          go_wp2
          go_ret
          exact ⟨ret_bool HF.out.symm, rfl⟩
        · have hz' : ((n : Int) % (k : Int) == 0) = false := by rw [beq_eq_false_iff_ne]; intro hc; exact hz (by exact_mod_cast hc)
          have HN : Hid (∀ d : Nat, 2 ≤ d → d < k + 2 → n % d ≠ 0) := Math.no_next2 n k HO.out HK.out H.out hz
          clear hz
          go_wp2
          go_round
          case rel => exact ⟨k + 2, by omega, by have := HK.out; show _ = _; omega, by simpa using hkk, by go_num, HN⟩
          case measure => simp [intOf]; omega
      · have hkk' : (n : Int) < (k : Int) * (k : Int) := by exact_mod_cast Nat.lt_of_not_le hkk
        have HF : Hid (Math.primeB n = true) := Math.primeB_yes n (by simpa using Math.prime_of n k (Nat.lt_of_not_le hkk) H.out)
        go_wp2
        go_ret
        exact ⟨ret_bool HF.out.symm, rfl⟩

end Num
end Go.Proofs.YtmoinacceildcaaGreatDoor

/- The contracts of chapter 1 once more, each as one function of all its arguments. -/
namespace Go.Proofs.YtmoinacceildcaaGreatDoor
namespace Num
open Go.ChangeShapes Go.WideShapes Go.ChangeAt Go.RowKit

/-- Whether m is a measure. -/
def Meas (m : Int) : Prop := 2 ≤ m ∧ m ≤ 2147483647

theorem not_meas {m : Int} (h : ¬ Meas m) : m < 2 ∨ 2147483647 < m := by
  unfold Meas at h
  omega

/-- What Mod answers. -/
def modV (x m : Int) : Int := if 2 ≤ m ∧ m ≤ 2147483647 then x % m else -1

theorem modV_yes (x : Int) {m : Int} (h : Meas m) : modV x m = x % m := if_pos h

theorem modV_no (x : Int) {m : Int} (h : ¬ Meas m) : modV x m = -1 := if_neg h

/-- What MulMod answers. -/
def mulV (x y m : Int) : Int := if 2 ≤ m ∧ m ≤ 2147483647 then x % m * (y % m) % m else -1

theorem mulV_yes (x y : Int) {m : Int} (h : Meas m) : mulV x y m = x % m * (y % m) % m := if_pos h

theorem mulV_no (x y : Int) {m : Int} (h : ¬ Meas m) : mulV x y m = -1 := if_neg h

/-- Whether PowMod has an answer. -/
def PowOk (n m : Int) : Prop := 2 ≤ m ∧ m ≤ 2147483647 ∧ 0 ≤ n ∧ n ≤ 2147483647

/-- What PowMod answers. -/
def powV (a n m : Int) : Int := if 2 ≤ m ∧ m ≤ 2147483647 ∧ 0 ≤ n ∧ n ≤ 2147483647 then Math.pw a n.toNat m else -1

theorem powV_yes (a : Int) {n m : Int} (h : PowOk n m) : powV a n m = Math.pw a n.toNat m := if_pos h

theorem powV_no (a : Int) {n m : Int} (h : ¬ PowOk n m) : powV a n m = -1 := if_neg h

theorem pw_add (a m : Int) (r s : Nat) : Math.pw a r m % m * (Math.pw a s m % m) % m = Math.pw a (r + s) m := by
  unfold Math.pw
  rw [Int.emod_emod_of_dvd _ (Int.dvd_refl m), Int.emod_emod_of_dvd _ (Int.dvd_refl m), ← Int.mul_emod, ← Int.pow_add]

/-- What Gcd answers. -/
def gcdV (a b : Int) : Int := if 0 ≤ a ∧ a ≤ 2147483647 ∧ 0 ≤ b ∧ b ≤ 2147483647 then (Nat.gcd a.toNat b.toNat : Nat) else -1

theorem gcdV_yes {a b : Int} (h : 0 ≤ a ∧ a ≤ 2147483647 ∧ 0 ≤ b ∧ b ≤ 2147483647) : gcdV a b = (Nat.gcd a.toNat b.toNat : Nat) := if_pos h

theorem gcdV_no {a b : Int} (h : ¬ (0 ≤ a ∧ a ≤ 2147483647 ∧ 0 ≤ b ∧ b ≤ 2147483647)) : gcdV a b = -1 := if_neg h

theorem gcdV_comm (a b : Int) : gcdV b a = gcdV a b := by
  unfold gcdV
  rw [Nat.gcd_comm]
  by_cases h : 0 ≤ a ∧ a ≤ 2147483647 ∧ 0 ≤ b ∧ b ≤ 2147483647
  · rw [if_pos h, if_pos (by omega)]
  · rw [if_neg h, if_neg (by omega)]

theorem cast_le (k : Nat) (h : k ≤ 2147483647) : (k : Int) ≤ 2147483647 := by omega

theorem gcd_div (x y : Nat) (h : 0 < Nat.gcd x y) : Nat.gcd (x / Nat.gcd x y) (y / Nat.gcd x y) = 1 := by
  have e := Nat.gcd_mul_left (Nat.gcd x y) (x / Nat.gcd x y) (y / Nat.gcd x y)
  rw [Nat.mul_div_cancel' (Nat.gcd_dvd_left x y), Nat.mul_div_cancel' (Nat.gcd_dvd_right x y)] at e
  apply Nat.eq_of_mul_eq_mul_left h
  rw [Nat.mul_one]
  exact e.symm

theorem gcdV_pos (a b : Int) (h : 0 < gcdV a b) : 0 ≤ a ∧ 0 ≤ b ∧ gcdV a b ≤ 2147483647 ∧ a % gcdV a b = 0 ∧ b % gcdV a b = 0 ∧ gcdV (a / gcdV a b) (b / gcdV a b) = 1 := by
  by_cases hc : 0 ≤ a ∧ a ≤ 2147483647 ∧ 0 ≤ b ∧ b ≤ 2147483647
  · have e := gcdV_yes hc
    rw [e] at h ⊢
    obtain ⟨x, rfl⟩ := Int.eq_ofNat_of_zero_le hc.1
    obtain ⟨y, rfl⟩ := Int.eq_ofNat_of_zero_le hc.2.2.1
    have hp : 0 < Nat.gcd x y := by simpa using h
    have e1 := gcd_div x y hp
    have d1 := Nat.mod_eq_zero_of_dvd (Nat.gcd_dvd_left x y)
    have d2 := Nat.mod_eq_zero_of_dvd (Nat.gcd_dvd_right x y)
    have l1 := Nat.div_le_self x (Nat.gcd x y)
    have l2 := Nat.div_le_self y (Nat.gcd x y)
    have l3 : Nat.gcd x y ≤ 2147483647 := by
      by_cases hx : x = 0
      · subst hx; rw [Nat.gcd_zero_left]; omega
      · have := Nat.gcd_le_left y (show 0 < x by omega); omega
    simp only [Int.toNat_natCast]
    refine ⟨by omega, by omega, by omega, by exact_mod_cast d1, by exact_mod_cast d2, ?_⟩
    have q1 : ((x : Int) / (Nat.gcd x y : Nat)) = ((x / Nat.gcd x y : Nat) : Int) := by simp
    have q2 : ((y : Int) / (Nat.gcd x y : Nat)) = ((y / Nat.gcd x y : Nat) : Int) := by simp
    have b1 : x / Nat.gcd x y ≤ 2147483647 := Nat.le_trans l1 (by omega)
    have b2 : y / Nat.gcd x y ≤ 2147483647 := Nat.le_trans l2 (by omega)
    rw [q1, q2, gcdV_yes ⟨Int.natCast_nonneg _, cast_le _ b1, Int.natCast_nonneg _, cast_le _ b2⟩]
    simp only [Int.toNat_natCast]
    rw [e1]
    rfl
  · rw [gcdV_no hc] at h
    omega

/-- Whether a has an inverse by m. -/
def invB (a m : Int) : Bool := decide (2 ≤ m ∧ m ≤ 2147483647 ∧ Nat.gcd (a % m).toNat m.toNat = 1)

/-- The number that Inverse answers. -/
def invI (a m : Int) : Int := if 2 ≤ m ∧ m ≤ 2147483647 ∧ Nat.gcd (a % m).toNat m.toNat = 1 then Math.inv (a % m) m else 0

theorem invI_bd (a m : Int) : 0 ≤ invI a m ∧ invI a m ≤ 2147483647 := by
  unfold invI
  split
  · rename_i h
    have := Math.inv_bd (a % m) m h.1
    omega
  · omega

theorem invB_ok (a m : Int) (h : invB a m = true) : Meas m ∧ 0 ≤ invI a m ∧ invI a m < m ∧ mulV a (invI a m) m = 1 := by
  unfold invB at h
  have h1 := of_decide_eq_true h
  have hm : Meas m := ⟨h1.1, h1.2.1⟩
  have e : invI a m = Math.inv (a % m) m := if_pos h1
  have hb := Math.inv_bd (a % m) m h1.1
  rw [e]
  refine ⟨hm, hb.1, hb.2, ?_⟩
  rw [mulV_yes _ _ hm, Int.emod_eq_of_lt hb.1 hb.2]
  obtain ⟨ha0, ha1⟩ := Math.emod_bd a m h1.1
  exact Math.inv_ok (a % m) m h1.1 ha0 ha1 h1.2.2

theorem invB_gcd (a m : Int) (h : Meas m) : invB a m = (gcdV (a % m) m == 1) := by
  obtain ⟨ha0, ha1⟩ := Math.emod_bd a m h.1
  have hh := h
  unfold Meas at hh
  rw [gcdV_yes (by omega)]
  unfold invB
  rw [Bool.eq_iff_iff]
  simp [hh.1, hh.2]
  omega

theorem invB_no (a m : Int) (h : ¬ Meas m) : invB a m = false := by
  unfold invB
  unfold Meas at h
  exact decide_eq_false (by omega)

theorem specMod_val (x m : Int) (w : World) :
    Calls Tryz.prog 66 #[.int .i64 x, .int .i64 m] w fun e w' => e = .returned (.int .i64 (modV x m)) ∧ w' = w := by
  by_cases h : Meas m
  · rw [modV_yes x h]; exact specMod_yes x m w h.1 h.2
  · rw [modV_no x h]; exact specMod_no x m w (not_meas h)

theorem powNot {n m : Int} (h : ¬ PowOk n m) : (m < 2 ∨ 2147483647 < m) ∨ (2 ≤ m ∧ m ≤ 2147483647 ∧ (n < 0 ∨ 2147483647 < n)) := by
  unfold PowOk at h
  omega

theorem specPowMod_val (a n m : Int) (w : World) :
    Calls Tryz.prog 37 #[.int .i64 a, .int .i64 n, .int .i64 m] w fun e w' => e = .returned (.int .i64 (powV a n m)) ∧ Drawn w w' := by
  by_cases h : PowOk n m
  · rw [powV_yes a h]; exact specPowMod_yes a n m w h.1 h.2.1 h.2.2.1 h.2.2.2
  · rw [powV_no a h]
    refine (specPowMod_no a n m w (powNot h)).mono ?_
    rintro e w' ⟨rfl, rfl⟩
    exact ⟨rfl, Drawn.refl _⟩

theorem implPowMod_val (a n m : Int) (w : World) :
    Calls Tryz.prog 47 #[.int .i64 a, .int .i64 n, .int .i64 m] w fun e w' => e = .returned (.int .i64 (powV a n m)) ∧ w' = w := by
  by_cases h : PowOk n m
  · rw [powV_yes a h]; exact implPowMod_yes a n m w h.1 h.2.1 h.2.2.1 h.2.2.2
  · rw [powV_no a h]; exact implPowMod_no a n m w (powNot h)

theorem inv_cases (a m : Int) : (¬ Meas m ∧ invI a m = 0 ∧ invB a m = false) ∨ (Meas m ∧ Nat.gcd (a % m).toNat m.toNat ≠ 1 ∧ invI a m = 0 ∧ invB a m = false) ∨ (Meas m ∧ Nat.gcd (a % m).toNat m.toNat = 1 ∧ invI a m = Math.inv (a % m) m ∧ invB a m = true) := by
  by_cases h : Meas m
  · by_cases hg : Nat.gcd (a % m).toNat m.toNat = 1
    · exact Or.inr (Or.inr ⟨h, hg, if_pos ⟨h.1, h.2, hg⟩, decide_eq_true ⟨h.1, h.2, hg⟩⟩)
    · exact Or.inr (Or.inl ⟨h, hg, if_neg fun k => hg k.2.2, decide_eq_false fun k => hg k.2.2⟩)
  · exact Or.inl ⟨h, if_neg fun k => h ⟨k.1, k.2.1⟩, decide_eq_false fun k => h ⟨k.1, k.2.1⟩⟩

/-- What Prime answers. -/
def primeV (n : Int) : Bool := if 2 ≤ n ∧ n ≤ 2147483647 then Math.primeB n else false

theorem primeV_yes {n : Int} (h : Meas n) : primeV n = Math.primeB n := if_pos h

theorem primeV_no {n : Int} (h : ¬ Meas n) : primeV n = false := if_neg h

theorem primeV_nat (n : Int) (h : Meas n) : ∃ k : Nat, n = k ∧ 2 ≤ k ∧ k ≤ 2147483647 := by
  unfold Meas at h
  exact ⟨n.toNat, by omega, by omega, by omega⟩

theorem primeV_ok (n k : Int) (h : primeV n = true) (hk : 2 ≤ k) (hkn : k < n) : n % k ≠ 0 := by
  by_cases hm : Meas n
  · rw [primeV_yes hm] at h
    obtain ⟨x, rfl, h1, h2⟩ := primeV_nat n hm
    obtain ⟨y, rfl⟩ := Int.eq_ofNat_of_zero_le (show 0 ≤ k by omega)
    have h3 := of_decide_eq_true h y (by simp; omega) (by omega)
    intro h4
    apply h3
    simp only [Int.toNat_natCast]
    exact_mod_cast h4
  · rw [primeV_no hm] at h
    exact absurd h (by simp)

theorem primeV_meas (n : Int) (h : primeV n = true) : 2 ≤ n ∧ n ≤ 2147483647 := by
  by_cases hm : Meas n
  · exact hm
  · rw [primeV_no hm] at h
    exact absurd h (by simp)

theorem specPrime_val (n : Int) (w : World) :
    Calls Tryz.prog 64 #[.int .i64 n] w fun e w' => e = .returned (.bool (primeV n)) ∧ w' = w := by
  by_cases h : Meas n
  · rw [primeV_yes h]
    obtain ⟨k, rfl, h1, h2⟩ := primeV_nat n h
    exact specPrime_yes k w h1 h2
  · rw [primeV_no h]; exact specPrime_no n w (not_meas h)

theorem implPrime_val (n : Int) (w : World) :
    Calls Tryz.prog 87 #[.int .i64 n] w fun e w' => e = .returned (.bool (primeV n)) ∧ w' = w := by
  by_cases h : Meas n
  · rw [primeV_yes h]
    obtain ⟨k, rfl, h1, h2⟩ := primeV_nat n h
    exact implPrime_yes k w h1 h2
  · rw [primeV_no h]; exact implPrime_no n w (not_meas h)

end Num
end Go.Proofs.YtmoinacceildcaaGreatDoor

/- Plain facts on integers that the contracts of chapter 2 rest on: periods of powers, and why a mark that was made by the equation meets it. -/
namespace Go.Proofs.YtmoinacceildcaaGreatDoor
namespace Math

theorem one_emod (p : Int) (hp : 2 ≤ p) : (1 : Int) % p = 1 := Int.emod_eq_of_lt (by omega) (by omega)

theorem emod_two (x p : Int) : x % p % p = x % p := Int.emod_emod_of_dvd _ (Int.dvd_refl p)

theorem one_pow' (n : Nat) : (1 : Int) ^ n = 1 := by
  induction n with
  | zero => rfl
  | succ n ih => rw [Int.pow_succ, ih]; rfl

theorem pow_one_emod (a p : Int) (hp : 2 ≤ p) (h : a % p = 1) (n : Nat) : a ^ n % p = 1 := by
  rw [← pow_emod, h, one_pow', one_emod p hp]

theorem period (g p : Int) (q : Nat) (hp : 2 ≤ p) (h : g ^ q % p = 1) (a : Nat) : g ^ a % p = g ^ (a % q) % p := by
  have e : g ^ a = (g ^ q) ^ (a / q) * g ^ (a % q) := by
    rw [← Int.pow_mul, ← Int.pow_add, Nat.div_add_mod]
  rw [e, Int.mul_emod, pow_one_emod _ p hp h, Int.one_mul, emod_two]

theorem pow_pow_emod (g p : Int) (a b : Nat) : (g ^ a % p) ^ b % p = g ^ (a * b) % p := by
  rw [pow_emod, ← Int.pow_mul]

theorem open_not_one (g p : Int) (q x y : Nat) (hp : 2 ≤ p) (h : g ^ q % p = 1) (hxy : x * y % q = 1) (hg : 2 ≤ g) (hg' : g < p) : g ^ x % p ≠ 1 := by
  intro h1
  have h2 : (g ^ x) ^ y % p = 1 := pow_one_emod _ p hp h1 y
  rw [← Int.pow_mul, period g p q hp h, hxy, Int.pow_succ, Int.pow_zero, Int.one_mul, Int.emod_eq_of_lt (by omega) hg'] at h2
  omega

theorem open_in (g p : Int) (q x : Nat) (hp : 2 ≤ p) (h : g ^ q % p = 1) : (g ^ x % p) ^ q % p = 1 := by
  rw [pow_pow_emod, Nat.mul_comm, Int.pow_mul]
  exact pow_one_emod _ p hp h x

theorem zero_pow' (n : Nat) (h : 0 < n) : (0 : Int) ^ n = 0 := by
  cases n with
  | zero => omega
  | succ n => rw [Int.pow_succ, Int.mul_zero]

theorem open_not_zero (g p : Int) (q x : Nat) (hp : 2 ≤ p) (h : g ^ q % p = 1) (hq : 2 ≤ q) : g ^ x % p ≠ 0 := by
  intro h0
  have h1 := open_in g p q x hp h
  rw [h0, zero_pow' q (by omega)] at h1
  simp at h1

theorem emod_ex (a q : Int) : ∃ t, a % q = a + q * t := ⟨-(a / q), by have := Int.emod_def a q; rw [Int.mul_neg]; omega⟩

theorem ex_of_one (a q : Int) (h : a % q = 1) : ∃ t, a = 1 + q * t := ⟨a / q, by have := Int.emod_def a q; omega⟩

theorem exps (h w q a b c d e k ki r s u v x : Int) (h1 : u = h * w + q * a) (h2 : v = r * w + q * b) (h3 : s = ki * (h + x * r) + q * c) (h4 : s * w = 1 + q * d) (h5 : k * ki = 1 + q * e) :
    u + x * v = k + q * (a + x * b + k * d - c * k * w - e * (h + x * r) * w) := by grind

/-- The powers that a made mark asks for are, by the period, the draw. -/
theorem exps_mod (q h w k ki r x : Int) (h4 : (ki * (h + x * r) % q) * w % q = 1) (h5 : k * ki % q = 1) : (h * w % q + x * (r * w % q)) % q = k % q := by
  obtain ⟨a, ha⟩ := emod_ex (h * w) q
  obtain ⟨b, hb⟩ := emod_ex (r * w) q
  obtain ⟨c, hc⟩ := emod_ex (ki * (h + x * r)) q
  obtain ⟨d, hd⟩ := ex_of_one _ q h4
  obtain ⟨e, he⟩ := ex_of_one _ q h5
  rw [exps h w q a b c d e k ki r _ _ _ x ha hb hc hd he, Int.add_mul_emod_self_left]

theorem nat_emod (a b q : Nat) (h : ((a : Int)) % (q : Int) = (b : Int) % (q : Int)) : a % q = b % q := by exact_mod_cast h

/-- What the open key and the powers make is the power by the draw. -/
theorem equation (g p : Int) (q x u v k : Nat) (hp : 2 ≤ p) (h : g ^ q % p = 1) (e : (u + x * v) % q = k % q) : (g ^ u % p) * ((g ^ x % p) ^ v % p) % p = g ^ k % p := by
  rw [pow_pow_emod, ← Int.mul_emod, ← Int.pow_add, period g p q hp h, e, ← period g p q hp h]

theorem sum_mod (h x r q : Int) : (h + x % q * (r % q) % q) % q = (h + x * r) % q := by
  rw [← Int.mul_emod, Int.add_emod, emod_two, ← Int.add_emod]

theorem prime_gcd (q a : Nat) (h : ∀ d : Nat, 2 ≤ d → d < q → q % d ≠ 0) (ha : 1 ≤ a) (haq : a < q) : Nat.gcd a q = 1 := by
  have h1 := Nat.gcd_dvd_left a q
  have h2 := Nat.gcd_dvd_right a q
  have h3 := Nat.le_of_dvd (by omega) h1
  have h4 := Nat.gcd_pos_of_pos_left q (show 0 < a by omega)
  by_cases h5 : Nat.gcd a q = 1
  · exact h5
  · exact absurd (Nat.mod_eq_zero_of_dvd h2) (h _ (by omega) (by omega))

/-- None of the 2^f numbers from lo on divides n. -/
def noDiv (n : Nat) : Nat → Nat → Bool
  | 0, lo => n % lo != 0
  | f + 1, lo => noDiv n f lo && noDiv n f (lo + 2 ^ f)

theorem noDiv_ok (n f : Nat) : ∀ lo, noDiv n f lo = true → ∀ d, lo ≤ d → d < lo + 2 ^ f → n % d ≠ 0 := by
  induction f with
  | zero =>
    intro lo h d h1 h2
    obtain rfl : d = lo := by omega
    simpa [noDiv] using h
  | succ f ih =>
    intro lo h d h1 h2
    rw [noDiv, Bool.and_eq_true] at h
    rw [Nat.pow_succ] at h2
    by_cases hd : d < lo + 2 ^ f
    · exact ih lo h.1 d h1 hd
    · exact ih _ h.2 d (by omega) (by omega)

theorem primeB_of (n f : Nat) (h : noDiv n f 2 = true) (hf : n < (2 + 2 ^ f) * (2 + 2 ^ f)) : primeB n = true := by
  apply primeB_yes
  intro d h2 hd
  rw [Int.toNat_natCast] at hd ⊢
  exact prime_of n (2 + 2 ^ f) hf (fun d h1 h2 => noDiv_ok n f 2 h d h1 h2) d h2 hd

end Math
end Go.Proofs.YtmoinacceildcaaGreatDoor

/- What the functions of chapter 2 answer, as functions of their arguments; and that what is signed verifies. -/
namespace Go.Proofs.YtmoinacceildcaaGreatDoor
namespace Num

/-- What ParamsOk answers. -/
def okP (p q g : Int) : Bool := primeV p && primeV q && decide (100 ≤ q) && decide ((p - 1) % q = 0) && decide (2 ≤ g ∧ g ≤ p - 1) && decide (powV g q p = 1)

theorem okP_facts {p q g : Int} (h : okP p q g = true) : Meas p ∧ Meas q ∧ 100 ≤ q ∧ q ≤ p - 1 ∧ (p - 1) % q = 0 ∧ 2 ≤ g ∧ g ≤ p - 1 ∧ powV g q p = 1 ∧ primeV q = true ∧ primeV p = true := by
  simp only [okP, Bool.and_eq_true, decide_eq_true_eq] at h
  obtain ⟨⟨⟨⟨⟨h1, h2⟩, h3⟩, h4⟩, h5⟩, h6⟩ := h
  have hp := primeV_meas p h1
  have hq := primeV_meas q h2
  have hle : q ≤ p - 1 := Int.le_of_dvd (by omega) (Int.dvd_of_emod_eq_zero h4)
  exact ⟨hp, hq, h3, hle, h4, h5.1, h5.2, h6, h2, h1⟩

theorem okP_yes {p q g : Int} (h1 : primeV p = true) (h2 : primeV q = true) (h3 : 100 ≤ q) (h4 : (p - 1) % q = 0) (h5 : 2 ≤ g) (h6 : g ≤ p - 1) (h7 : powV g q p = 1) : okP p q g = true := by
  simp [okP, h1, h2, h3, h4, h5, h6, h7]

/-- The first half of a mark. -/
def rV (p q g k : Int) : Int := modV (powV g k p) q

/-- The second half of a mark. -/
def sV (p q g x h k : Int) : Int := mulV (invI k q) (h + mulV x (rV p q g k) q) q

/-- Whether a draw will do. -/
def doV (p q g x h k : Int) : Bool := decide (1 ≤ k ∧ k ≤ q - 1) && !(rV p q g k == 0) && !(sV p q g x h k == 0)

/-- Whether a mark is in its bounds. -/
def inQ (q r : Int) : Bool := decide (1 ≤ r ∧ r ≤ q - 1)

/-- Whether an open key is one of these parameters. -/
def opOk (p q o : Int) : Bool := decide (2 ≤ o ∧ o ≤ p - 1) && decide (powV o q p = 1)

/-- What the equation's one side answers. -/
def eqV (p q g o h r s : Int) : Int := modV (mulV (powV g (mulV h (invI s q) q) p) (powV o (mulV r (invI s q) q) p) p) q

theorem invB_prime (q a : Int) (h : primeV q = true) (h1 : 1 ≤ a) (h2 : a ≤ q - 1) : invB a q = true := by
  have hm := primeV_meas q h
  have h3 : Nat.gcd (a % q).toNat q.toNat = 1 := by
    rw [Int.emod_eq_of_lt (by omega) (by omega)]
    obtain ⟨x, rfl⟩ := Int.eq_ofNat_of_zero_le (show 0 ≤ a by omega)
    obtain ⟨y, rfl⟩ := Int.eq_ofNat_of_zero_le (show 0 ≤ q by omega)
    refine Math.prime_gcd y x ?_ (by omega) (by omega)
    intro d hd1 hd2 hd3
    exact primeV_ok (y : Int) (d : Int) h (by omega) (by omega) (by exact_mod_cast hd3)
  unfold invB
  exact decide_eq_true ⟨hm.1, hm.2, h3⟩

theorem rV_bd {p q g k : Int} (h : Meas q) : 0 ≤ rV p q g k ∧ rV p q g k < q := by
  unfold rV
  rw [modV_yes _ h]
  exact Math.emod_bd _ _ h.1

theorem sV_bd {p q g x h k : Int} (hq : Meas q) : 0 ≤ sV p q g x h k ∧ sV p q g x h k < q := by
  unfold sV
  rw [mulV_yes _ _ hq]
  exact Math.emod_bd _ _ hq.1

theorem mulV_bd (a b : Int) {q : Int} (h : Meas q) : 0 ≤ mulV a b q ∧ mulV a b q < q := by
  rw [mulV_yes _ _ h]
  exact Math.emod_bd _ _ h.1

theorem mulV_mul (a b : Int) {q : Int} (h : Meas q) : mulV a b q = a * b % q := by
  rw [mulV_yes _ _ h, ← Int.mul_emod]

theorem powV_eq (a : Int) {n m : Int} (hm : Meas m) (h0 : 0 ≤ n) (h1 : n ≤ 2147483647) : powV a n m = a ^ n.toNat % m := powV_yes a ⟨hm.1, hm.2, h0, h1⟩

theorem powV_bd (a : Int) {n m : Int} (hm : Meas m) (h0 : 0 ≤ n) (h1 : n ≤ 2147483647) : 0 ≤ powV a n m ∧ powV a n m < m := by
  rw [powV_eq a hm h0 h1]
  exact Math.emod_bd _ _ hm.1

/-- The second half of a mark, as the program reckons it. -/
theorem sV_impl (p q g x h k : Int) (hq : Meas q) : mulV (invI k q) (h + x * rV p q g k) q = sV p q g x h k := by
  unfold sV
  rw [mulV_yes _ _ hq, mulV_yes _ _ hq, mulV_yes x _ hq, Math.sum_mod]

/-- The open key of a secret is one of these parameters. -/
theorem open_ok {p q g x : Int} (h : okP p q g = true) (h1 : 1 ≤ x) (h2 : x ≤ q - 1) : opOk p q (powV g x p) = true := by
  obtain ⟨hp, hq, hq1, hq2, hd, hg1, hg2, hpow, hpr, -⟩ := okP_facts h
  have hp1 := hp.1
  have hp2 := hp.2
  have hq3 := hq.1
  have hq4 := hq.2
  rw [powV_eq g hp (by omega) (by omega)] at hpow
  rw [powV_eq g hp (by omega) (by omega)]
  obtain ⟨b1, b2⟩ := Math.emod_bd (g ^ x.toNat) p hp1
  have hi := invB_ok x q (invB_prime q x hpr h1 h2)
  have n0 := Math.open_not_zero g p q.toNat x.toNat hp1 hpow (by omega)
  have n1 : g ^ x.toNat % p ≠ 1 := by
    refine Math.open_not_one g p q.toNat x.toNat (invI x q).toNat hp1 hpow ?_ hg1 (by omega)
    have e := hi.2.2.2
    rw [mulV_mul _ _ hq] at e
    have i0 := hi.2.1
    generalize invI x q = y at *
    obtain ⟨x', rfl⟩ := Int.eq_ofNat_of_zero_le (show 0 ≤ x by omega)
    obtain ⟨y', rfl⟩ := Int.eq_ofNat_of_zero_le i0
    obtain ⟨q', rfl⟩ := Int.eq_ofNat_of_zero_le (show 0 ≤ q by omega)
    simp only [Int.toNat_natCast]
    exact_mod_cast e
  have hi2 := Math.open_in g p q.toNat x.toNat hp1 hpow
  have hpo : powV (g ^ x.toNat % p) q p = 1 := by
    rw [powV_eq _ hp (by omega) (by omega)]
    exact hi2
  unfold opOk
  rw [Bool.and_eq_true, decide_eq_true_eq, decide_eq_true_eq]
  refine ⟨by omega, hpo⟩

/-- What is signed meets the equation. -/
theorem signed_eq {p q g x k h : Int} (hok : okP p q g = true) (h1 : 1 ≤ x) (h2 : x ≤ q - 1) (hk : doV p q g x h k = true) :
    eqV p q g (powV g x p) h (rV p q g k) (sV p q g x h k) = rV p q g k := by
  obtain ⟨hp, hq, hq1, hq2, hd, hg1, hg2, hpow, hpr, -⟩ := okP_facts hok
  have hp1 := hp.1
  have hp2 := hp.2
  have hq3 := hq.1
  have hq4 := hq.2
  simp only [doV, Bool.and_eq_true, Bool.not_eq_true', beq_eq_false_iff_ne, decide_eq_true_eq] at hk
  obtain ⟨⟨⟨hk1, hk2⟩, hr⟩, hs⟩ := hk
  have rb := rV_bd (p := p) (g := g) (k := k) hq
  have sb := sV_bd (p := p) (g := g) (x := x) (h := h) (k := k) hq
  have ik := invB_ok k q (invB_prime q k hpr hk1 hk2)
  have is := invB_ok (sV p q g x h k) q (invB_prime q _ hpr (by omega) (by omega))
  have es := sV_impl p q g x h k hq
  have ek := ik.2.2.2
  have ew := is.2.2.2
  rw [mulV_mul _ _ hq] at es ek ew
  have hrv : rV p q g k = powV g k p % q := modV_yes _ hq
  unfold eqV
  have ub := mulV_bd h (invI (sV p q g x h k) q) hq
  have vb := mulV_bd (rV p q g k) (invI (sV p q g x h k) q) hq
  have ue := mulV_mul h (invI (sV p q g x h k) q) hq
  have ve := mulV_mul (rV p q g k) (invI (sV p q g x h k) q) hq
  have main : mulV (powV g (mulV h (invI (sV p q g x h k) q) q) p) (powV (powV g x p) (mulV (rV p q g k) (invI (sV p q g x h k) q) q) p) p = powV g k p := by
    generalize invI (sV p q g x h k) q = w at *
    generalize mulV h w q = u at *
    generalize mulV (rV p q g k) w q = v at *
    generalize rV p q g k = r at *
    generalize invI k q = ki at *
    rw [← es] at ew
    have ex := Math.exps_mod q h w k ki r x ew ek
    rw [← ue, ← ve] at ex
    rw [powV_eq g hp (by omega) (by omega)] at hpow
    rw [mulV_mul _ _ hp, powV_eq g hp (by omega) (by omega), powV_eq g hp (by omega) (by omega), powV_eq _ hp (by omega) (by omega), powV_eq g hp (by omega) (by omega)]
    refine Math.equation g p q.toNat x.toNat u.toNat v.toNat k.toNat hp1 hpow ?_
    obtain ⟨x', rfl⟩ := Int.eq_ofNat_of_zero_le (show 0 ≤ x by omega)
    obtain ⟨u', rfl⟩ := Int.eq_ofNat_of_zero_le ub.1
    obtain ⟨v', rfl⟩ := Int.eq_ofNat_of_zero_le vb.1
    obtain ⟨k', rfl⟩ := Int.eq_ofNat_of_zero_le (show 0 ≤ k by omega)
    obtain ⟨q', rfl⟩ := Int.eq_ofNat_of_zero_le (show 0 ≤ q by omega)
    simp only [Int.toNat_natCast]
    exact_mod_cast ex
  rw [main]
  rfl

theorem doV_bd {p q g x h k : Int} (hq : Meas q) (hk : doV p q g x h k = true) : inQ q (rV p q g k) = true ∧ inQ q (sV p q g x h k) = true := by
  simp only [doV, Bool.and_eq_true, Bool.not_eq_true', beq_eq_false_iff_ne, decide_eq_true_eq] at hk
  obtain ⟨⟨⟨hk1, hk2⟩, hr⟩, hs⟩ := hk
  have rb := rV_bd (p := p) (g := g) (k := k) hq
  have sb := sV_bd (p := p) (g := g) (x := x) (h := h) (k := k) hq
  unfold inQ
  exact ⟨decide_eq_true (by omega), decide_eq_true (by omega)⟩

theorem primeV_of (n f : Nat) (h1 : 2 ≤ n) (h2 : n ≤ 2147483647) (h : Math.noDiv n f 2 = true) (hf : n < (2 + 2 ^ f) * (2 + 2 ^ f)) : primeV n = true := by
  rw [primeV_yes ⟨by omega, by omega⟩]
  exact Math.primeB_of n f h hf

theorem powV_nat (g q p : Nat) (hp : 2 ≤ p) (hp2 : p ≤ 2147483647) (hq : q ≤ 2147483647) (h : g ^ q % p = 1) : powV g q p = 1 := by
  rw [powV_eq _ ⟨by omega, by omega⟩ (by omega) (by omega), Int.toNat_natCast]
  exact_mod_cast h

theorem ok1 : okP 1213 101 457 = true := okP_yes (primeV_of 1213 6 (by decide) (by decide) (by decide +kernel) (by decide +kernel)) (primeV_of 101 4 (by decide) (by decide) (by decide +kernel) (by decide +kernel)) (by decide) (by decide) (by decide) (by decide) (powV_nat 457 101 1213 (by decide) (by decide) (by decide) (by decide +kernel))

theorem ok2 : okP 4243 101 1630 = true := okP_yes (primeV_of 4243 6 (by decide) (by decide) (by decide +kernel) (by decide +kernel)) (primeV_of 101 4 (by decide) (by decide) (by decide +kernel) (by decide +kernel)) (by decide) (by decide) (by decide) (by decide) (powV_nat 1630 101 4243 (by decide) (by decide) (by decide) (by decide +kernel))

theorem ok3 : okP 240169 10007 205555 = true := okP_yes (primeV_of 240169 9 (by decide) (by decide) (by decide +kernel) (by decide +kernel)) (primeV_of 10007 7 (by decide) (by decide) (by decide +kernel) (by decide +kernel)) (by decide) (by decide) (by decide) (by decide) (powV_nat 205555 10007 240169 (by decide) (by decide) (by decide) (by decide +kernel))

theorem ok4 : okP 63353 7919 256 = true := okP_yes (primeV_of 63353 8 (by decide) (by decide) (by decide +kernel) (by decide +kernel)) (primeV_of 7919 7 (by decide) (by decide) (by decide +kernel) (by decide +kernel)) (by decide) (by decide) (by decide) (by decide) (powV_nat 256 7919 63353 (by decide) (by decide) (by decide) (by decide +kernel))

theorem ok5 : okP 917519 65537 16384 = true := okP_yes (primeV_of 917519 10 (by decide) (by decide) (by decide +kernel) (by decide +kernel)) (primeV_of 65537 8 (by decide) (by decide) (by decide +kernel) (by decide +kernel)) (by decide) (by decide) (by decide) (by decide) (powV_nat 16384 65537 917519 (by decide) (by decide) (by decide) (by decide +kernel))

theorem ok6 : okP 36000109 1000003 31268764 = true := okP_yes (primeV_of 36000109 13 (by decide) (by decide) (by decide +kernel) (by decide +kernel)) (primeV_of 1000003 10 (by decide) (by decide) (by decide +kernel) (by decide +kernel)) (by decide) (by decide) (by decide) (by decide) (powV_nat 31268764 1000003 36000109 (by decide) (by decide) (by decide) (by decide +kernel))

end Num
end Go.Proofs.YtmoinacceildcaaGreatDoor

/- Plain facts on the sum of a text (CRC-32), on its folding, and on lists of bytes. -/
namespace Go.Proofs.YtmoinacceildcaaGreatDoor
namespace Math

theorem bits_xor_u32 (a b : Nat) (ha : a < 4294967296) (hb : b < 4294967296) :
    bits .xor .u32 (a : Int) (b : Int) = ((a ^^^ b : Nat) : Int) := by
  have hx : a ^^^ b < 2 ^ 32 := Nat.xor_lt_two_pow (by omega) (by omega)
  have h1 : (BitVec.ofInt 32 (a : Int)).toNat = a := by
    rw [BitVec.ofInt_natCast, BitVec.toNat_ofNat]; exact Nat.mod_eq_of_lt (by omega)
  have h2 : (BitVec.ofInt 32 (b : Int)).toNat = b := by
    rw [BitVec.ofInt_natCast, BitVec.toNat_ofNat]; exact Nat.mod_eq_of_lt (by omega)
  show IntKind.u32.wrap ((BitVec.ofInt 32 (a : Int) ^^^ BitVec.ofInt 32 (b : Int)).toNat : Int) = _
  rw [BitVec.toNat_xor, h1, h2, IntKind.wrap_u32]
  omega

theorem bits_and_u32 (a b : Nat) (ha : a < 4294967296) (hb : b < 4294967296) :
    bits .and .u32 (a : Int) (b : Int) = ((a &&& b : Nat) : Int) := by
  have hx : a &&& b < 2 ^ 32 := Nat.and_lt_two_pow _ (by omega)
  have h1 : (BitVec.ofInt 32 (a : Int)).toNat = a := by
    rw [BitVec.ofInt_natCast, BitVec.toNat_ofNat]; exact Nat.mod_eq_of_lt (by omega)
  have h2 : (BitVec.ofInt 32 (b : Int)).toNat = b := by
    rw [BitVec.ofInt_natCast, BitVec.toNat_ofNat]; exact Nat.mod_eq_of_lt (by omega)
  show IntKind.u32.wrap ((BitVec.ofInt 32 (a : Int) &&& BitVec.ofInt 32 (b : Int)).toNat : Int) = _
  rw [BitVec.toNat_and, h1, h2, IntKind.wrap_u32]
  omega

theorem and_one_u32 (a : Nat) (ha : a < 4294967296) : bits .and .u32 (a : Int) 1 = ((a % 2 : Nat) : Int) := by
  have h := bits_and_u32 a 1 ha (by omega)
  rw [Nat.and_one_is_mod] at h
  exact h

/-- The turned polynomial. -/
def poly : Nat := 3988292384

/-- One bit of the sum. -/
def bit1 (x : Nat) : Nat := if x % 2 = 1 then x / 2 ^^^ poly else x / 2

/-- k bits of the sum. -/
def bitN : Nat → Nat → Nat
  | 0, x => x
  | k + 1, x => bit1 (bitN k x)

/-- One byte of the sum. -/
def crcStep (x : Nat) (b : UInt8) : Nat := bitN 8 (x ^^^ b.toNat)

/-- The sum behind the bytes l, not yet turned. -/
def crcAt (l : List UInt8) : Nat := l.foldl crcStep 4294967295

/-- The sum of the bytes l. -/
def crc (l : List UInt8) : Nat := crcAt l ^^^ 4294967295

theorem poly_lt : poly < 4294967296 := by unfold poly; omega

theorem xor_half (y : Nat) (hy : y < 4294967296) : bits .xor .u32 ((y : Int) / 2) 3988292384 = ((y / 2 ^^^ poly : Nat) : Int) := by
  have h := bits_xor_u32 (y / 2) poly (by omega) poly_lt
  rw [← h]
  rfl

theorem xor_all (y : Nat) (hy : y < 4294967296) : bits .xor .u32 (y : Int) 4294967295 = ((y ^^^ 4294967295 : Nat) : Int) :=
  bits_xor_u32 y 4294967295 hy (by omega)

theorem xor_byte (y : Nat) (b : UInt8) (hy : y < 4294967296) : bits .xor .u32 (y : Int) (b.toNat : Int) = ((y ^^^ b.toNat : Nat) : Int) :=
  bits_xor_u32 y b.toNat hy (by have := b.toNat_lt; omega)

theorem xor_byte' (y : Nat) (b : UInt8) (hy : y < 4294967296) : bits .xor .u32 (y : Int) ((b.toNat : Int) % 4294967296) = ((y ^^^ b.toNat : Nat) : Int) := by
  rw [show ((b.toNat : Int) % 4294967296) = (b.toNat : Int) from by have := b.toNat_lt; omega]
  exact xor_byte y b hy

theorem bit1_odd (y : Nat) (h : y % 2 = 1) : bit1 y = y / 2 ^^^ poly := if_pos h

theorem bit1_even (y : Nat) (h : ¬ y % 2 = 1) : bit1 y = y / 2 := if_neg h

theorem xor_lt (a b : Nat) (ha : a < 4294967296) (hb : b < 4294967296) : a ^^^ b < 4294967296 := Nat.xor_lt_two_pow (n := 32) ha hb

theorem bit1_lt (x : Nat) (h : x < 4294967296) : bit1 x < 4294967296 := by
  unfold bit1
  split
  · exact xor_lt _ _ (by omega) poly_lt
  · omega

theorem bitN_lt (k x : Nat) (h : x < 4294967296) : bitN k x < 4294967296 := by
  induction k with
  | zero => exact h
  | succ k ih => exact bit1_lt _ ih

theorem byte_lt (b : UInt8) : b.toNat < 4294967296 := by have := b.toNat_lt; omega

theorem crcStep_lt (x : Nat) (b : UInt8) (h : x < 4294967296) : crcStep x b < 4294967296 := bitN_lt 8 _ (xor_lt _ _ h (byte_lt b))

theorem foldl_lt (l : List UInt8) : ∀ x, x < 4294967296 → l.foldl crcStep x < 4294967296 := by
  induction l with
  | nil => intro x h; exact h
  | cons b l ih => intro x h; exact ih _ (crcStep_lt x b h)

theorem crcAt_lt (l : List UInt8) : crcAt l < 4294967296 := foldl_lt l _ (by omega)

theorem crc_lt (l : List UInt8) : crc l < 4294967296 := xor_lt _ _ (crcAt_lt l) (by omega)

theorem crcAt_snoc (l : List UInt8) (b : UInt8) : crcAt (l ++ [b]) = crcStep (crcAt l) b := by
  unfold crcAt
  rw [List.foldl_append]
  rfl

theorem take_snoc (s : ByteArray) (k : Nat) (h : k < s.size) : s.data.toList.take (k + 1) = s.data.toList.take k ++ [s[k]] := by
  rw [List.take_succ_eq_append_getElem (by simpa using h)]; rfl

theorem take_all (s : ByteArray) : s.data.toList.take s.size = s.data.toList := List.take_of_length_le (Nat.le_refl _)

/-- One byte of the folding. -/
def foldStep (x : Nat) (b : UInt8) : Nat := (257 * x + b.toNat + 1) % 2147483647

/-- The bytes l folded. -/
def foldAt (l : List UInt8) : Nat := l.foldl foldStep 1

theorem foldStep_lt (x : Nat) (b : UInt8) : foldStep x b < 2147483647 := Nat.mod_lt _ (by omega)

theorem foldl_fold_lt (l : List UInt8) : ∀ x, x < 2147483647 → l.foldl foldStep x < 2147483647 := by
  induction l with
  | nil => intro x h; exact h
  | cons b l ih => intro x h; exact ih _ (foldStep_lt x b)

theorem foldAt_lt (l : List UInt8) : foldAt l < 2147483647 := foldl_fold_lt l _ (by omega)

theorem foldAt_snoc (l : List UInt8) (b : UInt8) : foldAt (l ++ [b]) = foldStep (foldAt l) b := by
  unfold foldAt
  rw [List.foldl_append]
  rfl

theorem foldStep_int (x : Nat) (b : UInt8) : ((foldStep x b : Nat) : Int) = (257 * (x : Int) + (b.toNat : Int) + 1) % 2147483647 := by
  unfold foldStep
  omega

theorem foldStep_plus (x : Nat) (b : UInt8) : ((x : Int) * 257 % 2147483647 + ((b.toNat : Int) + 1)) % 2147483647 = ((foldStep x b : Nat) : Int) := by
  unfold foldStep
  omega

theorem xor_cancel (a b c : Nat) (h : a ^^^ c = b ^^^ c) : a = b := by
  have h1 : (a ^^^ c) ^^^ c = (b ^^^ c) ^^^ c := by rw [h]
  rwa [Nat.xor_assoc, Nat.xor_assoc, Nat.xor_self, Nat.xor_zero, Nat.xor_zero] at h1

theorem xor_cancel' (a b c : Nat) (h : c ^^^ a = c ^^^ b) : a = b := by
  rw [Nat.xor_comm c a, Nat.xor_comm c b] at h
  exact xor_cancel a b c h

theorem top_bit (x y : Nat) (hx : x < 4294967296) (hy : y < 4294967296) (h : x / 2 ^^^ poly = y / 2) : False := by
  have h1 : (x / 2 ^^^ poly).testBit 31 = (y / 2).testBit 31 := by rw [h]
  rw [Nat.testBit_xor, Nat.testBit_lt_two_pow (show x / 2 < 2 ^ 31 by omega), Nat.testBit_lt_two_pow (show y / 2 < 2 ^ 31 by omega)] at h1
  have h2 : poly.testBit 31 = true := by decide
  rw [h2] at h1
  exact absurd h1 (by decide)

theorem bit1_inj (x y : Nat) (hx : x < 4294967296) (hy : y < 4294967296) (h : bit1 x = bit1 y) : x = y := by
  unfold bit1 at h
  by_cases h1 : x % 2 = 1 <;> by_cases h2 : y % 2 = 1
  · rw [if_pos h1, if_pos h2] at h
    have := xor_cancel _ _ _ h
    omega
  · rw [if_pos h1, if_neg h2] at h
    exact (top_bit x y hx hy h).elim
  · rw [if_neg h1, if_pos h2] at h
    exact (top_bit y x hy hx h.symm).elim
  · rw [if_neg h1, if_neg h2] at h
    omega

theorem bitN_inj (k x y : Nat) (hx : x < 4294967296) (hy : y < 4294967296) (h : bitN k x = bitN k y) : x = y := by
  induction k with
  | zero => exact h
  | succ k ih => exact ih (bit1_inj _ _ (bitN_lt k x hx) (bitN_lt k y hy) h)

theorem crcStep_inj (x y : Nat) (b : UInt8) (hx : x < 4294967296) (hy : y < 4294967296) (h : crcStep x b = crcStep y b) : x = y :=
  xor_cancel _ _ _ (bitN_inj 8 _ _ (xor_lt _ _ hx (byte_lt b)) (xor_lt _ _ hy (byte_lt b)) h)

theorem crcStep_inj' (x : Nat) (b c : UInt8) (hx : x < 4294967296) (h : crcStep x b = crcStep x c) : b = c :=
  UInt8.toNat_inj.1 (xor_cancel' _ _ _ (bitN_inj 8 _ _ (xor_lt _ _ hx (byte_lt b)) (xor_lt _ _ hx (byte_lt c)) h))

theorem foldl_inj (l : List UInt8) : ∀ x y, x < 4294967296 → y < 4294967296 → l.foldl crcStep x = l.foldl crcStep y → x = y := by
  induction l with
  | nil => intro x y _ _ h; exact h
  | cons b l ih => intro x y hx hy h; exact crcStep_inj x y b hx hy (ih _ _ (crcStep_lt x b hx) (crcStep_lt y b hy) h)

/-- A text with one byte changed has another sum. -/
theorem crc_set (l : List UInt8) (i : Nat) (hi : i < l.length) (v : UInt8) (hv : v ≠ l[i]) : crc (l.set i v) ≠ crc l := by
  intro h
  have h1 : crcAt (l.set i v) = crcAt l := xor_cancel _ _ _ h
  have e1 : l.set i v = l.take i ++ v :: l.drop (i + 1) := by rw [List.set_eq_take_append_cons_drop, if_pos hi]
  have e2 : l = l.take i ++ l[i] :: l.drop (i + 1) := by rw [List.getElem_cons_drop, List.take_append_drop]
  have e3 : crcAt l = (l.drop (i + 1)).foldl crcStep (crcStep (crcAt (l.take i)) l[i]) := by
    conv => lhs; rw [e2]
    unfold crcAt
    rw [List.foldl_append, List.foldl_cons]
  have e4 : crcAt (l.set i v) = (l.drop (i + 1)).foldl crcStep (crcStep (crcAt (l.take i)) v) := by
    rw [e1]
    unfold crcAt
    rw [List.foldl_append, List.foldl_cons]
  rw [e3, e4] at h1
  have hp := crcAt_lt (l.take i)
  exact hv (crcStep_inj' _ _ _ hp (foldl_inj _ _ _ (crcStep_lt _ _ hp) (crcStep_lt _ _ hp) h1))

theorem crc_nil : crc [] = 0 := by
  unfold crc crcAt
  exact Nat.xor_self _

theorem xor_ne (b : UInt8) (d : Nat) (h0 : 0 < d) (h1 : d ≤ 255) : b ^^^ UInt8.ofNat d ≠ b := by
  intro h
  have h2 := congrArg UInt8.toNat h
  rw [UInt8.toNat_xor, UInt8.toNat_ofNat', Nat.mod_eq_of_lt (show d < 2 ^ 8 by omega)] at h2
  have h3 : b.toNat ^^^ d = b.toNat ^^^ 0 := by rw [Nat.xor_zero]; exact h2
  have := xor_cancel' _ _ _ h3
  omega

theorem bits_xor_u8 (a : UInt8) (d : Nat) (hd : d ≤ 255) : bits .xor .u8 (a.toNat : Int) (d : Int) = ((a ^^^ UInt8.ofNat d).toNat : Int) := by
  have ha := a.toNat_lt
  have hx : a.toNat ^^^ d < 2 ^ 8 := Nat.xor_lt_two_pow (by omega) (by omega)
  have h1 : (BitVec.ofInt 8 (a.toNat : Int)).toNat = a.toNat := by
    rw [BitVec.ofInt_natCast, BitVec.toNat_ofNat]; exact Nat.mod_eq_of_lt (by omega)
  have h2 : (BitVec.ofInt 8 (d : Int)).toNat = d := by
    rw [BitVec.ofInt_natCast, BitVec.toNat_ofNat]; exact Nat.mod_eq_of_lt (by omega)
  rw [UInt8.toNat_xor, UInt8.toNat_ofNat', Nat.mod_eq_of_lt (show d < 2 ^ 8 by omega)]
  show IntKind.u8.wrap ((BitVec.ofInt 8 (a.toNat : Int) ^^^ BitVec.ofInt 8 (d : Int)).toNat : Int) = _
  rw [BitVec.toNat_xor, h1, h2, IntKind.wrap_u8]
  omega
end Math
end Go.Proofs.YtmoinacceildcaaGreatDoor

/- Contracts of Fold, of the program and of its model: what it returns is the folding of the bytes of the text, by the measure. -/
namespace Go.Proofs.YtmoinacceildcaaGreatDoor
namespace Num
open Go.ChangeShapes Go.WideShapes Go.ChangeAt Go.RowKit

/-- What Fold answers. -/
def foldV (s : ByteArray) (m : Int) : Int := if 2 ≤ m ∧ m ≤ 2147483647 ∧ s.size ≤ 5000 then (Math.foldAt s.data.toList : Int) % m else -1

end Num
end Go.Proofs.YtmoinacceildcaaGreatDoor

/- Contracts of the model's functions of chapter 2: what each returns; below the heap's old size nothing has turned. -/
namespace Go.Proofs.YtmoinacceildcaaGreatDoor
namespace Num
open Go.ChangeShapes Go.WideShapes Go.ChangeAt Go.RowKit

/-- Parameters as a value. -/
abbrev pv (p q g : Int) : Value := .agg #[.int .i64 p, .int .i64 q, .int .i64 g]

/-- A mark as a value. -/
abbrev mv (r s : Int) : Value := .agg #[.int .i64 r, .int .i64 s]

theorem drawn_below {w w1 : World} (B : Nat) (h : Drawn w w1) : Below B w w1 := by
  obtain ⟨q, rfl⟩ := h
  exact ⟨rfl, rfl, rfl, Nat.le_refl _, fun _ _ => rfl⟩

theorem specPrime_is (n : Int) (b : Bool) (h : primeV n = b) (w : World) :
    Calls Tryz.prog 64 #[.int .i64 n] w fun e w' => e = .returned (.bool b) ∧ w' = w := by
  subst h
  exact specPrime_val n w

theorem specIn_is (x a b : Int) (c : Bool) (h : decide (a ≤ x ∧ x ≤ b) = c) (w : World) :
    Calls Tryz.prog 32 #[.int .i64 x, .int .i64 a, .int .i64 b] w fun e w' => e = .returned (.bool c) ∧ w' = w := by
  subst h
  exact l01In_any x a b w

theorem specParamsOk_val (p q g : Int) (w : World) :
    Calls Tryz.prog 36 #[pv p q g] w fun e w' => e = .returned (.bool (okP p q g)) ∧ Below w.heap.size w w' := by
  cases h1 : primeV p
  · have HV : Hid (okP p q g = false) := by show _ = _; simp [okP, h1]
    have H1 : Hid (primeV p = false) := h1
    clear h1
    go_enter Tryz.func36, Tryz.ntmps36
    go_wp2_with fail
    refine (specPrime_is p false H1.out _).mono ?_
    rintro e w1 ⟨rfl, rfl⟩
    go_wp2
    go_ret
    rw [HV.out]
    exact ⟨rfl, (Below.refl _ _).alloc (Nat.le_refl _) _⟩
  obtain ⟨hp1, hp2⟩ := primeV_meas p h1
  cases h2 : primeV q
  · have HV : Hid (okP p q g = false) := by show _ = _; simp [okP, h2]
    have H1 : Hid (primeV p = true) := h1
    have H2 : Hid (primeV q = false) := h2
    clear h1 h2
    go_enter Tryz.func36, Tryz.ntmps36
    go_wp2_with fail
    refine (specPrime_is p true H1.out _).mono ?_
    rintro e w1 ⟨rfl, rfl⟩
    go_wp2_with fail
    refine (specPrime_is q false H2.out _).mono ?_
    rintro e w1 ⟨rfl, rfl⟩
    go_wp2
    go_ret
    rw [HV.out]
    exact ⟨rfl, (Below.refl _ _).alloc (Nat.le_refl _) _⟩
  obtain ⟨hq1, hq2⟩ := primeV_meas q h2
  have H1 : Hid (primeV p = true) := h1
  have H2 : Hid (primeV q = true) := h2
  clear h1 h2
  by_cases h3 : 100 ≤ q
  · by_cases h4 : (p - 1) % q = 0
    · by_cases h5 : 2 ≤ g ∧ g ≤ p - 1
      · have HV : Hid (okP p q g = (powV g q p == 1)) := by show _ = _; rw [Bool.eq_iff_iff]; simp [okP, H1.out, H2.out, h3, h4, h5]
        have h4' : ((p - 1) % q == 0) = true := by rw [beq_iff_eq]; exact h4
        clear h4
        go_enter Tryz.func36, Tryz.ntmps36
        go_wp2_with fail
        refine (specPrime_is p true H1.out _).mono ?_
        rintro e w1 ⟨rfl, rfl⟩
        go_wp2_with fail
        refine (specPrime_is q true H2.out _).mono ?_
        rintro e w1 ⟨rfl, rfl⟩
        go_wp2_with fail
        refine (specIn_is g 2 (p - 1) true (decide_eq_true h5) _).mono ?_
        rintro e w1 ⟨rfl, rfl⟩
        go_wp2_with fail
        refine (specPowMod_val g q p _).mono ?_
        rintro e w1 ⟨rfl, D⟩
        go_wp2
        go_ret
        rw [HV.out]
        exact ⟨rfl, ((Below.refl _ _).alloc (Nat.le_refl _) _).trans (drawn_below _ D)⟩
      · have HV : Hid (okP p q g = false) := by show _ = _; simp [okP]; omega
        have h4' : ((p - 1) % q == 0) = true := by rw [beq_iff_eq]; exact h4
        clear h4
        go_enter Tryz.func36, Tryz.ntmps36
        go_wp2_with fail
        refine (specPrime_is p true H1.out _).mono ?_
        rintro e w1 ⟨rfl, rfl⟩
        go_wp2_with fail
        refine (specPrime_is q true H2.out _).mono ?_
        rintro e w1 ⟨rfl, rfl⟩
        go_wp2_with fail
        refine (specIn_is g 2 (p - 1) false (decide_eq_false h5) _).mono ?_
        rintro e w1 ⟨rfl, rfl⟩
        go_wp2
        go_ret
        rw [HV.out]
        exact ⟨rfl, (Below.refl _ _).alloc (Nat.le_refl _) _⟩
    · have HV : Hid (okP p q g = false) := by show _ = _; simp [okP, h4]
      have h4' : ((p - 1) % q == 0) = false := by rw [beq_eq_false_iff_ne]; exact h4
      clear h4
      go_enter Tryz.func36, Tryz.ntmps36
      go_wp2_with fail
      refine (specPrime_is p true H1.out _).mono ?_
      rintro e w1 ⟨rfl, rfl⟩
      go_wp2_with fail
      refine (specPrime_is q true H2.out _).mono ?_
      rintro e w1 ⟨rfl, rfl⟩
      go_wp2
      go_ret
      rw [HV.out]
      exact ⟨rfl, (Below.refl _ _).alloc (Nat.le_refl _) _⟩
  · have HV : Hid (okP p q g = false) := by show _ = _; simp [okP, h3]
    go_enter Tryz.func36, Tryz.ntmps36
    go_wp2_with fail
    refine (specPrime_is p true H1.out _).mono ?_
    rintro e w1 ⟨rfl, rfl⟩
    go_wp2_with fail
    refine (specPrime_is q true H2.out _).mono ?_
    rintro e w1 ⟨rfl, rfl⟩
    go_wp2
    go_ret
    rw [HV.out]
    exact ⟨rfl, (Below.refl _ _).alloc (Nat.le_refl _) _⟩

end Num
end Go.Proofs.YtmoinacceildcaaGreatDoor

/- Contracts of the program's functions of chapter 2: parameters; below the heap's old size nothing has turned. -/
namespace Go.Proofs.YtmoinacceildcaaGreatDoor
namespace Num
open Go.ChangeShapes Go.WideShapes Go.ChangeAt Go.RowKit
set_option linter.unusedSimpArgs false
set_option linter.unusedVariables false

/-- Whether a number lies in the group. -/
def liesV (p q x : Int) : Bool := decide (1 ≤ x) && decide (x < p) && (powV x q p == 1)

theorem new_below (w : World) (o : Obj) : Below w.heap.size w (w.alloc o) := (Below.refl _ _).alloc (Nat.le_refl _) _

theorem join_below {w w1 w2 : World} (h : Below w.heap.size w w1) (k : Below w1.heap.size w1 w2) : Below w.heap.size w w2 := h.trans (k.mono h.size)

theorem lies_val (p q g x : Int) (w : World) :
    Calls Tryz.prog 86 #[.agg #[.int .i64 p, .int .i64 q, .int .i64 g], .int .i64 x] w fun e w' => e = .returned (.bool (liesV p q x)) ∧ Below w.heap.size w w' := by
  by_cases h1 : 1 ≤ x
  · by_cases h2 : x < p
    · have HV : Hid (liesV p q x = (powV x q p == 1)) := by show _ = _; simp [liesV, h1, h2]
      go_enter Tryz.func86, Tryz.ntmps86
      go_wp2_with fail
      refine (implPowMod_val x q p _).mono ?_
      rintro e w1 ⟨rfl, rfl⟩
      go_wp2
      go_ret
      rw [HV.out]
      exact ⟨rfl, new_below _ _⟩
    · have HV : Hid (liesV p q x = false) := by show _ = _; simp [liesV, h2]
      have hd : decide (x < p) = false := decide_eq_false h2
      go_enter Tryz.func86, Tryz.ntmps86
      go_wp2
      go_ret
      rw [HV.out]
      exact ⟨by simp, new_below _ _⟩
  · have HV : Hid (liesV p q x = false) := by show _ = _; simp [liesV, h1]
    have hd : decide (1 ≤ x) = false := decide_eq_false h1
    go_enter Tryz.func86, Tryz.ntmps86
    go_wp2
    go_ret
    rw [HV.out]
    exact ⟨by simp, new_below _ _⟩

theorem belowQ_val (p q g x : Int) (w : World) (c : Bool) (hc : decide (1 ≤ x ∧ x < q) = c) :
    Calls Tryz.prog 79 #[.agg #[.int .i64 p, .int .i64 q, .int .i64 g], .int .i64 x] w fun e w' => e = .returned (.bool c) ∧ Below w.heap.size w w' := by
  subst hc
  by_cases h1 : 1 ≤ x
  · go_enter Tryz.func79, Tryz.ntmps79
    go_wp2
    go_ret
    exact ⟨by simp [h1], new_below _ _⟩
  · have hd : decide (1 ≤ x) = false := decide_eq_false h1
    go_enter Tryz.func79, Tryz.ntmps79
    go_wp2
    go_ret
    exact ⟨by simp [h1], new_below _ _⟩

theorem lies_is (p q g x : Int) (b : Bool) (h : liesV p q x = b) (w : World) :
    Calls Tryz.prog 86 #[.agg #[.int .i64 p, .int .i64 q, .int .i64 g], .int .i64 x] w fun e w' => e = .returned (.bool b) ∧ Below w.heap.size w w' := by
  subst h
  exact lies_val p q g x w

theorem implPrime_is (n : Int) (b : Bool) (h : primeV n = b) (w : World) :
    Calls Tryz.prog 87 #[.int .i64 n] w fun e w' => e = .returned (.bool b) ∧ w' = w := by
  subst h
  exact implPrime_val n w

theorem cells3 {w w1 : World} {p q g : Int} {t : TypeId} (L : Below (w.alloc (.cells #[.int .i64 p, .int .i64 q, .int .i64 g] t)).heap.size (w.alloc (.cells #[.int .i64 p, .int .i64 q, .int .i64 g] t)) w1) :
    w1.cell? ⟨w.heap.size, 0, none⟩ = some (.int .i64 p) ∧ w1.cell? ⟨w.heap.size, 1, none⟩ = some (.int .i64 q) ∧ w1.cell? ⟨w.heap.size, 2, none⟩ = some (.int .i64 g) := by
  refine ⟨?_, ?_, ?_⟩
  · rw [L.cell (by simp)]; exact World.cell?_alloc_mark _ _ _ _ 0
  · rw [L.cell (by simp)]; exact World.cell?_alloc_mark _ _ _ _ 1
  · rw [L.cell (by simp)]; exact World.cell?_alloc_mark _ _ _ _ 2

theorem implParamsOk_val (p q g : Int) (w : World) :
    Calls Tryz.prog 49 #[.agg #[.int .i64 p, .int .i64 q, .int .i64 g]] w fun e w' => e = .returned (.bool (okP p q g)) ∧ Below w.heap.size w w' := by
  by_cases hm : Meas p
  · obtain ⟨hm1, hm2⟩ := hm
    by_cases h2 : 100 ≤ q
    · by_cases h3 : (p - 1) % q = 0
      · have h3' : ((p - 1) % q != 0) = false := by rw [bne_eq_false_iff_eq]; exact h3
        by_cases h4 : 2 ≤ g
        · cases h5 : liesV p q g
          · have HV : Hid (okP p q g = false) := by
              show _ = _
              by_cases hx : g ≤ p - 1
              · have e : powV g q p ≠ 1 := by
                  intro hh
                  rw [liesV, hh] at h5
                  simp at h5
                  omega
                simp [okP, e]
              · simp [okP, hx]
            have H5 : Hid (liesV p q g = false) := h5
            clear h5 h3
            go_enter Tryz.func49, Tryz.ntmps49
            go_wp2_with (go_at_call 80; refine (isMeasure_yes _ _ hm1 hm2).mono ?_; rintro e w' ⟨rfl, rfl⟩)
            refine (lies_is p q g g false H5.out _).mono ?_
            rintro e w1 ⟨rfl, L1⟩
            go_wp2
            go_ret
            rw [HV.out]
            exact ⟨rfl, (new_below w _).trans (L1.mono (new_below w _).size)⟩
          · have hg : g ≤ p - 1 ∧ powV g q p = 1 := by
              simp only [liesV, Bool.and_eq_true, decide_eq_true_eq, beq_iff_eq] at h5
              exact ⟨by omega, h5.2⟩
            have H5 : Hid (liesV p q g = true) := h5
            have HP : Hid (powV g q p = 1) := hg.2
            have hg1 := hg.1
            clear h5 hg
            cases h6 : primeV q
            · have HV : Hid (okP p q g = false) := by show _ = _; simp [okP, h6]
              have H6 : Hid (primeV q = false) := h6
              clear h6 h3
              go_enter Tryz.func49, Tryz.ntmps49
              go_wp2_with (go_at_call 80; refine (isMeasure_yes _ _ hm1 hm2).mono ?_; rintro e w' ⟨rfl, rfl⟩)
              refine (lies_is p q g g true H5.out _).mono ?_
              rintro e w1 ⟨rfl, L1⟩
              obtain ⟨c0, c1, c2⟩ := cells3 L1
              go_wp2_with fail
              refine (implPrime_is q false H6.out _).mono ?_
              rintro e w2 ⟨rfl, rfl⟩
              go_wp2
              go_ret
              rw [HV.out]
              exact ⟨rfl, (new_below w _).trans (L1.mono (new_below w _).size)⟩
            · have HV : Hid (okP p q g = primeV p) := by show _ = _; rw [Bool.eq_iff_iff]; simp [okP, h6, h2, h3, h4, hg1, HP.out]
              have H6 : Hid (primeV q = true) := h6
              clear h6 h3
              go_enter Tryz.func49, Tryz.ntmps49
              go_wp2_with (go_at_call 80; refine (isMeasure_yes _ _ hm1 hm2).mono ?_; rintro e w' ⟨rfl, rfl⟩)
              refine (lies_is p q g g true H5.out _).mono ?_
              rintro e w1 ⟨rfl, L1⟩
              obtain ⟨c0, c1, c2⟩ := cells3 L1
              go_wp2_with fail
              refine (implPrime_is q true H6.out _).mono ?_
              rintro e w2 ⟨rfl, rfl⟩
              go_wp2_with fail
              refine (implPrime_val p _).mono ?_
              rintro e w3 ⟨rfl, rfl⟩
              go_wp2
              go_ret
              rw [HV.out]
              exact ⟨rfl, (new_below w _).trans (L1.mono (new_below w _).size)⟩
        · have HV : Hid (okP p q g = false) := by show _ = _; simp [okP, h4]
          have hd : decide (2 ≤ g) = false := decide_eq_false h4
          clear h3
          go_enter Tryz.func49, Tryz.ntmps49
          go_wp2_with (go_at_call 80; refine (isMeasure_yes _ _ hm1 hm2).mono ?_; rintro e w' ⟨rfl, rfl⟩)
          go_ret
          rw [HV.out]
          exact ⟨by simp, new_below _ _⟩
      · have HV : Hid (okP p q g = false) := by show _ = _; simp [okP, h3]
        have h3' : ((p - 1) % q != 0) = true := by rw [bne_iff_ne]; exact h3
        clear h3
        go_enter Tryz.func49, Tryz.ntmps49
        go_wp2_with (go_at_call 80; refine (isMeasure_yes _ _ hm1 hm2).mono ?_; rintro e w' ⟨rfl, rfl⟩)
        go_ret
        rw [HV.out]
        exact ⟨rfl, new_below _ _⟩
    · have HV : Hid (okP p q g = false) := by show _ = _; simp [okP, h2]
      go_enter Tryz.func49, Tryz.ntmps49
      go_wp2_with (go_at_call 80; refine (isMeasure_yes _ _ hm1 hm2).mono ?_; rintro e w' ⟨rfl, rfl⟩)
      go_ret
      rw [HV.out]
      exact ⟨rfl, new_below _ _⟩
  · have HV : Hid (okP p q g = false) := by show _ = _; simp [okP, primeV_no hm]
    have hm' := not_meas hm
    clear hm
    go_enter Tryz.func49, Tryz.ntmps49
    go_wp2_with (go_at_call 80; refine (isMeasure_no _ _ hm').mono ?_; rintro e w' ⟨rfl, rfl⟩)
    go_ret
    rw [HV.out]
    exact ⟨rfl, new_below _ _⟩

end Num
end Go.Proofs.YtmoinacceildcaaGreatDoor

/- Controls that came in: how many there are, and what they hold. -/
namespace Go.Proofs.YtmoinacceildcaaGreatDoor
namespace Hn
open Go.ChangeShapes Go.WideShapes Go.ChangeAt Go.RowKit
set_option linter.unusedSimpArgs false
set_option linter.unusedVariables false

theorem add_plain (b o i : Nat) : Addr.add ⟨b, o, none⟩ i = ⟨b, o + i, none⟩ := by simp [Addr.add]

/-- Numbers that an int controls. -/
abbrev WfI (x : Int) : Prop := (Lit.int .i64 x).wf = true

/-- All numbers of a control are such. -/
structure Wf (p : Ct) : Prop where
  dv : WfI p.dv
  no : WfI p.no
  tk : WfI p.tk
  tr : WfI p.tr
  dy : WfI p.dy
  sa : WfI p.sa

/-- All controls of a list are so. -/
def Wfs (ps : List Ct) : Prop := ∀ p ∈ ps, Wf p

end Hn
end Go.Proofs.YtmoinacceildcaaGreatDoor

/- Contracts of the laws' own helpers over controls that a function has been given or has made: marked, held against the marks. -/
namespace Go.Proofs.YtmoinacceildcaaGreatDoor
namespace Hn
open Go.ChangeShapes Go.WideShapes Go.ChangeAt Go.RowKit
open Pk (new_below join_below cell_at heap_new frozen_at lt_of kept heap_old Drawn info_of Room)
set_option linter.unusedSimpArgs false
set_option linter.unusedVariables false

theorem Controls.band {lo hi : Nat} {w w1 : World} {a : Option Addr} {ps : List Ct} (h : Controls w a ps) (L : Band lo hi w w1) (ha : ∀ b o, a = some ⟨b, o, none⟩ → ps ≠ [] → b < lo ∨ hi ≤ b) : Controls w1 a ps := by
  rcases h with h | ⟨b, o, rfl, hlt, hc⟩
  · exact Or.inl h
  · by_cases hz : ps = []
    · exact Or.inl hz
    · have hb := L.block b (ha b o rfl hz)
      exact Or.inr ⟨b, o, rfl, by rw [L.size]; exact hlt, fun i hi => by rw [World.cell?_of_block (a := ⟨b, o + i * 6, none⟩) hb, World.cell?_of_block (a := ⟨b, o + i * 6 + 1, none⟩) hb, World.cell?_of_block (a := ⟨b, o + i * 6 + 2, none⟩) hb, World.cell?_of_block (a := ⟨b, o + i * 6 + 3, none⟩) hb, World.cell?_of_block (a := ⟨b, o + i * 6 + 4, none⟩) hb, World.cell?_of_block (a := ⟨b, o + i * 6 + 5, none⟩) hb]; exact hc i hi⟩

/-- The marks of n controls in block g. -/
def Marked (z : Int) (w : World) (g n : Nat) : Prop := ∀ i, i < n → w.cell? ⟨g, i * 6, none⟩ = some (.int .i64 (z + 6 * (i : Int))) ∧ w.cell? ⟨g, i * 6 + 1, none⟩ = some (.int .i64 (z + 6 * (i : Int) + 1)) ∧ w.cell? ⟨g, i * 6 + 2, none⟩ = some (.int .i64 (z + 6 * (i : Int) + 2)) ∧ w.cell? ⟨g, i * 6 + 3, none⟩ = some (.int .i64 (z + 6 * (i : Int) + 3)) ∧ w.cell? ⟨g, i * 6 + 4, none⟩ = some (.int .i64 (z + 6 * (i : Int) + 4)) ∧ w.cell? ⟨g, i * 6 + 5, none⟩ = some (.int .i64 (z + 6 * (i : Int) + 5))

theorem Marked.on {w w1 : World} {g n B : Nat} {z : Int} (h : Marked z w g n) (L : Below B w w1) (hg : g < B) : Marked z w1 g n := by
  intro i hi
  rw [L.cell (p := ⟨g, i * 6, none⟩) hg, L.cell (p := ⟨g, i * 6 + 1, none⟩) hg, L.cell (p := ⟨g, i * 6 + 2, none⟩) hg, L.cell (p := ⟨g, i * 6 + 3, none⟩) hg, L.cell (p := ⟨g, i * 6 + 4, none⟩) hg, L.cell (p := ⟨g, i * 6 + 5, none⟩) hg]
  exact h i hi

theorem Marked.step {w : World} {g n k : Nat} {z : Int} (h : Marked z w g k) (R : Room w g (n * 6)) (hk : k < n) : Marked z ((((((w.setCell ⟨g, k * 6, none⟩ (.int .i64 (z + 6 * (k : Int)))).setCell ⟨g, k * 6 + 1, none⟩ (.int .i64 (z + 6 * (k : Int) + 1))).setCell ⟨g, k * 6 + 2, none⟩ (.int .i64 (z + 6 * (k : Int) + 2))).setCell ⟨g, k * 6 + 3, none⟩ (.int .i64 (z + 6 * (k : Int) + 3))).setCell ⟨g, k * 6 + 4, none⟩ (.int .i64 (z + 6 * (k : Int) + 4))).setCell ⟨g, k * 6 + 5, none⟩ (.int .i64 (z + 6 * (k : Int) + 5))) g (k + 1) := by
  intro i hi
  by_cases e : i = k
  · subst e
    obtain ⟨⟨v0, e0⟩, -⟩ := R (i * 6) (by omega)
    obtain ⟨⟨v1, e1⟩, -⟩ := R (i * 6 + 1) (by omega)
    obtain ⟨⟨v2, e2⟩, -⟩ := R (i * 6 + 2) (by omega)
    obtain ⟨⟨v3, e3⟩, -⟩ := R (i * 6 + 3) (by omega)
    obtain ⟨⟨v4, e4⟩, -⟩ := R (i * 6 + 4) (by omega)
    obtain ⟨⟨v5, e5⟩, -⟩ := R (i * 6 + 5) (by omega)
    rw [set_cell (set_cell (set_cell (set_cell (set_cell (set_cell e0))))), set_cell (set_cell (set_cell (set_cell (set_cell (set_cell e1))))), set_cell (set_cell (set_cell (set_cell (set_cell (set_cell e2))))), set_cell (set_cell (set_cell (set_cell (set_cell (set_cell e3))))), set_cell (set_cell (set_cell (set_cell (set_cell (set_cell e4))))), set_cell (set_cell (set_cell (set_cell (set_cell (set_cell e5)))))]
    simp
  · obtain ⟨e0, e1, e2, e3, e4, e5⟩ := h i (by omega)
    rw [set_cell (set_cell (set_cell (set_cell (set_cell (set_cell e0))))), set_cell (set_cell (set_cell (set_cell (set_cell (set_cell e1))))), set_cell (set_cell (set_cell (set_cell (set_cell (set_cell e2))))), set_cell (set_cell (set_cell (set_cell (set_cell (set_cell e3))))), set_cell (set_cell (set_cell (set_cell (set_cell (set_cell e4))))), set_cell (set_cell (set_cell (set_cell (set_cell (set_cell e5)))))]
    rw [if_neg (by omega), if_neg (by omega), if_neg (by omega), if_neg (by omega), if_neg (by omega), if_neg (by omega), if_neg (by omega), if_neg (by omega), if_neg (by omega), if_neg (by omega), if_neg (by omega), if_neg (by omega), if_neg (by omega), if_neg (by omega), if_neg (by omega), if_neg (by omega), if_neg (by omega), if_neg (by omega), if_neg (by omega), if_neg (by omega), if_neg (by omega), if_neg (by omega), if_neg (by omega), if_neg (by omega), if_neg (by omega), if_neg (by omega), if_neg (by omega), if_neg (by omega), if_neg (by omega), if_neg (by omega), if_neg (by omega), if_neg (by omega), if_neg (by omega), if_neg (by omega), if_neg (by omega), if_neg (by omega)]
    exact ⟨rfl, rfl, rfl, rfl, rfl, rfl⟩

set_option maxRecDepth 100000 in
set_option maxHeartbeats 2000000 in
theorem markControlS_val (a : Option Addr) (g n cap : Nat) (z : Int) (w : World) (hn : n ≤ 1048577) (hz0 : 0 ≤ z) (hz1 : z ≤ 1152921504606846976) (h : n = 0 ∨ (a = some ⟨g, 0, none⟩ ∧ Room w g (n * 6))) :
    Calls Tryz.prog 56 #[.slice a n cap, .int .i64 z] w fun e w' => e = .returned (.int .i64 (z + 6 * (n : Int))) ∧ Band g (g + 1) w w' ∧ Marked z w' g n ∧ ∀ m, Room w g m → Room w' g m := by
  have HR : Hid (0 < n → a = some ⟨g, 0, none⟩ ∧ Room w g (n * 6)) := fun h0 => h.resolve_left (by omega)
  clear h
  go_enter Tryz.func56, Tryz.ntmps56
  go_wp2
  go_loopw [1, 5] (fun t i wr => ∃ k : Nat, k ≤ n ∧ i = .int .i64 k ∧ t = .int .i64 (z + 6 * (k : Int)) ∧ Band g (g + 1) w wr ∧ Hid (∀ m, Room w g m → Room wr g m) ∧ Hid (Marked z wr g k) ∧ Hid (0 < n → a = some ⟨g, 0, none⟩ ∧ Room wr g (n * 6))) (fun _ i _ => n - (intOf i).toNat)
  case atStart => exact ⟨0, by omega, rfl, by simp, Band.refl _ _ _, fun m h => h, fun i hi => by omega, HR⟩
  case round =>
    obtain ⟨k, hk, rfl, rfl, L, RM, M, RR⟩ := hrel
    by_cases hkn : k < n
    · obtain ⟨rfl, R⟩ := RR.out (by omega)
      have HM : Hid (_) := M.out.step R hkn
      have HQ : Hid (_) := (((((R.set g (k * 6) (.int .i64 (z + 6 * (k : Int)))).set g (k * 6 + 1) (.int .i64 (z + 6 * (k : Int) + 1))).set g (k * 6 + 2) (.int .i64 (z + 6 * (k : Int) + 2))).set g (k * 6 + 3) (.int .i64 (z + 6 * (k : Int) + 3))).set g (k * 6 + 4) (.int .i64 (z + 6 * (k : Int) + 4))).set g (k * 6 + 5) (.int .i64 (z + 6 * (k : Int) + 5))
      have HX : Hid (∀ m, Room w g m → _) := fun m h => ((((((RM.out m h).set g (k * 6) (.int .i64 (z + 6 * (k : Int)))).set g (k * 6 + 1) (.int .i64 (z + 6 * (k : Int) + 1))).set g (k * 6 + 2) (.int .i64 (z + 6 * (k : Int) + 2))).set g (k * 6 + 3) (.int .i64 (z + 6 * (k : Int) + 3))).set g (k * 6 + 4) (.int .i64 (z + 6 * (k : Int) + 4))).set g (k * 6 + 5) (.int .i64 (z + 6 * (k : Int) + 5))
      have L3 := (((((L.set (i := k * 6) (Nat.le_refl g) (by omega) (.int .i64 (z + 6 * (k : Int)))).set (i := k * 6 + 1) (Nat.le_refl g) (by omega) (.int .i64 (z + 6 * (k : Int) + 1))).set (i := k * 6 + 2) (Nat.le_refl g) (by omega) (.int .i64 (z + 6 * (k : Int) + 2))).set (i := k * 6 + 3) (Nat.le_refl g) (by omega) (.int .i64 (z + 6 * (k : Int) + 3))).set (i := k * 6 + 4) (Nat.le_refl g) (by omega) (.int .i64 (z + 6 * (k : Int) + 4))).set (i := k * 6 + 5) (Nat.le_refl g) (by omega) (.int .i64 (z + 6 * (k : Int) + 5))
      obtain ⟨⟨v0, f0⟩, z0⟩ := R (k * 6) (by omega)
      obtain ⟨⟨v1, f1⟩, z1⟩ := R (k * 6 + 1) (by omega)
      obtain ⟨⟨v2, f2⟩, z2⟩ := R (k * 6 + 2) (by omega)
      obtain ⟨⟨v3, f3⟩, z3⟩ := R (k * 6 + 3) (by omega)
      obtain ⟨⟨v4, f4⟩, z4⟩ := R (k * 6 + 4) (by omega)
      obtain ⟨⟨v5, f5⟩, z5⟩ := R (k * 6 + 5) (by omega)
      have e2 : z + 6 * (k : Int) + 1 + 1 = z + 6 * (k : Int) + 2 := by omega
      have e3 : z + 6 * (k : Int) + 2 + 1 = z + 6 * (k : Int) + 3 := by omega
      have e4 : z + 6 * (k : Int) + 3 + 1 = z + 6 * (k : Int) + 4 := by omega
      have e5 : z + 6 * (k : Int) + 4 + 1 = z + 6 * (k : Int) + 5 := by omega
      have e6 : z + 6 * (k : Int) + 5 + 1 = z + 6 * (k : Int) + 6 := by omega
      clear R M RR HR
      go_wp2
      go_roundw
      case rel => exact ⟨k + 1, by omega, by go_num, by go_num, L3, HX, HM, fun _ => ⟨by simp, HQ.out⟩⟩
      case measure => simp [intOf]; omega
    · obtain rfl : k = n := by omega
      go_wp2
      go_ret
      exact ⟨rfl, L, M.out, RM.out⟩

set_option maxRecDepth 100000 in
set_option maxHeartbeats 2000000 in
theorem heldControlS_val (a : Option Addr) (g n cap : Nat) (z : Int) (w : World) (hn : n ≤ 1048577) (hz0 : 0 ≤ z) (hz1 : z ≤ 1152921504606846976) (h : n = 0 ∨ a = some ⟨g, 0, none⟩) (M : Marked z w g n) :
    Calls Tryz.prog 59 #[.slice a n cap, .int .i64 z] w fun e w' => e = .returned (.int .i64 (z + 6 * (n : Int))) ∧ w' = w := by
  have HA : Hid (0 < n → a = some ⟨g, 0, none⟩) := fun h0 => h.resolve_left (by omega)
  have HM : Hid (_) := M
  clear h M
  go_enter Tryz.func59, Tryz.ntmps59
  go_wp2
  go_loop [1, 5] (fun t i => ∃ k : Nat, k ≤ n ∧ i = .int .i64 k ∧ t = .int .i64 (z + 6 * (k : Int))) (fun _ i => n - (intOf i).toNat)
  case atStart => exact ⟨0, by omega, rfl, by simp⟩
  case round =>
    obtain ⟨k, hk, rfl, rfl⟩ := hrel
    by_cases hkn : k < n
    · obtain rfl := HA.out (by omega)
      obtain ⟨c0, c1, c2, c3, c4, c5⟩ := HM.out k hkn
      have e2 : z + 6 * (k : Int) + 1 + 1 = z + 6 * (k : Int) + 2 := by omega
      have e3 : z + 6 * (k : Int) + 2 + 1 = z + 6 * (k : Int) + 3 := by omega
      have e4 : z + 6 * (k : Int) + 3 + 1 = z + 6 * (k : Int) + 4 := by omega
      have e5 : z + 6 * (k : Int) + 4 + 1 = z + 6 * (k : Int) + 5 := by omega
      have e6 : z + 6 * (k : Int) + 5 + 1 = z + 6 * (k : Int) + 6 := by omega
      go_wp2
      go_round
      case rel => exact ⟨k + 1, by omega, by go_num, by go_num⟩
      case measure => simp [intOf]; omega
    · obtain rfl : k = n := by omega
      go_wp2
      go_ret
      exact ⟨rfl, rfl⟩

end Hn
end Go.Proofs.YtmoinacceildcaaGreatDoor

/- Contracts of the laws' own helpers over devices: their size, a copy, two of them held against each other, marked and held against the marks. -/
namespace Go.Proofs.YtmoinacceildcaaGreatDoor
namespace Hn
open Go.ChangeShapes Go.WideShapes Go.ChangeAt Go.RowKit Go.Joins
open Pk (new_below join_below cell_at heap_new frozen_at lt_of kept heap_old Drawn info_of Room)
set_option linter.unusedSimpArgs false
set_option linter.unusedVariables false

theorem named {P : Program} {f : FuncId} {args : Array Value} {w : World} {post : Ending → World → Prop} (h : ∀ W, W = w → Calls P f args W post) : Calls P f args w post := h w rfl

theorem h_set {w : World} {c i : Nat} {cs : Array Value} {t : TypeId} {f : Nat × Nat} (h : w.heap[c]? = some (.cells cs t f)) (u : Value) : (w.setCell ⟨c, i, none⟩ u).heap[c]? = some (.cells (cs.setIfInBounds i u) t f) := by
  unfold World.setCell
  simp [Array.getElem?_modify, h]

theorem h_other {w : World} {c g i : Nat} {x : Obj} (h : w.heap[c]? = some x) (hne : c ≠ g) (u : Value) : (w.setCell ⟨g, i, none⟩ u).heap[c]? = some x := by
  rw [Below.heap_setCell w ⟨g, i, none⟩ u c hne]
  exact h

theorem two_blocks (w : World) (a b : Obj) : ((w.alloc a).alloc b).heap[w.heap.size]? = some a ∧ ((w.alloc a).alloc b).heap[w.heap.size + 1]? = some b ∧ ((w.alloc a).alloc b).heap.size = w.heap.size + 1 + 1 := by
  have e1 : (w.alloc a).heap.size = w.heap.size + 1 := Array.size_push ..
  refine ⟨heap_old (heap_new w a) b, ?_, ?_⟩
  · rw [← e1]; exact heap_new (w.alloc a) b
  · rw [← e1]; exact Array.size_push ..

theorem three_blocks (w : World) (a b c : Obj) : (((w.alloc a).alloc b).alloc c).heap[w.heap.size]? = some a ∧ (((w.alloc a).alloc b).alloc c).heap[w.heap.size + 1]? = some b ∧ (((w.alloc a).alloc b).alloc c).heap[w.heap.size + 1 + 1]? = some c := by
  have e1 : (w.alloc a).heap.size = w.heap.size + 1 := Array.size_push ..
  have e2 : ((w.alloc a).alloc b).heap.size = w.heap.size + 1 + 1 := by rw [← e1]; exact Array.size_push ..
  refine ⟨heap_old (heap_old (heap_new w a) b) c, ?_, ?_⟩
  · rw [← e1]; exact heap_old (heap_new (w.alloc a) b) c
  · rw [← e2]; exact heap_new ((w.alloc a).alloc b) c

theorem eqParams_same (p q g : Int) (w : World) :
    Calls Tryz.prog 51 #[.agg #[.int .i64 p, .int .i64 q, .int .i64 g], .agg #[.int .i64 p, .int .i64 q, .int .i64 g]] w fun e w' => e = .returned (.bool true) ∧ Below w.heap.size w w' := by
  go_enter Tryz.func51, Tryz.ntmps51
  go_wp2
  go_ret
  exact ⟨rfl, join_below (new_below _ _) (new_below _ _)⟩

set_option maxRecDepth 100000 in
set_option maxHeartbeats 4000000 in
theorem eqHand_same (x y : Pl) (o : Hnd) (w : World) (hz : o.ol.length ≤ 1048576) (hz2 : o.sl.length ≤ 1048576) (I : In w x o) (J : In w y o) :
    Calls Tryz.prog 22 #[hnV x o, hnV y o] w fun e w' => e = .returned (.bool true) ∧ Below w.heap.size w w' := by
  have HZ : Hid (o.ol.length ≤ 1048576 ∧ o.sl.length ≤ 1048576) := ⟨hz, hz2⟩
  have N := join_below (new_below w (hnB x o 36)) (new_below _ (hnB y o 36))
  have m := heap_old (heap_new w (hnB x o 36)) (hnB y o 36)
  have n := heap_new (w.alloc (hnB x o 36)) (hnB y o 36)
  have e1 : (w.alloc (hnB x o 36)).heap.size = w.heap.size + 1 := Array.size_push ..
  rw [e1] at n
  clear hz hz2 e1
  go_enter Tryz.func22, Tryz.ntmps22
  go_wp2_with fail
  refine named fun W hW => ?_
  rw [← hW] at N m n
  clear hW
  refine (eqParams_same o.p o.q o.g _).mono ?_
  rintro e v0 ⟨rfl, L0⟩
  have m0 := kept L0 (lt_of m) m
  have n0 := kept L0 (lt_of n) n
  have N0 := join_below N L0
  clear m n N L0
  have c4 : v0.cell? ⟨w.heap.size, 4, none⟩ = some (.int .i64 o.op) := cell_at m0 4
  have c5 : v0.cell? ⟨w.heap.size, 5, none⟩ = some (.int .i64 o.is) := cell_at m0 5
  have c6 : v0.cell? ⟨w.heap.size, 6, none⟩ = some (.int .i64 o.ve) := cell_at m0 6
  have c7 : v0.cell? ⟨w.heap.size, 7, none⟩ = some (.slice x.a o.ol.length x.c) := cell_at m0 7
  have d4 : v0.cell? ⟨w.heap.size + 1, 4, none⟩ = some (.int .i64 o.op) := cell_at n0 4
  have d5 : v0.cell? ⟨w.heap.size + 1, 5, none⟩ = some (.int .i64 o.is) := cell_at n0 5
  have d6 : v0.cell? ⟨w.heap.size + 1, 6, none⟩ = some (.int .i64 o.ve) := cell_at n0 6
  have d7 : v0.cell? ⟨w.heap.size + 1, 7, none⟩ = some (.slice y.a o.ol.length y.c) := cell_at n0 7
  go_wp2_with fail
  refine (eqIntS_same x.a y.a o.ol x.c y.c _ HZ.out.1 (I.off.on N0) (J.off.on N0)).mono ?_
  rintro e v1 ⟨rfl, D1⟩
  have L1 := D1.below v0.heap.size
  have m1 := kept L1 (lt_of m0) m0
  have n1 := kept L1 (lt_of n0) n0
  have N1 := join_below N0 L1
  clear m0 n0 N0 L1 c4 c5 c6 c7 d4 d5 d6 d7 D1
  have c8 : v1.cell? ⟨w.heap.size, 8, none⟩ = some (.slice x.b o.sl.length x.d) := cell_at m1 8
  have d8 : v1.cell? ⟨w.heap.size + 1, 8, none⟩ = some (.slice y.b o.sl.length y.d) := cell_at n1 8
  go_wp2_with fail
  refine (eqControlS_same x.b y.b o.sl x.d y.d _ HZ.out.2 (I.seen.on N1) (J.seen.on N1)).mono ?_
  rintro e v2 ⟨rfl, L2⟩
  have N2 := join_below N1 L2
  go_wp2
  go_ret
  exact ⟨rfl, N2⟩

/-- Its lists lie in the blocks g1 and g2, from lo on, which are its own. -/
structure Mine (lo : Nat) (w : World) (x : Pl) (o : Hnd) (g1 g2 : Nat) : Prop where
  ne : g1 ≠ g2
  lo1 : lo ≤ g1
  lo2 : lo ≤ g2
  off : o.ol.length = 0 ∨ (x.a = some ⟨g1, 0, none⟩ ∧ g1 < w.heap.size ∧ Room w g1 o.ol.length)
  seen : o.sl.length = 0 ∨ (x.b = some ⟨g2, 0, none⟩ ∧ g2 < w.heap.size ∧ Room w g2 (o.sl.length * 6))

theorem Mine.on {lo : Nat} {w w1 : World} {x : Pl} {o : Hnd} {g1 g2 : Nat} (h : Mine lo w x o g1 g2) (L : Below w.heap.size w w1) : Mine lo w1 x o g1 g2 :=
  ⟨h.ne, h.lo1, h.lo2, h.off.imp_right fun ⟨h1, h2, h3⟩ => ⟨h1, Nat.lt_of_lt_of_le h2 L.size, h3.on L h2⟩, h.seen.imp_right fun ⟨h1, h2, h3⟩ => ⟨h1, Nat.lt_of_lt_of_le h2 L.size, h3.on L h2⟩⟩

/-- Of the blocks that there were all are kept but some from lo up to hi. -/
structure Brd (lo hi : Nat) (w w' : World) : Prop where
  os : w'.os = w.os
  tape : w'.tape = w.tape
  output : w'.output = w.output
  size : w.heap.size ≤ w'.heap.size
  block : ∀ b, b < w.heap.size → b < lo ∨ hi ≤ b → w'.heap[b]? = w.heap[b]?

theorem Brd.of {lo hi : Nat} {w w' : World} (h : Below w.heap.size w w') : Brd lo hi w w' := ⟨h.os, h.tape, h.output, h.size, fun b hb _ => h.block b hb⟩

theorem Brd.band {lo hi lo' hi' : Nat} {w w' : World} (h : Band lo' hi' w w') (h1 : lo ≤ lo') (h2 : hi' ≤ hi) : Brd lo hi w w' := ⟨h.os, h.tape, h.output, Nat.le_of_eq h.size.symm, fun b _ hb => h.block b (by omega)⟩

theorem Brd.trans {lo hi : Nat} {a b c : World} (h : Brd lo hi a b) (k : Brd lo hi b c) : Brd lo hi a c :=
  ⟨k.os.trans h.os, k.tape.trans h.tape, k.output.trans h.output, Nat.le_trans h.size k.size, fun i hi h' => (k.block i (Nat.lt_of_lt_of_le hi h.size) h').trans (h.block i hi h')⟩

theorem Brd.below {lo hi B : Nat} {a w w' : World} (h : Brd lo hi w w') (L : Below B a w) (hB : B ≤ lo) (hs : B ≤ a.heap.size) : Below B a w' :=
  ⟨h.os.trans L.os, h.tape.trans L.tape, h.output.trans L.output, Nat.le_trans L.size h.size, fun k hk => (h.block k (Nat.lt_of_lt_of_le (Nat.lt_of_lt_of_le hk hs) L.size) (Or.inl (by omega))).trans (L.block k hk)⟩

/-- Its lists lie below lo or from hi on. -/
def Far (lo hi : Nat) (x : Pl) (o : Hnd) : Prop := (∀ b u, x.a = some ⟨b, u, none⟩ → o.ol ≠ [] → b < lo ∨ hi ≤ b) ∧ ∀ b u, x.b = some ⟨b, u, none⟩ → o.sl ≠ [] → b < lo ∨ hi ≤ b

theorem Far.of {lo hi : Nat} {w : World} {x : Pl} {o : Hnd} (h : In w x o) (hl : w.heap.size ≤ lo) : Far lo hi x o := by
  refine ⟨fun b u e hne => ?_, fun b u e hne => ?_⟩
  · rcases h.off with h0 | ⟨b', o', e', hb, -⟩
    · exact absurd h0 hne
    · rw [e] at e'
      simp only [Option.some.injEq, Addr.mk.injEq] at e'
      omega
  · rcases h.seen with h0 | ⟨b', o', e', hb, -⟩
    · exact absurd h0 hne
    · rw [e] at e'
      simp only [Option.some.injEq, Addr.mk.injEq] at e'
      omega

theorem Far.mine {lo hi : Nat} {w : World} {x : Pl} {o : Hnd} {g1 g2 : Nat} (h : Mine hi w x o g1 g2) : Far lo hi x o := by
  refine ⟨fun b u e hne => ?_, fun b u e hne => ?_⟩
  · rcases h.off with h0 | ⟨h1, -, -⟩
    · exact absurd (List.eq_nil_of_length_eq_zero h0) hne
    · rw [e] at h1
      simp only [Option.some.injEq, Addr.mk.injEq] at h1
      have := h.lo1
      omega
  · rcases h.seen with h0 | ⟨h1, -, -⟩
    · exact absurd (List.eq_nil_of_length_eq_zero h0) hne
    · rw [e] at h1
      simp only [Option.some.injEq, Addr.mk.injEq] at h1
      have := h.lo2
      omega

theorem Ints.brd {lo hi : Nat} {w w1 : World} {a : Option Addr} {zs : List Int} (h : Ints w a zs) (L : Brd lo hi w w1) (ha : ∀ b o, a = some ⟨b, o, none⟩ → zs ≠ [] → b < lo ∨ hi ≤ b) : Ints w1 a zs := by
  rcases h with h | ⟨b, o, rfl, hlt, hc⟩
  · exact Or.inl h
  · by_cases hz : zs = []
    · exact Or.inl hz
    · exact Or.inr ⟨b, o, rfl, Nat.lt_of_lt_of_le hlt L.size, fun i hi => by rw [World.cell?_of_block (a := ⟨b, o + i, none⟩) (L.block b hlt (ha b o rfl hz))]; exact hc i hi⟩

theorem Controls.brd {lo hi : Nat} {w w1 : World} {a : Option Addr} {ps : List Ct} (h : Controls w a ps) (L : Brd lo hi w w1) (ha : ∀ b o, a = some ⟨b, o, none⟩ → ps ≠ [] → b < lo ∨ hi ≤ b) : Controls w1 a ps := by
  rcases h with h | ⟨b, o, rfl, hlt, hc⟩
  · exact Or.inl h
  · by_cases hz : ps = []
    · exact Or.inl hz
    · have hb := L.block b hlt (ha b o rfl hz)
      exact Or.inr ⟨b, o, rfl, Nat.lt_of_lt_of_le hlt L.size, fun i hi => by rw [World.cell?_of_block (a := ⟨b, o + i * 6, none⟩) hb, World.cell?_of_block (a := ⟨b, o + i * 6 + 1, none⟩) hb, World.cell?_of_block (a := ⟨b, o + i * 6 + 2, none⟩) hb, World.cell?_of_block (a := ⟨b, o + i * 6 + 3, none⟩) hb, World.cell?_of_block (a := ⟨b, o + i * 6 + 4, none⟩) hb, World.cell?_of_block (a := ⟨b, o + i * 6 + 5, none⟩) hb]; exact hc i hi⟩

theorem In.brd {lo hi : Nat} {w w1 : World} {x : Pl} {o : Hnd} (h : In w x o) (L : Brd lo hi w w1) (F : Far lo hi x o) : In w1 x o := ⟨h.off.brd L F.1, h.seen.brd L F.2⟩

theorem Room.brd {lo hi : Nat} {w w1 : World} {g m : Nat} (h : Room w g m) (L : Brd lo hi w w1) (h0 : g < w.heap.size) (hg : g < lo ∨ hi ≤ g) : Room w1 g m := by
  intro j hj
  rw [World.cell?_of_block (a := ⟨g, j, none⟩) (L.block g h0 hg), World.frozen?_of_block (a := ⟨g, j, none⟩) (L.block g h0 hg)]
  exact h j hj

theorem Mine.brd {lo hi lo' : Nat} {w w1 : World} {x : Pl} {o : Hnd} {g1 g2 : Nat} (h : Mine lo' w x o g1 g2) (L : Brd lo hi w w1) (hh : hi ≤ lo') : Mine lo' w1 x o g1 g2 :=
  ⟨h.ne, h.lo1, h.lo2, h.off.imp_right fun ⟨h1, h2, h3⟩ => ⟨h1, Nat.lt_of_lt_of_le h2 L.size, Room.brd h3 L h2 (Or.inr (Nat.le_trans hh h.lo1))⟩, h.seen.imp_right fun ⟨h1, h2, h3⟩ => ⟨h1, Nat.lt_of_lt_of_le h2 L.size, Room.brd h3 L h2 (Or.inr (Nat.le_trans hh h.lo2))⟩⟩

/-- The marks of a device. -/
structure Mks (w : World) (o : Hnd) (g1 g2 : Nat) : Prop where
  off : Mkd 1 w g1 o.ol.length
  seen : Marked (1 + (o.ol.length : Int)) w g2 o.sl.length
  lt1 : o.ol.length = 0 ∨ g1 < w.heap.size
  lt2 : o.sl.length = 0 ∨ g2 < w.heap.size

theorem Mks.on {w w1 : World} {o : Hnd} {g1 g2 : Nat} (h : Mks w o g1 g2) (L : Below w.heap.size w w1) : Mks w1 o g1 g2 := by
  refine ⟨?_, ?_, h.lt1.imp_right fun k => Nat.lt_of_lt_of_le k L.size, h.lt2.imp_right fun k => Nat.lt_of_lt_of_le k L.size⟩
  · rcases h.lt1 with h0 | h0
    · intro i hi; omega
    · exact h.off.on L h0
  · rcases h.lt2 with h0 | h0
    · intro i hi; omega
    · exact h.seen.on L h0

theorem Brd.one {lo hi g : Nat} {w w' : World} (h : Band g (g + 1) w w') (hc : w.heap.size ≤ g ∨ (lo ≤ g ∧ g < hi)) : Brd lo hi w w' := ⟨h.os, h.tape, h.output, Nat.le_of_eq h.size.symm, fun b h0 hb => h.block b (by omega)⟩

theorem Mkd.band {w w1 : World} {g n lo hi : Nat} {z : Int} (h : Mkd z w g n) (L : Band lo hi w w1) (hg : g < lo ∨ hi ≤ g) : Mkd z w1 g n := by
  intro i hi'
  rw [World.cell?_of_block (a := ⟨g, i, none⟩) (L.block g hg)]
  exact h i hi'

set_option maxHeartbeats 2000000 in
theorem markHand_val (x : Pl) (o : Hnd) (g1 g2 lo hi : Nat) (w : World) (hz : o.ol.length ≤ 1048576) (hz2 : o.sl.length ≤ 1048577) (M : Mine lo w x o g1 g2) (h1 : o.ol.length = 0 ∨ g1 < hi) (h2 : o.sl.length = 0 ∨ g2 < hi) :
    Calls Tryz.prog 25 #[hnV x o, .int .i64 1] w fun e w' => e = .returned (.int .i64 (1 + (o.ol.length : Int) + 6 * (o.sl.length : Int))) ∧ Brd lo hi w w' ∧ Mks w' o g1 g2 := by
  have N := new_below w (hnB x o 36)
  have m := heap_new w (hnB x o 36)
  have MN := M.on N
  have hNs := N.size
  obtain ⟨k1, hk1, hk1b⟩ : ∃ k1, (o.ol.length = 0 ∨ (x.a = some ⟨k1, 0, none⟩ ∧ Room (w.alloc (hnB x o 36)) k1 o.ol.length)) ∧ ((o.ol.length = 0 ∧ k1 = (w.alloc (hnB x o 36)).heap.size + 1) ∨ (k1 = g1 ∧ lo ≤ k1 ∧ k1 < hi ∧ k1 < w.heap.size)) := by
    rcases Nat.eq_zero_or_pos o.ol.length with h0 | h0
    · exact ⟨_, Or.inl h0, Or.inl ⟨h0, rfl⟩⟩
    · obtain ⟨h3, h4, h5⟩ := MN.off.resolve_left (by omega)
      exact ⟨g1, Or.inr ⟨h3, h5⟩, Or.inr ⟨rfl, M.lo1, h1.resolve_left (by omega), (M.off.resolve_left (by omega)).2.1⟩⟩
  obtain ⟨k2, hk2, hk2b⟩ : ∃ k2, (o.sl.length = 0 ∨ (x.b = some ⟨k2, 0, none⟩ ∧ Room (w.alloc (hnB x o 36)) k2 (o.sl.length * 6))) ∧ ((o.sl.length = 0 ∧ k2 = (w.alloc (hnB x o 36)).heap.size + 2) ∨ (k2 = g2 ∧ lo ≤ k2 ∧ k2 < hi ∧ k2 < w.heap.size)) := by
    rcases Nat.eq_zero_or_pos o.sl.length with h0 | h0
    · exact ⟨_, Or.inl h0, Or.inl ⟨h0, rfl⟩⟩
    · obtain ⟨h3, h4, h5⟩ := MN.seen.resolve_left (by omega)
      exact ⟨g2, Or.inr ⟨h3, h5⟩, Or.inr ⟨rfl, M.lo2, h2.resolve_left (by omega), (M.seen.resolve_left (by omega)).2.1⟩⟩
  have hne : k1 ≠ k2 := by
    have := M.ne
    omega
  have HK1 : Hid ((o.ol.length = 0 ∧ k1 = (w.alloc (hnB x o 36)).heap.size + 1) ∨ (k1 = g1 ∧ lo ≤ k1 ∧ k1 < hi ∧ k1 < w.heap.size)) := hk1b
  have HK2 : Hid ((o.sl.length = 0 ∧ k2 = (w.alloc (hnB x o 36)).heap.size + 2) ∨ (k2 = g2 ∧ lo ≤ k2 ∧ k2 < hi ∧ k2 < w.heap.size)) := hk2b
  have HK : Hid (k1 ≠ k2 ∧ (w.alloc (hnB x o 36)).heap.size = w.heap.size + 1) := ⟨hne, Array.size_push ..⟩
  have HR2 : Hid (o.sl.length = 0 ∨ (x.b = some ⟨k2, 0, none⟩ ∧ Room (w.alloc (hnB x o 36)) k2 (o.sl.length * 6))) := hk2
  clear h1 h2 M MN hNs hk1b hk2b hne hk2
  go_enter Tryz.func25, Tryz.ntmps25
  go_wp2_with fail
  refine named fun W hW => ?_
  rw [← hW] at N m hk1 HK1 HK2 HK HR2
  clear hW
  refine (markIntS_val x.a k1 o.ol.length x.c 1 _ hz (by omega) (by omega) hk1).mono ?_
  rintro e w1 ⟨rfl, B1, K1, -⟩
  have m1 : w1.cell? ⟨w.heap.size, 8, none⟩ = some (.slice x.b o.sl.length x.d) := by
    rw [World.cell?_of_block (a := ⟨w.heap.size, 8, none⟩) (B1.block w.heap.size (by have := HK1.out; have := HK.out; omega))]
    exact cell_at m 8
  have R2 : o.sl.length = 0 ∨ (x.b = some ⟨k2, 0, none⟩ ∧ Room w1 k2 (o.sl.length * 6)) := HR2.out.imp_right fun h => ⟨h.1, Room.band h.2 B1 (by have := HK.out.1; omega)⟩
  have KM : Hid (Mkd 1 w1 k1 o.ol.length) := K1
  clear HR2 hk1 m K1
  go_wp2_with fail
  refine (markControlS_val x.b k2 o.sl.length x.d _ _ hz2 (by omega) (by omega) R2).mono ?_
  rintro e w2 ⟨rfl, B2, K2, -⟩
  have D : Brd lo hi w w2 := ((Brd.of N).trans (Brd.one B1 (by have := HK1.out; omega))).trans (Brd.one B2 (by have := HK2.out; have := B1.size; omega))
  have KA : Mks w2 o g1 g2 := by
    have hs : w2.heap.size = W.heap.size := B2.size.trans B1.size
    refine ⟨?_, ?_, ?_, ?_⟩
    · rcases HK1.out with ⟨h, -⟩ | ⟨h, -⟩
      · intro i hi; omega
      · rw [← h]
        exact KM.out.band B2 (by have := HK.out.1; omega)
    · rcases HK2.out with ⟨h, -⟩ | ⟨h, -⟩
      · intro i hi; omega
      · rw [← h]
        exact K2
    · rcases HK1.out with ⟨h, -⟩ | ⟨h, -, -, h2⟩
      · exact Or.inl h
      · exact Or.inr (by have := HK.out.2; omega)
    · rcases HK2.out with ⟨h, -⟩ | ⟨h, -, -, h2⟩
      · exact Or.inl h
      · exact Or.inr (by have := HK.out.2; omega)
  clear KM B1 B2 K2 R2
  go_wp2
  go_ret
  exact ⟨rfl, D, KA⟩

set_option maxHeartbeats 2000000 in
theorem heldHand_val (x : Pl) (o : Hnd) (g1 g2 : Nat) (w : World) (hz : o.ol.length ≤ 1048576) (hz2 : o.sl.length ≤ 1048577) (h1 : o.ol.length = 0 ∨ x.a = some ⟨g1, 0, none⟩) (h2 : o.sl.length = 0 ∨ x.b = some ⟨g2, 0, none⟩) (K : Mks w o g1 g2) :
    Calls Tryz.prog 28 #[hnV x o, .int .i64 1] w fun e w' => e = .returned (.int .i64 (1 + (o.ol.length : Int) + 6 * (o.sl.length : Int))) ∧ Below w.heap.size w w' := by
  have N := new_below w (hnB x o 36)
  have KN := K.on N
  have HH : Hid (o.sl.length = 0 ∨ x.b = some ⟨g2, 0, none⟩) := h2
  have hd : decide (1 + (o.ol.length : Int) < 0) = false := decide_eq_false (by omega)
  have hd2 : decide (1 + (o.ol.length : Int) + 6 * (o.sl.length : Int) < 0) = false := decide_eq_false (by omega)
  clear h2 K
  go_enter Tryz.func28, Tryz.ntmps28
  go_wp2_with fail
  refine (heldIntS_val x.a g1 o.ol.length x.c 1 _ hz (by omega) (by omega) h1 KN.off).mono ?_
  rintro e w1 ⟨rfl, rfl⟩
  go_wp2_with fail
  refine (heldControlS_val x.b g2 o.sl.length x.d _ _ hz2 (by omega) (by omega) HH.out KN.seen).mono ?_
  rintro e w1 ⟨rfl, rfl⟩
  go_wp2
  go_ret
  exact ⟨rfl, N⟩

end Hn
end Go.Proofs.YtmoinacceildcaaGreatDoor

/- HandStart of program and model. -/
namespace Go.Proofs.YtmoinacceildcaaGreatDoor
namespace Hn
open Go.ChangeShapes Go.WideShapes Go.ChangeAt Go.RowKit Go.Joins
open Pk (new_below join_below cell_at heap_new frozen_at lt_of kept heap_old Drawn info_of Room)
set_option linter.unusedSimpArgs false
set_option linter.unusedVariables false

/-- A device that begins. -/
abbrev firstO (d p q g k s : Int) : Hnd := ⟨d, p, q, g, k, s, 0, [], []⟩
abbrev noX : Pl := ⟨none, 0, none, 0⟩
abbrev zeroO : Hnd := firstO 0 0 0 0 0 0
/-- Whether it can. -/
def startB (d p q g k s : Int) : Bool := handB (firstO d p q g k s) && Num.okP p q g
/-- What is told of it. -/
def startO (b : Bool) (d p q g k s : Int) : Hnd := if b = true then firstO d p q g k s else zeroO

theorem start_no (d p q g k s : Int) : startO false d p q g k s = zeroO := rfl
theorem start_yes (d p q g k s : Int) : startO true d p q g k s = firstO d p q g k s := rfl

theorem noX_in (w : World) (o : Hnd) (h1 : o.ol = []) (h2 : o.sl = []) : In w noX o := ⟨Or.inl h1, Or.inl h2⟩
theorem start_ol (b : Bool) (d p q g k s : Int) : (startO b d p q g k s).ol = [] ∧ (startO b d p q g k s).sl = [] := by cases b <;> exact ⟨rfl, rfl⟩

set_option maxRecDepth 100000 in
set_option maxHeartbeats 4000000 in
theorem implStart_val (d p q g k s : Int) (w : World) :
    Calls Tryz.prog 20 #[.int .i64 d, .agg #[.int .i64 p, .int .i64 q, .int .i64 g], .int .i64 k, .int .i64 s] w fun e w' => e = .returned (.tuple #[hnV noX (startO (startB d p q g k s) d p q g k s), .bool (startB d p q g k s)]) ∧ Below w.heap.size w w' := by
  obtain ⟨k0, k1, k2⟩ := three_blocks w (.cells #[.int .i64 p, .int .i64 q, .int .i64 g] 32) (.cells #[.int .i64 0, .int .i64 0, .int .i64 0, .int .i64 0, .int .i64 0, .int .i64 0, .int .i64 0, .slice none 0 0, .slice none 0 0] 36) (.cells #[.int .i64 d, .int .i64 p, .int .i64 q, .int .i64 g, .int .i64 k, .int .i64 s, .int .i64 0, .slice none 0 0, .slice none 0 0] 36)
  have L : Below w.heap.size w (((w.alloc (.cells #[.int .i64 p, .int .i64 q, .int .i64 g] 32)).alloc (.cells #[.int .i64 0, .int .i64 0, .int .i64 0, .int .i64 0, .int .i64 0, .int .i64 0, .int .i64 0, .slice none 0 0, .slice none 0 0] 36)).alloc (.cells #[.int .i64 d, .int .i64 p, .int .i64 q, .int .i64 g, .int .i64 k, .int .i64 s, .int .i64 0, .slice none 0 0, .slice none 0 0] 36)) := join_below (join_below (new_below _ _) (new_below _ _)) (new_below _ _)
  have HH : Hid (∀ W : World, _) := fun W => implHand_val noX (firstO d p q g k s) W (by simp) (by simp) (noX_in W _ rfl rfl)
  have HP : Hid (∀ W : World, _) := fun W => Num.implParamsOk_val p q g W
  cases hb : handB (firstO d p q g k s)
  · have HV : Hid (startB d p q g k s = false) := by show _ = _; unfold startB; rw [hb]; rfl
    rw [hb] at HH
    clear hb HP
    go_enter Tryz.func20, Tryz.ntmps20
    go_wp2_with fail
    refine named fun W0 hW => ?_
    rw [← hW] at k0 k1 k2 L
    clear hW
    refine (HH.out _).mono ?_
    rintro e w1 ⟨rfl, L1⟩
    have m0 := kept L1 (lt_of k0) k0
    have m1 := kept L1 (lt_of k1) k1
    have m2 := kept L1 (lt_of k2) k2
    have K1 := join_below L L1
    have p0 : w1.cell? ⟨w.heap.size, 0, none⟩ = some (.int .i64 p) := cell_at m0 0
    have p1 : w1.cell? ⟨w.heap.size, 1, none⟩ = some (.int .i64 q) := cell_at m0 1
    have p2 : w1.cell? ⟨w.heap.size, 2, none⟩ = some (.int .i64 g) := cell_at m0 2
    have r0 : w1.cell? ⟨w.heap.size + 1, 0, none⟩ = some (.int .i64 0) := cell_at m1 0
    have r1 : w1.cell? ⟨w.heap.size + 1, 1, none⟩ = some (.int .i64 0) := cell_at m1 1
    have r2 : w1.cell? ⟨w.heap.size + 1, 2, none⟩ = some (.int .i64 0) := cell_at m1 2
    have r3 : w1.cell? ⟨w.heap.size + 1, 3, none⟩ = some (.int .i64 0) := cell_at m1 3
    have r4 : w1.cell? ⟨w.heap.size + 1, 4, none⟩ = some (.int .i64 0) := cell_at m1 4
    have r5 : w1.cell? ⟨w.heap.size + 1, 5, none⟩ = some (.int .i64 0) := cell_at m1 5
    have r6 : w1.cell? ⟨w.heap.size + 1, 6, none⟩ = some (.int .i64 0) := cell_at m1 6
    have r7 : w1.cell? ⟨w.heap.size + 1, 7, none⟩ = some (.slice none 0 0) := cell_at m1 7
    have r8 : w1.cell? ⟨w.heap.size + 1, 8, none⟩ = some (.slice none 0 0) := cell_at m1 8
    have f0 : w1.frozen? ⟨w.heap.size + 1, 0, none⟩ = false := frozen_at m1 0
    have f1 : w1.frozen? ⟨w.heap.size + 1, 1, none⟩ = false := frozen_at m1 1
    have f2 : w1.frozen? ⟨w.heap.size + 1, 2, none⟩ = false := frozen_at m1 2
    have f3 : w1.frozen? ⟨w.heap.size + 1, 3, none⟩ = false := frozen_at m1 3
    have f4 : w1.frozen? ⟨w.heap.size + 1, 4, none⟩ = false := frozen_at m1 4
    have f5 : w1.frozen? ⟨w.heap.size + 1, 5, none⟩ = false := frozen_at m1 5
    have f6 : w1.frozen? ⟨w.heap.size + 1, 6, none⟩ = false := frozen_at m1 6
    have f7 : w1.frozen? ⟨w.heap.size + 1, 7, none⟩ = false := frozen_at m1 7
    have f8 : w1.frozen? ⟨w.heap.size + 1, 8, none⟩ = false := frozen_at m1 8
    have h0 : w1.cell? ⟨w.heap.size + 1 + 1, 0, none⟩ = some (.int .i64 d) := cell_at m2 0
    have h1 : w1.cell? ⟨w.heap.size + 1 + 1, 1, none⟩ = some (.int .i64 p) := cell_at m2 1
    have h2 : w1.cell? ⟨w.heap.size + 1 + 1, 2, none⟩ = some (.int .i64 q) := cell_at m2 2
    have h3 : w1.cell? ⟨w.heap.size + 1 + 1, 3, none⟩ = some (.int .i64 g) := cell_at m2 3
    have h4 : w1.cell? ⟨w.heap.size + 1 + 1, 4, none⟩ = some (.int .i64 k) := cell_at m2 4
    have h5 : w1.cell? ⟨w.heap.size + 1 + 1, 5, none⟩ = some (.int .i64 s) := cell_at m2 5
    have h6 : w1.cell? ⟨w.heap.size + 1 + 1, 6, none⟩ = some (.int .i64 0) := cell_at m2 6
    have h7 : w1.cell? ⟨w.heap.size + 1 + 1, 7, none⟩ = some (.slice none 0 0) := cell_at m2 7
    have h8 : w1.cell? ⟨w.heap.size + 1 + 1, 8, none⟩ = some (.slice none 0 0) := cell_at m2 8
    clear k0 k1 k2 L L1 m0 m1 m2 HH
    go_wp2
    refine bodyPost_ret (v := .tuple #[hnV noX (zeroO), .bool false]) (by simp [results, Tryz.results20, go_sem, r0, r1, r2, r3, r4, r5, r6, r7, r8]) rfl ?_
    refine ⟨by rw [HV.out] <;> rfl, ?_⟩
    (repeat' (first | apply Below.setCell | exact K1)) <;> first | (simp; done) | (simp; omega)
  · rw [hb] at HH
    cases hp : Num.okP p q g
    · have HV : Hid (startB d p q g k s = false) := by show _ = _; unfold startB; rw [hp, Bool.and_false]
      rw [hp] at HP
      clear hb hp
      go_enter Tryz.func20, Tryz.ntmps20
      go_wp2_with fail
      refine named fun W0 hW => ?_
      rw [← hW] at k0 k1 k2 L
      clear hW
      refine (HH.out _).mono ?_
      rintro e w1 ⟨rfl, L1⟩
      have m0 := kept L1 (lt_of k0) k0
      have m1 := kept L1 (lt_of k1) k1
      have m2 := kept L1 (lt_of k2) k2
      have K1 := join_below L L1
      have p0 : w1.cell? ⟨w.heap.size, 0, none⟩ = some (.int .i64 p) := cell_at m0 0
      have p1 : w1.cell? ⟨w.heap.size, 1, none⟩ = some (.int .i64 q) := cell_at m0 1
      have p2 : w1.cell? ⟨w.heap.size, 2, none⟩ = some (.int .i64 g) := cell_at m0 2
      have r0 : w1.cell? ⟨w.heap.size + 1, 0, none⟩ = some (.int .i64 0) := cell_at m1 0
      have r1 : w1.cell? ⟨w.heap.size + 1, 1, none⟩ = some (.int .i64 0) := cell_at m1 1
      have r2 : w1.cell? ⟨w.heap.size + 1, 2, none⟩ = some (.int .i64 0) := cell_at m1 2
      have r3 : w1.cell? ⟨w.heap.size + 1, 3, none⟩ = some (.int .i64 0) := cell_at m1 3
      have r4 : w1.cell? ⟨w.heap.size + 1, 4, none⟩ = some (.int .i64 0) := cell_at m1 4
      have r5 : w1.cell? ⟨w.heap.size + 1, 5, none⟩ = some (.int .i64 0) := cell_at m1 5
      have r6 : w1.cell? ⟨w.heap.size + 1, 6, none⟩ = some (.int .i64 0) := cell_at m1 6
      have r7 : w1.cell? ⟨w.heap.size + 1, 7, none⟩ = some (.slice none 0 0) := cell_at m1 7
      have r8 : w1.cell? ⟨w.heap.size + 1, 8, none⟩ = some (.slice none 0 0) := cell_at m1 8
      have f0 : w1.frozen? ⟨w.heap.size + 1, 0, none⟩ = false := frozen_at m1 0
      have f1 : w1.frozen? ⟨w.heap.size + 1, 1, none⟩ = false := frozen_at m1 1
      have f2 : w1.frozen? ⟨w.heap.size + 1, 2, none⟩ = false := frozen_at m1 2
      have f3 : w1.frozen? ⟨w.heap.size + 1, 3, none⟩ = false := frozen_at m1 3
      have f4 : w1.frozen? ⟨w.heap.size + 1, 4, none⟩ = false := frozen_at m1 4
      have f5 : w1.frozen? ⟨w.heap.size + 1, 5, none⟩ = false := frozen_at m1 5
      have f6 : w1.frozen? ⟨w.heap.size + 1, 6, none⟩ = false := frozen_at m1 6
      have f7 : w1.frozen? ⟨w.heap.size + 1, 7, none⟩ = false := frozen_at m1 7
      have f8 : w1.frozen? ⟨w.heap.size + 1, 8, none⟩ = false := frozen_at m1 8
      have h0 : w1.cell? ⟨w.heap.size + 1 + 1, 0, none⟩ = some (.int .i64 d) := cell_at m2 0
      have h1 : w1.cell? ⟨w.heap.size + 1 + 1, 1, none⟩ = some (.int .i64 p) := cell_at m2 1
      have h2 : w1.cell? ⟨w.heap.size + 1 + 1, 2, none⟩ = some (.int .i64 q) := cell_at m2 2
      have h3 : w1.cell? ⟨w.heap.size + 1 + 1, 3, none⟩ = some (.int .i64 g) := cell_at m2 3
      have h4 : w1.cell? ⟨w.heap.size + 1 + 1, 4, none⟩ = some (.int .i64 k) := cell_at m2 4
      have h5 : w1.cell? ⟨w.heap.size + 1 + 1, 5, none⟩ = some (.int .i64 s) := cell_at m2 5
      have h6 : w1.cell? ⟨w.heap.size + 1 + 1, 6, none⟩ = some (.int .i64 0) := cell_at m2 6
      have h7 : w1.cell? ⟨w.heap.size + 1 + 1, 7, none⟩ = some (.slice none 0 0) := cell_at m2 7
      have h8 : w1.cell? ⟨w.heap.size + 1 + 1, 8, none⟩ = some (.slice none 0 0) := cell_at m2 8
      clear k0 k1 k2 L L1 HH
      go_wp2_with fail
      refine (HP.out _).mono ?_
      rintro e w2 ⟨rfl, L2⟩
      have n0 := kept L2 (lt_of m0) m0
      have n1 := kept L2 (lt_of m1) m1
      have n2 := kept L2 (lt_of m2) m2
      have K2 := join_below K1 L2
      clear p0 p1 p2 r0 f0 h0 r1 f1 h1 r2 f2 h2 r3 f3 h3 r4 f4 h4 r5 f5 h5 r6 f6 h6 r7 f7 h7 r8 f8 h8
      have p0 : w2.cell? ⟨w.heap.size, 0, none⟩ = some (.int .i64 p) := cell_at n0 0
      have p1 : w2.cell? ⟨w.heap.size, 1, none⟩ = some (.int .i64 q) := cell_at n0 1
      have p2 : w2.cell? ⟨w.heap.size, 2, none⟩ = some (.int .i64 g) := cell_at n0 2
      have r0 : w2.cell? ⟨w.heap.size + 1, 0, none⟩ = some (.int .i64 0) := cell_at n1 0
      have r1 : w2.cell? ⟨w.heap.size + 1, 1, none⟩ = some (.int .i64 0) := cell_at n1 1
      have r2 : w2.cell? ⟨w.heap.size + 1, 2, none⟩ = some (.int .i64 0) := cell_at n1 2
      have r3 : w2.cell? ⟨w.heap.size + 1, 3, none⟩ = some (.int .i64 0) := cell_at n1 3
      have r4 : w2.cell? ⟨w.heap.size + 1, 4, none⟩ = some (.int .i64 0) := cell_at n1 4
      have r5 : w2.cell? ⟨w.heap.size + 1, 5, none⟩ = some (.int .i64 0) := cell_at n1 5
      have r6 : w2.cell? ⟨w.heap.size + 1, 6, none⟩ = some (.int .i64 0) := cell_at n1 6
      have r7 : w2.cell? ⟨w.heap.size + 1, 7, none⟩ = some (.slice none 0 0) := cell_at n1 7
      have r8 : w2.cell? ⟨w.heap.size + 1, 8, none⟩ = some (.slice none 0 0) := cell_at n1 8
      have f0 : w2.frozen? ⟨w.heap.size + 1, 0, none⟩ = false := frozen_at n1 0
      have f1 : w2.frozen? ⟨w.heap.size + 1, 1, none⟩ = false := frozen_at n1 1
      have f2 : w2.frozen? ⟨w.heap.size + 1, 2, none⟩ = false := frozen_at n1 2
      have f3 : w2.frozen? ⟨w.heap.size + 1, 3, none⟩ = false := frozen_at n1 3
      have f4 : w2.frozen? ⟨w.heap.size + 1, 4, none⟩ = false := frozen_at n1 4
      have f5 : w2.frozen? ⟨w.heap.size + 1, 5, none⟩ = false := frozen_at n1 5
      have f6 : w2.frozen? ⟨w.heap.size + 1, 6, none⟩ = false := frozen_at n1 6
      have f7 : w2.frozen? ⟨w.heap.size + 1, 7, none⟩ = false := frozen_at n1 7
      have f8 : w2.frozen? ⟨w.heap.size + 1, 8, none⟩ = false := frozen_at n1 8
      have h0 : w2.cell? ⟨w.heap.size + 1 + 1, 0, none⟩ = some (.int .i64 d) := cell_at n2 0
      have h1 : w2.cell? ⟨w.heap.size + 1 + 1, 1, none⟩ = some (.int .i64 p) := cell_at n2 1
      have h2 : w2.cell? ⟨w.heap.size + 1 + 1, 2, none⟩ = some (.int .i64 q) := cell_at n2 2
      have h3 : w2.cell? ⟨w.heap.size + 1 + 1, 3, none⟩ = some (.int .i64 g) := cell_at n2 3
      have h4 : w2.cell? ⟨w.heap.size + 1 + 1, 4, none⟩ = some (.int .i64 k) := cell_at n2 4
      have h5 : w2.cell? ⟨w.heap.size + 1 + 1, 5, none⟩ = some (.int .i64 s) := cell_at n2 5
      have h6 : w2.cell? ⟨w.heap.size + 1 + 1, 6, none⟩ = some (.int .i64 0) := cell_at n2 6
      have h7 : w2.cell? ⟨w.heap.size + 1 + 1, 7, none⟩ = some (.slice none 0 0) := cell_at n2 7
      have h8 : w2.cell? ⟨w.heap.size + 1 + 1, 8, none⟩ = some (.slice none 0 0) := cell_at n2 8
      clear m0 m1 m2 n0 n1 n2 L2 K1 HP
      go_wp2
      refine bodyPost_ret (v := .tuple #[hnV noX (zeroO), .bool false]) (by simp [results, Tryz.results20, go_sem, r0, r1, r2, r3, r4, r5, r6, r7, r8]) rfl ?_
      refine ⟨by rw [HV.out] <;> rfl, ?_⟩
      (repeat' (first | apply Below.setCell | exact K2)) <;> first | (simp; done) | (simp; omega)
    · have HV : Hid (startB d p q g k s = true) := by show _ = _; unfold startB; rw [hb, hp]; rfl
      rw [hp] at HP
      clear hb hp
      go_enter Tryz.func20, Tryz.ntmps20
      go_wp2_with fail
      refine named fun W0 hW => ?_
      rw [← hW] at k0 k1 k2 L
      clear hW
      refine (HH.out _).mono ?_
      rintro e w1 ⟨rfl, L1⟩
      have m0 := kept L1 (lt_of k0) k0
      have m1 := kept L1 (lt_of k1) k1
      have m2 := kept L1 (lt_of k2) k2
      have K1 := join_below L L1
      have p0 : w1.cell? ⟨w.heap.size, 0, none⟩ = some (.int .i64 p) := cell_at m0 0
      have p1 : w1.cell? ⟨w.heap.size, 1, none⟩ = some (.int .i64 q) := cell_at m0 1
      have p2 : w1.cell? ⟨w.heap.size, 2, none⟩ = some (.int .i64 g) := cell_at m0 2
      have r0 : w1.cell? ⟨w.heap.size + 1, 0, none⟩ = some (.int .i64 0) := cell_at m1 0
      have r1 : w1.cell? ⟨w.heap.size + 1, 1, none⟩ = some (.int .i64 0) := cell_at m1 1
      have r2 : w1.cell? ⟨w.heap.size + 1, 2, none⟩ = some (.int .i64 0) := cell_at m1 2
      have r3 : w1.cell? ⟨w.heap.size + 1, 3, none⟩ = some (.int .i64 0) := cell_at m1 3
      have r4 : w1.cell? ⟨w.heap.size + 1, 4, none⟩ = some (.int .i64 0) := cell_at m1 4
      have r5 : w1.cell? ⟨w.heap.size + 1, 5, none⟩ = some (.int .i64 0) := cell_at m1 5
      have r6 : w1.cell? ⟨w.heap.size + 1, 6, none⟩ = some (.int .i64 0) := cell_at m1 6
      have r7 : w1.cell? ⟨w.heap.size + 1, 7, none⟩ = some (.slice none 0 0) := cell_at m1 7
      have r8 : w1.cell? ⟨w.heap.size + 1, 8, none⟩ = some (.slice none 0 0) := cell_at m1 8
      have f0 : w1.frozen? ⟨w.heap.size + 1, 0, none⟩ = false := frozen_at m1 0
      have f1 : w1.frozen? ⟨w.heap.size + 1, 1, none⟩ = false := frozen_at m1 1
      have f2 : w1.frozen? ⟨w.heap.size + 1, 2, none⟩ = false := frozen_at m1 2
      have f3 : w1.frozen? ⟨w.heap.size + 1, 3, none⟩ = false := frozen_at m1 3
      have f4 : w1.frozen? ⟨w.heap.size + 1, 4, none⟩ = false := frozen_at m1 4
      have f5 : w1.frozen? ⟨w.heap.size + 1, 5, none⟩ = false := frozen_at m1 5
      have f6 : w1.frozen? ⟨w.heap.size + 1, 6, none⟩ = false := frozen_at m1 6
      have f7 : w1.frozen? ⟨w.heap.size + 1, 7, none⟩ = false := frozen_at m1 7
      have f8 : w1.frozen? ⟨w.heap.size + 1, 8, none⟩ = false := frozen_at m1 8
      have h0 : w1.cell? ⟨w.heap.size + 1 + 1, 0, none⟩ = some (.int .i64 d) := cell_at m2 0
      have h1 : w1.cell? ⟨w.heap.size + 1 + 1, 1, none⟩ = some (.int .i64 p) := cell_at m2 1
      have h2 : w1.cell? ⟨w.heap.size + 1 + 1, 2, none⟩ = some (.int .i64 q) := cell_at m2 2
      have h3 : w1.cell? ⟨w.heap.size + 1 + 1, 3, none⟩ = some (.int .i64 g) := cell_at m2 3
      have h4 : w1.cell? ⟨w.heap.size + 1 + 1, 4, none⟩ = some (.int .i64 k) := cell_at m2 4
      have h5 : w1.cell? ⟨w.heap.size + 1 + 1, 5, none⟩ = some (.int .i64 s) := cell_at m2 5
      have h6 : w1.cell? ⟨w.heap.size + 1 + 1, 6, none⟩ = some (.int .i64 0) := cell_at m2 6
      have h7 : w1.cell? ⟨w.heap.size + 1 + 1, 7, none⟩ = some (.slice none 0 0) := cell_at m2 7
      have h8 : w1.cell? ⟨w.heap.size + 1 + 1, 8, none⟩ = some (.slice none 0 0) := cell_at m2 8
      clear k0 k1 k2 L L1 HH
      go_wp2_with fail
      refine (HP.out _).mono ?_
      rintro e w2 ⟨rfl, L2⟩
      have n0 := kept L2 (lt_of m0) m0
      have n1 := kept L2 (lt_of m1) m1
      have n2 := kept L2 (lt_of m2) m2
      have K2 := join_below K1 L2
      clear p0 p1 p2 r0 f0 h0 r1 f1 h1 r2 f2 h2 r3 f3 h3 r4 f4 h4 r5 f5 h5 r6 f6 h6 r7 f7 h7 r8 f8 h8
      have p0 : w2.cell? ⟨w.heap.size, 0, none⟩ = some (.int .i64 p) := cell_at n0 0
      have p1 : w2.cell? ⟨w.heap.size, 1, none⟩ = some (.int .i64 q) := cell_at n0 1
      have p2 : w2.cell? ⟨w.heap.size, 2, none⟩ = some (.int .i64 g) := cell_at n0 2
      have r0 : w2.cell? ⟨w.heap.size + 1, 0, none⟩ = some (.int .i64 0) := cell_at n1 0
      have r1 : w2.cell? ⟨w.heap.size + 1, 1, none⟩ = some (.int .i64 0) := cell_at n1 1
      have r2 : w2.cell? ⟨w.heap.size + 1, 2, none⟩ = some (.int .i64 0) := cell_at n1 2
      have r3 : w2.cell? ⟨w.heap.size + 1, 3, none⟩ = some (.int .i64 0) := cell_at n1 3
      have r4 : w2.cell? ⟨w.heap.size + 1, 4, none⟩ = some (.int .i64 0) := cell_at n1 4
      have r5 : w2.cell? ⟨w.heap.size + 1, 5, none⟩ = some (.int .i64 0) := cell_at n1 5
      have r6 : w2.cell? ⟨w.heap.size + 1, 6, none⟩ = some (.int .i64 0) := cell_at n1 6
      have r7 : w2.cell? ⟨w.heap.size + 1, 7, none⟩ = some (.slice none 0 0) := cell_at n1 7
      have r8 : w2.cell? ⟨w.heap.size + 1, 8, none⟩ = some (.slice none 0 0) := cell_at n1 8
      have f0 : w2.frozen? ⟨w.heap.size + 1, 0, none⟩ = false := frozen_at n1 0
      have f1 : w2.frozen? ⟨w.heap.size + 1, 1, none⟩ = false := frozen_at n1 1
      have f2 : w2.frozen? ⟨w.heap.size + 1, 2, none⟩ = false := frozen_at n1 2
      have f3 : w2.frozen? ⟨w.heap.size + 1, 3, none⟩ = false := frozen_at n1 3
      have f4 : w2.frozen? ⟨w.heap.size + 1, 4, none⟩ = false := frozen_at n1 4
      have f5 : w2.frozen? ⟨w.heap.size + 1, 5, none⟩ = false := frozen_at n1 5
      have f6 : w2.frozen? ⟨w.heap.size + 1, 6, none⟩ = false := frozen_at n1 6
      have f7 : w2.frozen? ⟨w.heap.size + 1, 7, none⟩ = false := frozen_at n1 7
      have f8 : w2.frozen? ⟨w.heap.size + 1, 8, none⟩ = false := frozen_at n1 8
      have h0 : w2.cell? ⟨w.heap.size + 1 + 1, 0, none⟩ = some (.int .i64 d) := cell_at n2 0
      have h1 : w2.cell? ⟨w.heap.size + 1 + 1, 1, none⟩ = some (.int .i64 p) := cell_at n2 1
      have h2 : w2.cell? ⟨w.heap.size + 1 + 1, 2, none⟩ = some (.int .i64 q) := cell_at n2 2
      have h3 : w2.cell? ⟨w.heap.size + 1 + 1, 3, none⟩ = some (.int .i64 g) := cell_at n2 3
      have h4 : w2.cell? ⟨w.heap.size + 1 + 1, 4, none⟩ = some (.int .i64 k) := cell_at n2 4
      have h5 : w2.cell? ⟨w.heap.size + 1 + 1, 5, none⟩ = some (.int .i64 s) := cell_at n2 5
      have h6 : w2.cell? ⟨w.heap.size + 1 + 1, 6, none⟩ = some (.int .i64 0) := cell_at n2 6
      have h7 : w2.cell? ⟨w.heap.size + 1 + 1, 7, none⟩ = some (.slice none 0 0) := cell_at n2 7
      have h8 : w2.cell? ⟨w.heap.size + 1 + 1, 8, none⟩ = some (.slice none 0 0) := cell_at n2 8
      clear m0 m1 m2 n0 n1 n2 L2 K1 HP
      go_wp2
      refine bodyPost_ret (v := .tuple #[hnV noX (firstO d p q g k s), .bool true]) (by simp [results, Tryz.results20, go_sem, r0, r1, r2, r3, r4, r5, r6, r7, r8]) rfl ?_
      refine ⟨by rw [HV.out] <;> rfl, ?_⟩
      (repeat' (first | apply Below.setCell | exact K2)) <;> first | (simp; done) | (simp; omega)

set_option maxRecDepth 100000 in
set_option maxHeartbeats 4000000 in
theorem specStart_val (d p q g k s : Int) (w : World) :
    Calls Tryz.prog 13 #[.int .i64 d, .agg #[.int .i64 p, .int .i64 q, .int .i64 g], .int .i64 k, .int .i64 s] w fun e w' => e = .returned (.tuple #[hnV noX (startO (startB d p q g k s) d p q g k s), .bool (startB d p q g k s)]) ∧ Below w.heap.size w w' := by
  obtain ⟨k0, k1, k2⟩ := three_blocks w (.cells #[.int .i64 p, .int .i64 q, .int .i64 g] 32) (.cells #[.int .i64 0, .int .i64 0, .int .i64 0, .int .i64 0, .int .i64 0, .int .i64 0, .int .i64 0, .slice none 0 0, .slice none 0 0] 36) (.cells #[.int .i64 d, .int .i64 p, .int .i64 q, .int .i64 g, .int .i64 k, .int .i64 s, .int .i64 0, .slice none 0 0, .slice none 0 0] 36)
  have L : Below w.heap.size w (((w.alloc (.cells #[.int .i64 p, .int .i64 q, .int .i64 g] 32)).alloc (.cells #[.int .i64 0, .int .i64 0, .int .i64 0, .int .i64 0, .int .i64 0, .int .i64 0, .int .i64 0, .slice none 0 0, .slice none 0 0] 36)).alloc (.cells #[.int .i64 d, .int .i64 p, .int .i64 q, .int .i64 g, .int .i64 k, .int .i64 s, .int .i64 0, .slice none 0 0, .slice none 0 0] 36)) := join_below (join_below (new_below _ _) (new_below _ _)) (new_below _ _)
  have HH : Hid (∀ W : World, _) := fun W => specHand_val noX (firstO d p q g k s) W (by simp) (by simp) (noX_in W _ rfl rfl)
  have HP : Hid (∀ W : World, _) := fun W => Num.specParamsOk_val p q g W
  cases hb : handB (firstO d p q g k s)
  · have HV : Hid (startB d p q g k s = false) := by show _ = _; unfold startB; rw [hb]; rfl
    rw [hb] at HH
    clear hb HP
    go_enter Tryz.func13, Tryz.ntmps13
    go_wp2_with fail
    refine named fun W0 hW => ?_
    rw [← hW] at k0 k1 k2 L
    clear hW
    refine (HH.out _).mono ?_
    rintro e w1 ⟨rfl, L1⟩
    have m0 := kept L1 (lt_of k0) k0
    have m1 := kept L1 (lt_of k1) k1
    have m2 := kept L1 (lt_of k2) k2
    have K1 := join_below L L1
    have p0 : w1.cell? ⟨w.heap.size, 0, none⟩ = some (.int .i64 p) := cell_at m0 0
    have p1 : w1.cell? ⟨w.heap.size, 1, none⟩ = some (.int .i64 q) := cell_at m0 1
    have p2 : w1.cell? ⟨w.heap.size, 2, none⟩ = some (.int .i64 g) := cell_at m0 2
    have r0 : w1.cell? ⟨w.heap.size + 1, 0, none⟩ = some (.int .i64 0) := cell_at m1 0
    have r1 : w1.cell? ⟨w.heap.size + 1, 1, none⟩ = some (.int .i64 0) := cell_at m1 1
    have r2 : w1.cell? ⟨w.heap.size + 1, 2, none⟩ = some (.int .i64 0) := cell_at m1 2
    have r3 : w1.cell? ⟨w.heap.size + 1, 3, none⟩ = some (.int .i64 0) := cell_at m1 3
    have r4 : w1.cell? ⟨w.heap.size + 1, 4, none⟩ = some (.int .i64 0) := cell_at m1 4
    have r5 : w1.cell? ⟨w.heap.size + 1, 5, none⟩ = some (.int .i64 0) := cell_at m1 5
    have r6 : w1.cell? ⟨w.heap.size + 1, 6, none⟩ = some (.int .i64 0) := cell_at m1 6
    have r7 : w1.cell? ⟨w.heap.size + 1, 7, none⟩ = some (.slice none 0 0) := cell_at m1 7
    have r8 : w1.cell? ⟨w.heap.size + 1, 8, none⟩ = some (.slice none 0 0) := cell_at m1 8
    have f0 : w1.frozen? ⟨w.heap.size + 1, 0, none⟩ = false := frozen_at m1 0
    have f1 : w1.frozen? ⟨w.heap.size + 1, 1, none⟩ = false := frozen_at m1 1
    have f2 : w1.frozen? ⟨w.heap.size + 1, 2, none⟩ = false := frozen_at m1 2
    have f3 : w1.frozen? ⟨w.heap.size + 1, 3, none⟩ = false := frozen_at m1 3
    have f4 : w1.frozen? ⟨w.heap.size + 1, 4, none⟩ = false := frozen_at m1 4
    have f5 : w1.frozen? ⟨w.heap.size + 1, 5, none⟩ = false := frozen_at m1 5
    have f6 : w1.frozen? ⟨w.heap.size + 1, 6, none⟩ = false := frozen_at m1 6
    have f7 : w1.frozen? ⟨w.heap.size + 1, 7, none⟩ = false := frozen_at m1 7
    have f8 : w1.frozen? ⟨w.heap.size + 1, 8, none⟩ = false := frozen_at m1 8
    have h0 : w1.cell? ⟨w.heap.size + 1 + 1, 0, none⟩ = some (.int .i64 d) := cell_at m2 0
    have h1 : w1.cell? ⟨w.heap.size + 1 + 1, 1, none⟩ = some (.int .i64 p) := cell_at m2 1
    have h2 : w1.cell? ⟨w.heap.size + 1 + 1, 2, none⟩ = some (.int .i64 q) := cell_at m2 2
    have h3 : w1.cell? ⟨w.heap.size + 1 + 1, 3, none⟩ = some (.int .i64 g) := cell_at m2 3
    have h4 : w1.cell? ⟨w.heap.size + 1 + 1, 4, none⟩ = some (.int .i64 k) := cell_at m2 4
    have h5 : w1.cell? ⟨w.heap.size + 1 + 1, 5, none⟩ = some (.int .i64 s) := cell_at m2 5
    have h6 : w1.cell? ⟨w.heap.size + 1 + 1, 6, none⟩ = some (.int .i64 0) := cell_at m2 6
    have h7 : w1.cell? ⟨w.heap.size + 1 + 1, 7, none⟩ = some (.slice none 0 0) := cell_at m2 7
    have h8 : w1.cell? ⟨w.heap.size + 1 + 1, 8, none⟩ = some (.slice none 0 0) := cell_at m2 8
    clear k0 k1 k2 L L1 m0 m1 m2 HH
    go_wp2
    refine bodyPost_ret (v := .tuple #[hnV noX (zeroO), .bool false]) (by simp [results, Tryz.results13, go_sem, r0, r1, r2, r3, r4, r5, r6, r7, r8]) rfl ?_
    refine ⟨by rw [HV.out] <;> rfl, ?_⟩
    (repeat' (first | apply Below.setCell | exact K1)) <;> first | (simp; done) | (simp; omega)
  · rw [hb] at HH
    cases hp : Num.okP p q g
    · have HV : Hid (startB d p q g k s = false) := by show _ = _; unfold startB; rw [hp, Bool.and_false]
      rw [hp] at HP
      clear hb hp
      go_enter Tryz.func13, Tryz.ntmps13
      go_wp2_with fail
      refine named fun W0 hW => ?_
      rw [← hW] at k0 k1 k2 L
      clear hW
      refine (HH.out _).mono ?_
      rintro e w1 ⟨rfl, L1⟩
      have m0 := kept L1 (lt_of k0) k0
      have m1 := kept L1 (lt_of k1) k1
      have m2 := kept L1 (lt_of k2) k2
      have K1 := join_below L L1
      have p0 : w1.cell? ⟨w.heap.size, 0, none⟩ = some (.int .i64 p) := cell_at m0 0
      have p1 : w1.cell? ⟨w.heap.size, 1, none⟩ = some (.int .i64 q) := cell_at m0 1
      have p2 : w1.cell? ⟨w.heap.size, 2, none⟩ = some (.int .i64 g) := cell_at m0 2
      have r0 : w1.cell? ⟨w.heap.size + 1, 0, none⟩ = some (.int .i64 0) := cell_at m1 0
      have r1 : w1.cell? ⟨w.heap.size + 1, 1, none⟩ = some (.int .i64 0) := cell_at m1 1
      have r2 : w1.cell? ⟨w.heap.size + 1, 2, none⟩ = some (.int .i64 0) := cell_at m1 2
      have r3 : w1.cell? ⟨w.heap.size + 1, 3, none⟩ = some (.int .i64 0) := cell_at m1 3
      have r4 : w1.cell? ⟨w.heap.size + 1, 4, none⟩ = some (.int .i64 0) := cell_at m1 4
      have r5 : w1.cell? ⟨w.heap.size + 1, 5, none⟩ = some (.int .i64 0) := cell_at m1 5
      have r6 : w1.cell? ⟨w.heap.size + 1, 6, none⟩ = some (.int .i64 0) := cell_at m1 6
      have r7 : w1.cell? ⟨w.heap.size + 1, 7, none⟩ = some (.slice none 0 0) := cell_at m1 7
      have r8 : w1.cell? ⟨w.heap.size + 1, 8, none⟩ = some (.slice none 0 0) := cell_at m1 8
      have f0 : w1.frozen? ⟨w.heap.size + 1, 0, none⟩ = false := frozen_at m1 0
      have f1 : w1.frozen? ⟨w.heap.size + 1, 1, none⟩ = false := frozen_at m1 1
      have f2 : w1.frozen? ⟨w.heap.size + 1, 2, none⟩ = false := frozen_at m1 2
      have f3 : w1.frozen? ⟨w.heap.size + 1, 3, none⟩ = false := frozen_at m1 3
      have f4 : w1.frozen? ⟨w.heap.size + 1, 4, none⟩ = false := frozen_at m1 4
      have f5 : w1.frozen? ⟨w.heap.size + 1, 5, none⟩ = false := frozen_at m1 5
      have f6 : w1.frozen? ⟨w.heap.size + 1, 6, none⟩ = false := frozen_at m1 6
      have f7 : w1.frozen? ⟨w.heap.size + 1, 7, none⟩ = false := frozen_at m1 7
      have f8 : w1.frozen? ⟨w.heap.size + 1, 8, none⟩ = false := frozen_at m1 8
      have h0 : w1.cell? ⟨w.heap.size + 1 + 1, 0, none⟩ = some (.int .i64 d) := cell_at m2 0
      have h1 : w1.cell? ⟨w.heap.size + 1 + 1, 1, none⟩ = some (.int .i64 p) := cell_at m2 1
      have h2 : w1.cell? ⟨w.heap.size + 1 + 1, 2, none⟩ = some (.int .i64 q) := cell_at m2 2
      have h3 : w1.cell? ⟨w.heap.size + 1 + 1, 3, none⟩ = some (.int .i64 g) := cell_at m2 3
      have h4 : w1.cell? ⟨w.heap.size + 1 + 1, 4, none⟩ = some (.int .i64 k) := cell_at m2 4
      have h5 : w1.cell? ⟨w.heap.size + 1 + 1, 5, none⟩ = some (.int .i64 s) := cell_at m2 5
      have h6 : w1.cell? ⟨w.heap.size + 1 + 1, 6, none⟩ = some (.int .i64 0) := cell_at m2 6
      have h7 : w1.cell? ⟨w.heap.size + 1 + 1, 7, none⟩ = some (.slice none 0 0) := cell_at m2 7
      have h8 : w1.cell? ⟨w.heap.size + 1 + 1, 8, none⟩ = some (.slice none 0 0) := cell_at m2 8
      clear k0 k1 k2 L L1 HH
      go_wp2_with fail
      refine (HP.out _).mono ?_
      rintro e w2 ⟨rfl, L2⟩
      have n0 := kept L2 (lt_of m0) m0
      have n1 := kept L2 (lt_of m1) m1
      have n2 := kept L2 (lt_of m2) m2
      have K2 := join_below K1 L2
      clear p0 p1 p2 r0 f0 h0 r1 f1 h1 r2 f2 h2 r3 f3 h3 r4 f4 h4 r5 f5 h5 r6 f6 h6 r7 f7 h7 r8 f8 h8
      have p0 : w2.cell? ⟨w.heap.size, 0, none⟩ = some (.int .i64 p) := cell_at n0 0
      have p1 : w2.cell? ⟨w.heap.size, 1, none⟩ = some (.int .i64 q) := cell_at n0 1
      have p2 : w2.cell? ⟨w.heap.size, 2, none⟩ = some (.int .i64 g) := cell_at n0 2
      have r0 : w2.cell? ⟨w.heap.size + 1, 0, none⟩ = some (.int .i64 0) := cell_at n1 0
      have r1 : w2.cell? ⟨w.heap.size + 1, 1, none⟩ = some (.int .i64 0) := cell_at n1 1
      have r2 : w2.cell? ⟨w.heap.size + 1, 2, none⟩ = some (.int .i64 0) := cell_at n1 2
      have r3 : w2.cell? ⟨w.heap.size + 1, 3, none⟩ = some (.int .i64 0) := cell_at n1 3
      have r4 : w2.cell? ⟨w.heap.size + 1, 4, none⟩ = some (.int .i64 0) := cell_at n1 4
      have r5 : w2.cell? ⟨w.heap.size + 1, 5, none⟩ = some (.int .i64 0) := cell_at n1 5
      have r6 : w2.cell? ⟨w.heap.size + 1, 6, none⟩ = some (.int .i64 0) := cell_at n1 6
      have r7 : w2.cell? ⟨w.heap.size + 1, 7, none⟩ = some (.slice none 0 0) := cell_at n1 7
      have r8 : w2.cell? ⟨w.heap.size + 1, 8, none⟩ = some (.slice none 0 0) := cell_at n1 8
      have f0 : w2.frozen? ⟨w.heap.size + 1, 0, none⟩ = false := frozen_at n1 0
      have f1 : w2.frozen? ⟨w.heap.size + 1, 1, none⟩ = false := frozen_at n1 1
      have f2 : w2.frozen? ⟨w.heap.size + 1, 2, none⟩ = false := frozen_at n1 2
      have f3 : w2.frozen? ⟨w.heap.size + 1, 3, none⟩ = false := frozen_at n1 3
      have f4 : w2.frozen? ⟨w.heap.size + 1, 4, none⟩ = false := frozen_at n1 4
      have f5 : w2.frozen? ⟨w.heap.size + 1, 5, none⟩ = false := frozen_at n1 5
      have f6 : w2.frozen? ⟨w.heap.size + 1, 6, none⟩ = false := frozen_at n1 6
      have f7 : w2.frozen? ⟨w.heap.size + 1, 7, none⟩ = false := frozen_at n1 7
      have f8 : w2.frozen? ⟨w.heap.size + 1, 8, none⟩ = false := frozen_at n1 8
      have h0 : w2.cell? ⟨w.heap.size + 1 + 1, 0, none⟩ = some (.int .i64 d) := cell_at n2 0
      have h1 : w2.cell? ⟨w.heap.size + 1 + 1, 1, none⟩ = some (.int .i64 p) := cell_at n2 1
      have h2 : w2.cell? ⟨w.heap.size + 1 + 1, 2, none⟩ = some (.int .i64 q) := cell_at n2 2
      have h3 : w2.cell? ⟨w.heap.size + 1 + 1, 3, none⟩ = some (.int .i64 g) := cell_at n2 3
      have h4 : w2.cell? ⟨w.heap.size + 1 + 1, 4, none⟩ = some (.int .i64 k) := cell_at n2 4
      have h5 : w2.cell? ⟨w.heap.size + 1 + 1, 5, none⟩ = some (.int .i64 s) := cell_at n2 5
      have h6 : w2.cell? ⟨w.heap.size + 1 + 1, 6, none⟩ = some (.int .i64 0) := cell_at n2 6
      have h7 : w2.cell? ⟨w.heap.size + 1 + 1, 7, none⟩ = some (.slice none 0 0) := cell_at n2 7
      have h8 : w2.cell? ⟨w.heap.size + 1 + 1, 8, none⟩ = some (.slice none 0 0) := cell_at n2 8
      clear m0 m1 m2 n0 n1 n2 L2 K1 HP
      go_wp2
      refine bodyPost_ret (v := .tuple #[hnV noX (zeroO), .bool false]) (by simp [results, Tryz.results13, go_sem, r0, r1, r2, r3, r4, r5, r6, r7, r8]) rfl ?_
      refine ⟨by rw [HV.out] <;> rfl, ?_⟩
      (repeat' (first | apply Below.setCell | exact K2)) <;> first | (simp; done) | (simp; omega)
    · have HV : Hid (startB d p q g k s = true) := by show _ = _; unfold startB; rw [hb, hp]; rfl
      rw [hp] at HP
      clear hb hp
      go_enter Tryz.func13, Tryz.ntmps13
      go_wp2_with fail
      refine named fun W0 hW => ?_
      rw [← hW] at k0 k1 k2 L
      clear hW
      refine (HH.out _).mono ?_
      rintro e w1 ⟨rfl, L1⟩
      have m0 := kept L1 (lt_of k0) k0
      have m1 := kept L1 (lt_of k1) k1
      have m2 := kept L1 (lt_of k2) k2
      have K1 := join_below L L1
      have p0 : w1.cell? ⟨w.heap.size, 0, none⟩ = some (.int .i64 p) := cell_at m0 0
      have p1 : w1.cell? ⟨w.heap.size, 1, none⟩ = some (.int .i64 q) := cell_at m0 1
      have p2 : w1.cell? ⟨w.heap.size, 2, none⟩ = some (.int .i64 g) := cell_at m0 2
      have r0 : w1.cell? ⟨w.heap.size + 1, 0, none⟩ = some (.int .i64 0) := cell_at m1 0
      have r1 : w1.cell? ⟨w.heap.size + 1, 1, none⟩ = some (.int .i64 0) := cell_at m1 1
      have r2 : w1.cell? ⟨w.heap.size + 1, 2, none⟩ = some (.int .i64 0) := cell_at m1 2
      have r3 : w1.cell? ⟨w.heap.size + 1, 3, none⟩ = some (.int .i64 0) := cell_at m1 3
      have r4 : w1.cell? ⟨w.heap.size + 1, 4, none⟩ = some (.int .i64 0) := cell_at m1 4
      have r5 : w1.cell? ⟨w.heap.size + 1, 5, none⟩ = some (.int .i64 0) := cell_at m1 5
      have r6 : w1.cell? ⟨w.heap.size + 1, 6, none⟩ = some (.int .i64 0) := cell_at m1 6
      have r7 : w1.cell? ⟨w.heap.size + 1, 7, none⟩ = some (.slice none 0 0) := cell_at m1 7
      have r8 : w1.cell? ⟨w.heap.size + 1, 8, none⟩ = some (.slice none 0 0) := cell_at m1 8
      have f0 : w1.frozen? ⟨w.heap.size + 1, 0, none⟩ = false := frozen_at m1 0
      have f1 : w1.frozen? ⟨w.heap.size + 1, 1, none⟩ = false := frozen_at m1 1
      have f2 : w1.frozen? ⟨w.heap.size + 1, 2, none⟩ = false := frozen_at m1 2
      have f3 : w1.frozen? ⟨w.heap.size + 1, 3, none⟩ = false := frozen_at m1 3
      have f4 : w1.frozen? ⟨w.heap.size + 1, 4, none⟩ = false := frozen_at m1 4
      have f5 : w1.frozen? ⟨w.heap.size + 1, 5, none⟩ = false := frozen_at m1 5
      have f6 : w1.frozen? ⟨w.heap.size + 1, 6, none⟩ = false := frozen_at m1 6
      have f7 : w1.frozen? ⟨w.heap.size + 1, 7, none⟩ = false := frozen_at m1 7
      have f8 : w1.frozen? ⟨w.heap.size + 1, 8, none⟩ = false := frozen_at m1 8
      have h0 : w1.cell? ⟨w.heap.size + 1 + 1, 0, none⟩ = some (.int .i64 d) := cell_at m2 0
      have h1 : w1.cell? ⟨w.heap.size + 1 + 1, 1, none⟩ = some (.int .i64 p) := cell_at m2 1
      have h2 : w1.cell? ⟨w.heap.size + 1 + 1, 2, none⟩ = some (.int .i64 q) := cell_at m2 2
      have h3 : w1.cell? ⟨w.heap.size + 1 + 1, 3, none⟩ = some (.int .i64 g) := cell_at m2 3
      have h4 : w1.cell? ⟨w.heap.size + 1 + 1, 4, none⟩ = some (.int .i64 k) := cell_at m2 4
      have h5 : w1.cell? ⟨w.heap.size + 1 + 1, 5, none⟩ = some (.int .i64 s) := cell_at m2 5
      have h6 : w1.cell? ⟨w.heap.size + 1 + 1, 6, none⟩ = some (.int .i64 0) := cell_at m2 6
      have h7 : w1.cell? ⟨w.heap.size + 1 + 1, 7, none⟩ = some (.slice none 0 0) := cell_at m2 7
      have h8 : w1.cell? ⟨w.heap.size + 1 + 1, 8, none⟩ = some (.slice none 0 0) := cell_at m2 8
      clear k0 k1 k2 L L1 HH
      go_wp2_with fail
      refine (HP.out _).mono ?_
      rintro e w2 ⟨rfl, L2⟩
      have n0 := kept L2 (lt_of m0) m0
      have n1 := kept L2 (lt_of m1) m1
      have n2 := kept L2 (lt_of m2) m2
      have K2 := join_below K1 L2
      clear p0 p1 p2 r0 f0 h0 r1 f1 h1 r2 f2 h2 r3 f3 h3 r4 f4 h4 r5 f5 h5 r6 f6 h6 r7 f7 h7 r8 f8 h8
      have p0 : w2.cell? ⟨w.heap.size, 0, none⟩ = some (.int .i64 p) := cell_at n0 0
      have p1 : w2.cell? ⟨w.heap.size, 1, none⟩ = some (.int .i64 q) := cell_at n0 1
      have p2 : w2.cell? ⟨w.heap.size, 2, none⟩ = some (.int .i64 g) := cell_at n0 2
      have r0 : w2.cell? ⟨w.heap.size + 1, 0, none⟩ = some (.int .i64 0) := cell_at n1 0
      have r1 : w2.cell? ⟨w.heap.size + 1, 1, none⟩ = some (.int .i64 0) := cell_at n1 1
      have r2 : w2.cell? ⟨w.heap.size + 1, 2, none⟩ = some (.int .i64 0) := cell_at n1 2
      have r3 : w2.cell? ⟨w.heap.size + 1, 3, none⟩ = some (.int .i64 0) := cell_at n1 3
      have r4 : w2.cell? ⟨w.heap.size + 1, 4, none⟩ = some (.int .i64 0) := cell_at n1 4
      have r5 : w2.cell? ⟨w.heap.size + 1, 5, none⟩ = some (.int .i64 0) := cell_at n1 5
      have r6 : w2.cell? ⟨w.heap.size + 1, 6, none⟩ = some (.int .i64 0) := cell_at n1 6
      have r7 : w2.cell? ⟨w.heap.size + 1, 7, none⟩ = some (.slice none 0 0) := cell_at n1 7
      have r8 : w2.cell? ⟨w.heap.size + 1, 8, none⟩ = some (.slice none 0 0) := cell_at n1 8
      have f0 : w2.frozen? ⟨w.heap.size + 1, 0, none⟩ = false := frozen_at n1 0
      have f1 : w2.frozen? ⟨w.heap.size + 1, 1, none⟩ = false := frozen_at n1 1
      have f2 : w2.frozen? ⟨w.heap.size + 1, 2, none⟩ = false := frozen_at n1 2
      have f3 : w2.frozen? ⟨w.heap.size + 1, 3, none⟩ = false := frozen_at n1 3
      have f4 : w2.frozen? ⟨w.heap.size + 1, 4, none⟩ = false := frozen_at n1 4
      have f5 : w2.frozen? ⟨w.heap.size + 1, 5, none⟩ = false := frozen_at n1 5
      have f6 : w2.frozen? ⟨w.heap.size + 1, 6, none⟩ = false := frozen_at n1 6
      have f7 : w2.frozen? ⟨w.heap.size + 1, 7, none⟩ = false := frozen_at n1 7
      have f8 : w2.frozen? ⟨w.heap.size + 1, 8, none⟩ = false := frozen_at n1 8
      have h0 : w2.cell? ⟨w.heap.size + 1 + 1, 0, none⟩ = some (.int .i64 d) := cell_at n2 0
      have h1 : w2.cell? ⟨w.heap.size + 1 + 1, 1, none⟩ = some (.int .i64 p) := cell_at n2 1
      have h2 : w2.cell? ⟨w.heap.size + 1 + 1, 2, none⟩ = some (.int .i64 q) := cell_at n2 2
      have h3 : w2.cell? ⟨w.heap.size + 1 + 1, 3, none⟩ = some (.int .i64 g) := cell_at n2 3
      have h4 : w2.cell? ⟨w.heap.size + 1 + 1, 4, none⟩ = some (.int .i64 k) := cell_at n2 4
      have h5 : w2.cell? ⟨w.heap.size + 1 + 1, 5, none⟩ = some (.int .i64 s) := cell_at n2 5
      have h6 : w2.cell? ⟨w.heap.size + 1 + 1, 6, none⟩ = some (.int .i64 0) := cell_at n2 6
      have h7 : w2.cell? ⟨w.heap.size + 1 + 1, 7, none⟩ = some (.slice none 0 0) := cell_at n2 7
      have h8 : w2.cell? ⟨w.heap.size + 1 + 1, 8, none⟩ = some (.slice none 0 0) := cell_at n2 8
      clear m0 m1 m2 n0 n1 n2 L2 K1 HP
      go_wp2
      refine bodyPost_ret (v := .tuple #[hnV noX (firstO d p q g k s), .bool true]) (by simp [results, Tryz.results13, go_sem, r0, r1, r2, r3, r4, r5, r6, r7, r8]) rfl ?_
      refine ⟨by rw [HV.out] <;> rfl, ?_⟩
      (repeat' (first | apply Below.setCell | exact K2)) <;> first | (simp; done) | (simp; omega)

theorem noX_mine (lo : Nat) (w : World) (o : Hnd) (h1 : o.ol = []) (h2 : o.sl = []) : Mine lo w noX o lo (lo + 1) := ⟨by omega, by omega, by omega, Or.inl (by rw [h1]; rfl), Or.inl (by rw [h2]; rfl)⟩

theorem specStart_is (d p q g k s : Int) (w : World) :
    Calls Tryz.prog 13 #[.int .i64 d, .agg #[.int .i64 p, .int .i64 q, .int .i64 g], .int .i64 k, .int .i64 s] w fun e w' => ∃ y, e = .returned (.tuple #[hnV y (startO (startB d p q g k s) d p q g k s), .bool (startB d p q g k s)]) ∧ In w' y (startO (startB d p q g k s) d p q g k s) ∧ Below w.heap.size w w' :=
  (specStart_val d p q g k s w).mono fun e w' h => ⟨noX, h.1, noX_in w' _ (start_ol _ _ _ _ _ _ _).1 (start_ol _ _ _ _ _ _ _).2, h.2⟩

theorem implStart_is (d p q g k s : Int) (w : World) :
    Calls Tryz.prog 20 #[.int .i64 d, .agg #[.int .i64 p, .int .i64 q, .int .i64 g], .int .i64 k, .int .i64 s] w fun e w' => ∃ y g1 g2, e = .returned (.tuple #[hnV y (startO (startB d p q g k s) d p q g k s), .bool (startB d p q g k s)]) ∧ In w' y (startO (startB d p q g k s) d p q g k s) ∧ Mine w.heap.size w' y (startO (startB d p q g k s) d p q g k s) g1 g2 ∧ Below w.heap.size w w' :=
  (implStart_val d p q g k s w).mono fun e w' h => ⟨noX, w.heap.size, w.heap.size + 1, h.1, noX_in w' _ (start_ol _ _ _ _ _ _ _).1 (start_ol _ _ _ _ _ _ _).2, noX_mine _ _ _ (start_ol _ _ _ _ _ _ _).1 (start_ol _ _ _ _ _ _ _).2, h.2⟩

end Hn
end Go.Proofs.YtmoinacceildcaaGreatDoor

/- Contracts of the model's functions of chapter 2, further: keys and marks. -/
namespace Go.Proofs.YtmoinacceildcaaGreatDoor
namespace Num
open Go.ChangeShapes Go.WideShapes Go.ChangeAt Go.RowKit

/-- Whether a secret is one of these parameters. -/
def keyB (p q g x : Int) : Bool := okP p q g && decide (1 ≤ x ∧ x ≤ q - 1)

/-- What OpenKey answers. -/
def keyI (p q g x : Int) : Int := if keyB p q g x = true then powV g x p else 0

theorem keyI_yes {p q g x : Int} (h : keyB p q g x = true) : keyI p q g x = powV g x p := if_pos h

theorem keyI_no {p q g x : Int} (h : keyB p q g x = false) : keyI p q g x = 0 := if_neg (by rw [h]; simp)

theorem keyB_facts {p q g x : Int} (h : keyB p q g x = true) : okP p q g = true ∧ 1 ≤ x ∧ x ≤ q - 1 := by
  simpa [keyB] using h

theorem specParamsOk_is (p q g : Int) (b : Bool) (h : okP p q g = b) (w : World) :
    Calls Tryz.prog 36 #[pv p q g] w fun e w' => e = .returned (.bool b) ∧ Below w.heap.size w w' := by
  subst h
  exact specParamsOk_val p q g w

theorem specOpenKey_val (p q g x : Int) (w : World) :
    Calls Tryz.prog 11 #[pv p q g, .int .i64 x] w fun e w' => e = .returned (.tuple #[.int .i64 (keyI p q g x), .bool (keyB p q g x)]) ∧ Below w.heap.size w w' := by
  have L0 : Below w.heap.size w (w.alloc (.cells #[.int .i64 p, .int .i64 q, .int .i64 g] 32)) := (Below.refl _ _).alloc (Nat.le_refl _) _
  cases h1 : okP p q g
  · have HV : Hid (keyB p q g x = false) := by show _ = _; simp [keyB, h1]
    have H1 : Hid (okP p q g = false) := h1
    clear h1
    go_enter Tryz.func11, Tryz.ntmps11
    go_wp2_with fail
    refine (specParamsOk_is p q g false H1.out _).mono ?_
    rintro e w1 ⟨rfl, L1⟩
    go_wp2
    go_ret2
    rw [keyI_no HV.out, HV.out]
    exact ⟨rfl, L0.trans (L1.mono L0.size)⟩
  · obtain ⟨hp, hq, hq1, hq2, hd, hg1, hg2, hpow, hpr, -⟩ := okP_facts h1
    have hm1 := hp.1
    have hm2 := hp.2
    have hm3 := hq.2
    have H1 : Hid (okP p q g = true) := h1
    clear h1 hd hpow hpr hp hq
    by_cases hx : 1 ≤ x ∧ x ≤ q - 1
    · have HV : Hid (keyB p q g x = true) := by show _ = _; simp [keyB, H1.out, hx]
      go_enter Tryz.func11, Tryz.ntmps11
      go_wp2_with fail
      refine (specParamsOk_is p q g true H1.out _).mono ?_
      rintro e w1 ⟨rfl, L1⟩
      have c0 : w1.cell? ⟨w.heap.size, 0, none⟩ = some (.int .i64 p) := by rw [L1.cell (by simp)]; exact World.cell?_alloc_mark _ _ _ _ 0
      have c1 : w1.cell? ⟨w.heap.size, 1, none⟩ = some (.int .i64 q) := by rw [L1.cell (by simp)]; exact World.cell?_alloc_mark _ _ _ _ 1
      have c2 : w1.cell? ⟨w.heap.size, 2, none⟩ = some (.int .i64 g) := by rw [L1.cell (by simp)]; exact World.cell?_alloc_mark _ _ _ _ 2
      go_wp2_with fail
      refine (specIn_is x 1 (q - 1) true (decide_eq_true hx) _).mono ?_
      rintro e w2 ⟨rfl, rfl⟩
      go_wp2_with fail
      refine (specPowMod_val g x p _).mono ?_
      rintro e w3 ⟨rfl, D⟩
      go_wp2
      go_ret2
      rw [keyI_yes HV.out, HV.out]
      exact ⟨rfl, L0.trans ((L1.mono L0.size).trans (drawn_below _ D))⟩
    · have HV : Hid (keyB p q g x = false) := by show _ = _; rw [keyB, decide_eq_false hx, Bool.and_false]
      go_enter Tryz.func11, Tryz.ntmps11
      go_wp2_with fail
      refine (specParamsOk_is p q g true H1.out _).mono ?_
      rintro e w1 ⟨rfl, L1⟩
      have c1 : w1.cell? ⟨w.heap.size, 1, none⟩ = some (.int .i64 q) := by rw [L1.cell (by simp)]; exact World.cell?_alloc_mark _ _ _ _ 1
      go_wp2_with fail
      refine (specIn_is x 1 (q - 1) false (decide_eq_false hx) _).mono ?_
      rintro e w2 ⟨rfl, rfl⟩
      go_wp2
      go_ret2
      rw [keyI_no HV.out, HV.out]
      exact ⟨rfl, L0.trans (L1.mono L0.size)⟩

/-- The first half of the mark that a draw makes; 0 where it will not do. -/
def onceR (p q g x h k : Int) : Int := if doV p q g x h k = true then rV p q g k else 0

/-- The second half. -/
def onceS (p q g x h k : Int) : Int := if doV p q g x h k = true then sV p q g x h k else 0

theorem once_yes {p q g x h k : Int} (hd : doV p q g x h k = true) : onceR p q g x h k = rV p q g k ∧ onceS p q g x h k = sV p q g x h k := ⟨if_pos hd, if_pos hd⟩

theorem once_no {p q g x h k : Int} (hd : doV p q g x h k = false) : onceR p q g x h k = 0 ∧ onceS p q g x h k = 0 := ⟨if_neg (by rw [hd]; simp), if_neg (by rw [hd]; simp)⟩

/-- The block of some parameters. -/
abbrev pb (p q g : Int) : Obj := .cells #[.int .i64 p, .int .i64 q, .int .i64 g] 32

theorem cell_at {w : World} {b : Nat} {cs : Array Value} {t : TypeId} {f : Nat × Nat} (h : w.heap[b]? = some (.cells cs t f)) (i : Nat) : w.cell? ⟨b, i, none⟩ = cs[i]? := by
  unfold World.cell?
  rw [h]
  simp

theorem heap_new (w : World) (o : Obj) : (w.alloc o).heap[w.heap.size]? = some o := by
  show (w.heap.push o)[w.heap.size]? = some o
  simp

theorem heap_old {w : World} {b : Nat} {x : Obj} (h : w.heap[b]? = some x) (o : Obj) : (w.alloc o).heap[b]? = some x := by
  show (w.heap.push o)[b]? = some x
  have := (Array.getElem?_eq_some_iff.1 h).1
  rw [Array.getElem?_push_lt this]
  exact Array.getElem?_eq_some_iff.1 h |>.2 |> fun e => by rw [e]

theorem frozen_at {w : World} {b : Nat} {cs : Array Value} {t : TypeId} (h : w.heap[b]? = some (.cells cs t (0, 0))) (i : Nat) : w.frozen? ⟨b, i, none⟩ = false := by
  unfold World.frozen?
  rw [h]
  simp

theorem kept_new {X w4 : World} {n : Nat} {o : Obj} (L : Below X.heap.size X w4) (h : X.heap[n]? = some o) : w4.heap[n]? = some o := by rw [L.block n (Array.getElem?_eq_some_iff.1 h).1, h]

theorem kept_drawn {X w4 : World} {n : Nat} {o : Obj} (D : Drawn X w4) (h : X.heap[n]? = some o) : w4.heap[n]? = some o := kept_new (drawn_below _ D) h

/-- Whether a text can be signed with a secret. -/
def signB (p q g x : Int) (t : ByteArray) : Bool := keyB p q g x && decide (t.size ≤ 5000)

theorem signB_facts {p q g x : Int} {t : ByteArray} (h : signB p q g x t = true) : okP p q g = true ∧ (1 ≤ x ∧ x ≤ q - 1) ∧ t.size ≤ 5000 := by
  simp only [signB, Bool.and_eq_true, decide_eq_true_eq] at h
  exact ⟨(keyB_facts h.1).1, (keyB_facts h.1).2, h.2⟩

/-- The folding of a text. -/
def hV (t : ByteArray) (q : Int) : Int := (Math.foldAt t.data.toList : Int) % q

theorem hV_bd (t : ByteArray) {q : Int} (h : Meas q) : 0 ≤ hV t q ∧ hV t q < q := Math.emod_bd _ _ h.1

/-- Whether SignOnce makes a mark. -/
def soB (p q g x : Int) (t : ByteArray) (k : Int) : Bool := signB p q g x t && doV p q g x (hV t q) k

/-- The halves of the mark that SignOnce answers. -/
def soR (p q g x : Int) (t : ByteArray) (k : Int) : Int := if soB p q g x t k = true then rV p q g k else 0

def soS (p q g x : Int) (t : ByteArray) (k : Int) : Int := if soB p q g x t k = true then sV p q g x (hV t q) k else 0

theorem so_no {p q g x : Int} {t : ByteArray} (k : Int) (h : signB p q g x t = false) : soB p q g x t k = false ∧ soR p q g x t k = 0 ∧ soS p q g x t k = 0 := by
  have e : soB p q g x t k = false := by rw [soB, h]; rfl
  exact ⟨e, if_neg (by rw [e]; simp), if_neg (by rw [e]; simp)⟩

theorem so_yes {p q g x : Int} {t : ByteArray} (k : Int) (h : signB p q g x t = true) : soB p q g x t k = doV p q g x (hV t q) k ∧ soR p q g x t k = onceR p q g x (hV t q) k ∧ soS p q g x t k = onceS p q g x (hV t q) k := by
  have e : soB p q g x t k = doV p q g x (hV t q) k := by rw [soB, h]; rfl
  refine ⟨e, ?_, ?_⟩
  · unfold soR onceR; rw [e]
  · unfold soS onceS; rw [e]

theorem signB_cases (p q g x : Int) (t : ByteArray) : (okP p q g = false ∧ signB p q g x t = false) ∨ (okP p q g = true ∧ ¬ (1 ≤ x ∧ x ≤ q - 1) ∧ signB p q g x t = false) ∨ (okP p q g = true ∧ (1 ≤ x ∧ x ≤ q - 1) ∧ 5000 < t.size ∧ signB p q g x t = false) ∨ (okP p q g = true ∧ (1 ≤ x ∧ x ≤ q - 1) ∧ t.size ≤ 5000 ∧ signB p q g x t = true) := by
  cases h1 : okP p q g
  · exact Or.inl ⟨rfl, by simp [signB, keyB, h1]⟩
  · by_cases h2 : 1 ≤ x ∧ x ≤ q - 1
    · by_cases h3 : t.size ≤ 5000
      · exact Or.inr (Or.inr (Or.inr ⟨rfl, h2, h3, by simp [signB, keyB, h1, h2, h3]⟩))
      · exact Or.inr (Or.inr (Or.inl ⟨rfl, h2, by omega, by simp [signB, h3]⟩))
    · exact Or.inr (Or.inl ⟨rfl, h2, by rw [signB, keyB, decide_eq_false h2, Bool.and_false]; rfl⟩)

end Num
end Go.Proofs.YtmoinacceildcaaGreatDoor

/- Contracts of the program's functions of chapter 2: secrets and open keys. -/
namespace Go.Proofs.YtmoinacceildcaaGreatDoor
namespace Num
open Go.ChangeShapes Go.WideShapes Go.ChangeAt Go.RowKit
set_option linter.unusedSimpArgs false
set_option linter.unusedVariables false

theorem implParamsOk_is (p q g : Int) (b : Bool) (h : okP p q g = b) (w : World) :
    Calls Tryz.prog 49 #[pv p q g] w fun e w' => e = .returned (.bool b) ∧ Below w.heap.size w w' := by
  subst h
  exact implParamsOk_val p q g w

theorem err_cell {g : Nat} {w : World} (E : Errs.ErrAt g w) : ∃ a : Addr, w.cell? ⟨g, 0, none⟩ = some (.iface 167 (.pointer (some a))) := E

theorem checkSecret_yes (p q g x : Int) (w : World) (hk : keyB p q g x = true) :
    Calls Tryz.prog 46 #[pv p q g, .int .i64 x] w fun e w' => e = .returned .nilIface ∧ Below w.heap.size w w' := by
  obtain ⟨h1, hx⟩ := keyB_facts hk
  have H1 : Hid (okP p q g = true) := h1
  have hd : decide (1 ≤ x ∧ x < q) = true := decide_eq_true (by omega)
  clear h1 hk
  go_enter Tryz.func46, Tryz.ntmps46
  go_wp2_with fail
  refine (implParamsOk_is p q g true H1.out _).mono ?_
  rintro e w1 ⟨rfl, L1⟩
  obtain ⟨c0, c1, c2⟩ := cells3 L1
  go_wp2_with fail
  refine (belowQ_val p q g x _ true hd).mono ?_
  rintro e w2 ⟨rfl, L2⟩
  go_wp2
  go_ret
  exact ⟨rfl, join_below (join_below (new_below w _) L1) L2⟩

theorem checkSecret_no (p q g x : Int) (w : World) (hk : keyB p q g x = false) (E1 : Errs.ErrAt 0 w) (E2 : Errs.ErrAt 1 w) :
    Calls Tryz.prog 46 #[pv p q g, .int .i64 x] w fun e w' => (∃ a, e = .returned (.iface 167 (.pointer (some a)))) ∧ Below w.heap.size w w' := by
  cases h1 : okP p q g
  · have H1 : Hid (okP p q g = false) := h1
    clear h1 hk
    go_enter Tryz.func46, Tryz.ntmps46
    go_wp2_with fail
    refine (implParamsOk_is p q g false H1.out _).mono ?_
    rintro e w1 ⟨rfl, L1⟩
    have L2 := join_below (new_below w _) L1
    obtain ⟨a, ha⟩ := err_cell (E1.on L2)
    go_wp2
    go_ret
    exact ⟨⟨a, rfl⟩, L2⟩
  · have hx : decide (1 ≤ x ∧ x < q) = false := by
      apply decide_eq_false
      intro hh
      rw [keyB, h1, decide_eq_true (show 1 ≤ x ∧ x ≤ q - 1 by omega)] at hk
      cases hk
    have H1 : Hid (okP p q g = true) := h1
    clear h1 hk
    go_enter Tryz.func46, Tryz.ntmps46
    go_wp2_with fail
    refine (implParamsOk_is p q g true H1.out _).mono ?_
    rintro e w1 ⟨rfl, L1⟩
    obtain ⟨c0, c1, c2⟩ := cells3 L1
    go_wp2_with fail
    refine (belowQ_val p q g x _ false hx).mono ?_
    rintro e w2 ⟨rfl, L2⟩
    have L3 := join_below (join_below (new_below w _) L1) L2
    obtain ⟨a, ha⟩ := err_cell (E2.on L3)
    go_wp2
    go_ret
    exact ⟨⟨a, rfl⟩, L3⟩

theorem implOpenKey_val (p q g x : Int) (w : World) (E1 : Errs.ErrAt 0 w) (E2 : Errs.ErrAt 1 w) :
    Calls Tryz.prog 18 #[pv p q g, .int .i64 x] w fun e w' => e = .returned (.tuple #[.int .i64 (keyI p q g x), .bool (keyB p q g x)]) ∧ Below w.heap.size w w' := by
  cases hk : keyB p q g x
  · have HK : Hid (keyB p q g x = false) := hk
    have HI : Hid (_) := keyI_no hk
    clear hk
    go_enter Tryz.func18, Tryz.ntmps18
    go_wp2_with fail
    refine (checkSecret_no p q g x _ HK.out (E1.on (new_below w _)) (E2.on (new_below w _))).mono ?_
    rintro e w1 ⟨⟨a, rfl⟩, L1⟩
    go_wp2
    go_ret2
    rw [HI.out]
    exact ⟨rfl, join_below (new_below w _) L1⟩
  · have HK : Hid (keyB p q g x = true) := hk
    have HI : Hid (_) := keyI_yes hk
    obtain ⟨h1, hx⟩ := keyB_facts hk
    clear hk h1
    go_enter Tryz.func18, Tryz.ntmps18
    go_wp2_with fail
    refine (checkSecret_yes p q g x _ HK.out).mono ?_
    rintro e w1 ⟨rfl, L1⟩
    obtain ⟨c0, c1, c2⟩ := cells3 L1
    go_wp2_with fail
    refine (implPowMod_val g x p _).mono ?_
    rintro e w2 ⟨rfl, rfl⟩
    go_wp2
    go_ret2
    rw [HI.out]
    exact ⟨rfl, join_below (new_below w _) L1⟩

end Num
end Go.Proofs.YtmoinacceildcaaGreatDoor

/- DeskStart of the program and of its model. -/
namespace Go.Proofs.YtmoinacceildcaaGreatDoor
namespace Dk
open Go.ChangeShapes Go.WideShapes Go.ChangeAt Go.RowKit
open Pk (new_below join_below cell_at heap_new frozen_at lt_of kept heap_old info_of Room own_form)
open Of (Kp put6 put6_below St Et Lw opened_val closed_val copyS_val nil_row edges_cells snap snap_len snap_get snap_one snap_at own_g et_mk h_set h_other Offc Pl ofV In)
open Tn (Tr Trains)
open Tf (Ed Edges)
set_option linter.unusedSimpArgs false
set_option linter.unusedVariables false

open Of (Kh Lm offB Lim Small startB)

/-- The lines and the tariff of the desk. -/
def dT : List Tr := [⟨⟨10, 127, 1, 2⟩, [⟨1, 60, 60⟩, ⟨2, 100, 105⟩, ⟨3, 200, 200⟩]⟩, ⟨⟨20, 127, 0, 0⟩, [⟨3, 230, 230⟩, ⟨4, 300, 300⟩]⟩]
def dE : List Ed := [⟨1, 2, 500⟩, ⟨2, 3, 700⟩, ⟨1, 3, 1100⟩, ⟨3, 4, 250⟩]
/-- The device of the desk. -/
def dH : Hn.Hnd := Hn.startO (Hn.startB 1 240169 10007 205555 (Num.keyI 240169 10007 205555 7) 80) 1 240169 10007 205555 (Num.keyI 240169 10007 205555 7) 80

theorem lit_trains {w : World} {b c g : Nat} (h1 : w.heap[b]? = some (.cells #[.int .i64 1, .int .i64 60, .int .i64 60, .int .i64 2, .int .i64 100, .int .i64 105, .int .i64 3, .int .i64 200, .int .i64 200] 47)) (h2 : w.heap[c]? = some (.cells #[.int .i64 3, .int .i64 230, .int .i64 230, .int .i64 4, .int .i64 300, .int .i64 300] 47)) (h3 : w.heap[g]? = some (.cells #[.int .i64 10, .int .i64 127, .int .i64 1, .int .i64 2, .slice (some ⟨b, 0, none⟩) 3 3, .int .i64 20, .int .i64 127, .int .i64 0, .int .i64 0, .slice (some ⟨c, 0, none⟩) 2 2] 50)) : Trains w (some ⟨g, 0, none⟩) dT := by
  refine Or.inr ⟨g, 0, rfl, lt_of h3, fun i hi => ?_⟩
  match i, hi with
  | 0, _ =>
    refine ⟨⟨cell_at h3 0, cell_at h3 1, cell_at h3 2, cell_at h3 3⟩, b, 0, 3, cell_at h3 4, Or.inr ⟨b, 0, rfl, lt_of h1, fun j hj => ?_⟩⟩
    match j, hj with
    | 0, _ => exact ⟨cell_at h1 0, cell_at h1 1, cell_at h1 2⟩
    | 1, _ => exact ⟨cell_at h1 3, cell_at h1 4, cell_at h1 5⟩
    | 2, _ => exact ⟨cell_at h1 6, cell_at h1 7, cell_at h1 8⟩
  | 1, _ =>
    refine ⟨⟨cell_at h3 5, cell_at h3 6, cell_at h3 7, cell_at h3 8⟩, c, 0, 2, cell_at h3 9, Or.inr ⟨c, 0, rfl, lt_of h2, fun j hj => ?_⟩⟩
    match j, hj with
    | 0, _ => exact ⟨cell_at h2 0, cell_at h2 1, cell_at h2 2⟩
    | 1, _ => exact ⟨cell_at h2 3, cell_at h2 4, cell_at h2 5⟩

theorem lit_edges {w : World} {g : Nat} (h : w.heap[g]? = some (.cells #[.int .i64 1, .int .i64 2, .int .i64 500, .int .i64 2, .int .i64 3, .int .i64 700, .int .i64 1, .int .i64 3, .int .i64 1100, .int .i64 3, .int .i64 4, .int .i64 250] 52)) : Edges w (some ⟨g, 0, none⟩) dE := by
  refine Or.inr ⟨g, 0, rfl, lt_of h, fun i hi => ?_⟩
  match i, hi with
  | 0, _ => exact ⟨cell_at h 0, cell_at h 1, cell_at h 2⟩
  | 1, _ => exact ⟨cell_at h 3, cell_at h 4, cell_at h 5⟩
  | 2, _ => exact ⟨cell_at h 6, cell_at h 7, cell_at h 8⟩
  | 3, _ => exact ⟨cell_at h 9, cell_at h 10, cell_at h 11⟩

theorem Sp.le {w : World} {lo hi : Nat} {a2 a3 : Option Addr} {ts : List Tr} {es : List Ed} (h : Sp w lo hi a2 a3 ts es) : lo ≤ hi := by
  obtain ⟨mid, gf, cf, h1, h2, -⟩ := h
  omega

theorem Kh.rowR {lo g : Nat} {w W : World} {cs : Array Value} (k : Kh lo w W) (h : g < lo) : Kh lo w (W.setRow g cs) := ⟨by rw [size_setRow]; exact k.1, fun b h1 h2 => by rw [setRow_other W g b cs (by omega)]; exact k.2 b h1 h2⟩
theorem Kp.rowR {lo g : Nat} {w W : World} {cs : Array Value} (k : Kp lo w W) (h : g < lo) : Kp lo w (W.setRow g cs) := ⟨by rw [size_setRow]; exact k.1, fun p h1 h2 => by rw [World.cell?_of_block (setRow_other W g p.block cs (by omega))]; exact k.2 p h1 h2⟩

theorem results_two {P : Program} {fn : Func} {a s : Nat} {t : TypeId} {tmps : Array Value} {w : World} {ad : Addr} {x v : Value} (hf : fn.results = #[.cell a t, .tmp s]) (ha : tmps.getD a undef = .pointer (some ad)) (hs : tmps.getD s undef = x) (hl : (loadVar t ad).run P w = .ok v w) : (results fn tmps).run P w = .ok (.tuple #[v, x]) w := by
  unfold results
  rw [hf]
  have e : (#[ResultVar.cell a t, ResultVar.tmp s] : Array ResultVar) = [ResultVar.cell a t, ResultVar.tmp s].toArray := rfl
  rw [e, List.mapM_toArray]
  simp only [List.mapM_cons, List.mapM_nil, ha, hs, asAddr, Sem.run_bind, Sem.run_pure, Result.andThen_ok, hl, pure_bind, bind_assoc, Sem.run_map]
  simp

theorem three_blocks (w : World) (a b c : Obj) : (((w.alloc a).alloc b).alloc c).heap[w.heap.size]? = some a ∧ (((w.alloc a).alloc b).alloc c).heap[w.heap.size + 1]? = some b ∧ (((w.alloc a).alloc b).alloc c).heap[w.heap.size + 1 + 1]? = some c := by
  obtain ⟨h1, h2, h3⟩ := two_blocks w a b
  refine ⟨heap_old h1 c, heap_old h2 c, ?_⟩
  rw [← h3]
  exact heap_new _ c

theorem five_blocks (w : World) (a b c d e : Obj) : let W := ((((w.alloc a).alloc b).alloc c).alloc d).alloc e; W.heap[w.heap.size + 1]? = some b ∧ W.heap[w.heap.size + 1 + 1]? = some c ∧ W.heap[w.heap.size + 1 + 1 + 1]? = some d ∧ W.heap[w.heap.size + 1 + 1 + 1 + 1]? = some e := by
  have e1 : (w.alloc a).heap.size = w.heap.size + 1 := Array.size_push ..
  obtain ⟨h1, h2, h3⟩ := three_blocks (w.alloc a) b c d
  rw [e1] at h1 h2 h3
  refine ⟨heap_old h1 e, heap_old h2 e, heap_old h3 e, ?_⟩
  have h4 := heap_new ((((w.alloc a).alloc b).alloc c).alloc d) e
  have e4 : ((((w.alloc a).alloc b).alloc c).alloc d).heap.size = w.heap.size + 1 + 1 + 1 + 1 := by
    rw [show ((((w.alloc a).alloc b).alloc c).alloc d).heap.size = (((w.alloc a).alloc b).alloc c).heap.size + 1 from Array.size_push .., show (((w.alloc a).alloc b).alloc c).heap.size = ((w.alloc a).alloc b).heap.size + 1 from Array.size_push .., (two_blocks w a b).2.2]
  rw [e4] at h4
  exact h4

theorem lines_val (w : World) :
    Calls Tryz.prog 15 #[] w fun e w' => ∃ g, e = .returned (.slice (some ⟨g, 0, none⟩) dT.length 2) ∧ Trains w' (some ⟨g, 0, none⟩) dT ∧ Below w.heap.size w w' := by
  obtain ⟨h1, h2, h3⟩ := three_blocks w (.cells #[.int .i64 1, .int .i64 60, .int .i64 60, .int .i64 2, .int .i64 100, .int .i64 105, .int .i64 3, .int .i64 200, .int .i64 200] 47) (.cells #[.int .i64 3, .int .i64 230, .int .i64 230, .int .i64 4, .int .i64 300, .int .i64 300] 47) (.cells #[.int .i64 10, .int .i64 127, .int .i64 1, .int .i64 2, .slice (some ⟨w.heap.size, 0, none⟩) 3 3, .int .i64 20, .int .i64 127, .int .i64 0, .int .i64 0, .slice (some ⟨w.heap.size + 1, 0, none⟩) 2 2] 50)
  go_enter Tryz.func15, Tryz.ntmps15
  go_wp2
  go_ret
  exact ⟨_, rfl, lit_trains h1 h2 h3, join_below (join_below (new_below _ _) (new_below _ _)) (new_below _ _)⟩

theorem tariff_val (w : World) :
    Calls Tryz.prog 16 #[] w fun e w' => ∃ g, e = .returned (.slice (some ⟨g, 0, none⟩) dE.length 4) ∧ Edges w' (some ⟨g, 0, none⟩) dE ∧ Below w.heap.size w w' := by
  go_enter Tryz.func16, Tryz.ntmps16
  go_wp2
  go_ret
  exact ⟨_, rfl, lit_edges (heap_new w _), new_below _ _⟩

theorem params_val (w : World) :
    Calls Tryz.prog 19 #[] w fun e w' => e = .returned (.agg #[.int .i64 240169, .int .i64 10007, .int .i64 205555]) ∧ Below w.heap.size w w' := by
  go_enter Tryz.func19, Tryz.ntmps19
  go_wp2
  refine bodyPost_ret (v := .agg #[.int .i64 240169, .int .i64 10007, .int .i64 205555]) (by simp [results, Tryz.results19, go_sem]) rfl ?_
  exact ⟨rfl, new_below _ _⟩

theorem keys_val (w : World) :
    Calls Tryz.prog 12 #[] w fun e w' => e = .returned (.agg #[.int .i64 240169, .int .i64 10007, .int .i64 205555]) ∧ Below w.heap.size w w' := by
  go_enter Tryz.func12, Tryz.ntmps12
  go_wp2
  refine bodyPost_ret (v := .agg #[.int .i64 240169, .int .i64 10007, .int .i64 205555]) (by simp [results, Tryz.results12, go_sem]) rfl ?_
  exact ⟨rfl, new_below _ _⟩

theorem d_lim (td : Int) (h : (Lit.int .i64 td).wf = true) : Lim ⟨dT, dE, [], [], [], td⟩ ∧ Small ⟨dT, dE, [], [], [], td⟩ := by
  refine ⟨⟨by show 2 ≤ maxLen; unfold maxLen; omega, fun i hi => ?_, by show 4 ≤ maxLen; unfold maxLen; omega, by show 0 ≤ maxLen; omega, ?_, by show 0 ≤ maxLen; omega, fun i hi => absurd hi (Nat.not_lt_zero i), ?_, by show 0 ≤ maxLen; omega, ?_, h⟩, show Tn.bulk dT ≤ 1048576 by decide, show dE.length ≤ 1048576 by decide, show 0 ≤ 1048576 by decide, show Od.bulk [] ≤ 1048576 by decide, show 0 ≤ 1048576 by decide⟩
  · match i, hi with
    | 0, _ => show 3 ≤ maxLen; unfold maxLen; omega
    | 1, _ => show 2 ≤ maxLen; unfold maxLen; omega
  · intro x hx; cases hx
  · intro x hx; cases hx
  · intro x hx; cases hx

theorem d_len : dT.length ≤ 1048576 ∧ dE.length ≤ 1048576 ∧ (∀ i (h : i < dT.length), 1 ≤ dT[i].l.length ∧ dT[i].l.length ≤ 1048576) ∧ dT ≠ [] ∧ dE ≠ [] := by
  refine ⟨by decide, by decide, fun i h => ?_, by simp [dT], by simp [dE]⟩
  match i, h with
  | 0, _ => exact ⟨show 1 ≤ 3 by decide, show 3 ≤ 1048576 by decide⟩
  | 1, _ => exact ⟨show 1 ≤ 2 by decide, show 2 ≤ 1048576 by decide⟩

end Dk
end Go.Proofs.YtmoinacceildcaaGreatDoor

/- DeskStart of the program. -/
namespace Go.Proofs.YtmoinacceildcaaGreatDoor
namespace Dk
open Go.ChangeShapes Go.WideShapes Go.ChangeAt Go.RowKit
open Pk (new_below join_below cell_at heap_new frozen_at lt_of kept heap_old info_of Room own_form)
open Of (Kp put6 put6_below St Et Lw opened_val closed_val copyS_val nil_row edges_cells snap snap_len snap_get snap_one snap_at own_g et_mk h_set h_other Offc Pl ofV In)
open Tn (Tr Trains)
open Tf (Ed Edges)
set_option linter.unusedSimpArgs false
set_option linter.unusedVariables false

open Of (Kh Lm offB Lim Small startB)

set_option maxRecDepth 100000 in
set_option maxHeartbeats 8000000 in
theorem implDesk_no (td : Int) (wtd : (Lit.int .i64 td).wf = true) (w : World) (hB : startB dT dE td = false) :
    Calls Tryz.prog 5 #[.int .i64 td] w fun e w' => e = .returned (.tuple #[.agg #[.slice none 0 0, .slice none 0 0, .slice none 0 0, .slice none 0 0, .slice none 0 0, .int .i64 0, .slice none 0 0, .slice none 0 0, .slice none 0 0, .slice none 0 0, .slice none 0 0, .int .i64 0, .string ⟨#[]⟩, .int .i64 0, .int .i64 0, .int .i64 0, .int .i64 0, .int .i64 0, .int .i64 0, .int .i64 0, .int .i64 0, .slice none 0 0, .slice none 0 0, .int .i64 0, .slice none 0 0, .slice none 0 0], .bool false]) ∧ Below w.heap.size w w' := by
  obtain ⟨l1, l2, l3, l4, l5⟩ := d_len
  obtain ⟨hL, hS⟩ := d_lim td wtd
  have HLN : Hid (∀ W : World, _) := fun W => lines_val W
  have HTF : Hid (∀ W : World, _) := fun W => tariff_val W
  have HST : Hid (∀ (g d : Nat) (W : World), g < W.heap.size → d < W.heap.size → Trains W (some ⟨g, 0, none⟩) dT → Edges W (some ⟨d, 0, none⟩) dE → _) := fun g d W h1 h2 I J => Of.implStart_no g 0 d 0 dT dE 2 4 td W hL.ln hL.st hL.ta I J hB
  have HNE : Hid (∀ (W : World) (a c : Option Addr), Trains W a dT → Edges W c dE → ∃ b o d u, a = some ⟨b, o, none⟩ ∧ c = some ⟨d, u, none⟩ ∧ b < W.heap.size ∧ d < W.heap.size) := by
    intro W a c I J
    obtain ⟨b, o, rfl, hb, -⟩ := I.resolve_left l4
    obtain ⟨d, u, rfl, hd, -⟩ := J.resolve_left l5
    exact ⟨b, o, d, u, rfl, rfl, hb, hd⟩
  clear l1 l2 l3 l4 l5 hL hS hB wtd
  have N1 := Pk.new_below w (.cells #[.slice none 0 0, .slice none 0 0, .slice none 0 0, .slice none 0 0, .slice none 0 0, .int .i64 0, .slice none 0 0, .slice none 0 0, .slice none 0 0, .slice none 0 0, .slice none 0 0, .int .i64 0, .string ⟨#[]⟩, .int .i64 0, .int .i64 0, .int .i64 0, .int .i64 0, .int .i64 0, .int .i64 0, .int .i64 0, .int .i64 0, .slice none 0 0, .slice none 0 0, .int .i64 0, .slice none 0 0, .slice none 0 0] 40)
  have m2 := Pk.heap_new w (.cells #[.slice none 0 0, .slice none 0 0, .slice none 0 0, .slice none 0 0, .slice none 0 0, .int .i64 0, .slice none 0 0, .slice none 0 0, .slice none 0 0, .slice none 0 0, .slice none 0 0, .int .i64 0, .string ⟨#[]⟩, .int .i64 0, .int .i64 0, .int .i64 0, .int .i64 0, .int .i64 0, .int .i64 0, .int .i64 0, .int .i64 0, .slice none 0 0, .slice none 0 0, .int .i64 0, .slice none 0 0, .slice none 0 0] 40)
  have L4 := N1
  have hs5 : w.heap.size ≤ (w.alloc (.cells #[.slice none 0 0, .slice none 0 0, .slice none 0 0, .slice none 0 0, .slice none 0 0, .int .i64 0, .slice none 0 0, .slice none 0 0, .slice none 0 0, .slice none 0 0, .slice none 0 0, .int .i64 0, .string ⟨#[]⟩, .int .i64 0, .int .i64 0, .int .i64 0, .int .i64 0, .int .i64 0, .int .i64 0, .int .i64 0, .int .i64 0, .slice none 0 0, .slice none 0 0, .int .i64 0, .slice none 0 0, .slice none 0 0] 40)).heap.size := N1.size
  have hs6 := Pk.lt_of m2
  go_enter Tryz.func5, Tryz.ntmps5
  go_wp2_with fail
  refine (HLN.out _).mono ?_
  generalize (w.alloc (.cells #[.slice none 0 0, .slice none 0 0, .slice none 0 0, .slice none 0 0, .slice none 0 0, .int .i64 0, .slice none 0 0, .slice none 0 0, .slice none 0 0, .slice none 0 0, .slice none 0 0, .int .i64 0, .string ⟨#[]⟩, .int .i64 0, .int .i64 0, .int .i64 0, .int .i64 0, .int .i64 0, .int .i64 0, .int .i64 0, .int .i64 0, .slice none 0 0, .slice none 0 0, .int .i64 0, .slice none 0 0, .slice none 0 0] 40)) = v0 at *
  rintro e v1 ⟨g, rfl, IT, Lv1⟩
  have m7 := Pk.kept Lv1 (Pk.lt_of m2) m2
  clear m2
  have L8 := Pk.join_below L4 Lv1
  clear L4
  have hs9 : v0.heap.size ≤ v1.heap.size := Lv1.size
  go_wp2_with fail
  refine (HTF.out _).mono ?_
  rintro e v2 ⟨d, rfl, IE, Lv2⟩
  have m10 := Pk.kept Lv2 (Pk.lt_of m7) m7
  clear m7
  have q11 := IT.on Lv2
  clear IT
  have L12 := Pk.join_below L8 Lv2
  clear L8
  have hs13 : v1.heap.size ≤ v2.heap.size := Lv2.size
  obtain ⟨b0, o0, d0, u0, e1, e2, hb, hd⟩ := HNE.out _ _ _ q11 IE
  simp only [Option.some.injEq, Addr.mk.injEq, and_true] at e1 e2
  obtain ⟨rfl, rfl⟩ := e1
  obtain ⟨rfl, rfl⟩ := e2
  go_wp2_with fail
  refine (HST.out _ _ _ hb hd q11 IE).mono ?_
  clear hb hd
  clear q11 IE
  rintro e v3 ⟨rfl, Lv3⟩
  have m14 := Pk.kept Lv3 (Pk.lt_of m10) m10
  clear m10
  have L15 := Pk.join_below L12 Lv3
  clear L12
  have hs16 : v2.heap.size ≤ v3.heap.size := Lv3.size
  have N17 := Pk.new_below v3 (.cells #[.slice none 0 0, .slice none 0 0, .slice none 0 0, .slice none 0 0, .slice none 0 0, .int .i64 0] 28)
  have m18 := Pk.heap_new v3 (.cells #[.slice none 0 0, .slice none 0 0, .slice none 0 0, .slice none 0 0, .slice none 0 0, .int .i64 0] 28)
  have m20 := Pk.kept N17 (Pk.lt_of m14) m14
  clear m14
  have L21 := Pk.join_below L15 N17
  clear L15
  have hs22 : v3.heap.size ≤ (v3.alloc (.cells #[.slice none 0 0, .slice none 0 0, .slice none 0 0, .slice none 0 0, .slice none 0 0, .int .i64 0] 28)).heap.size := N17.size
  have hs23 := Pk.lt_of m18
  have mS : ((v3.alloc (.cells #[.slice none 0 0, .slice none 0 0, .slice none 0 0, .slice none 0 0, .slice none 0 0, .int .i64 0] 28)).setRow w.heap.size #[.slice none 0 0, .slice none 0 0, .slice none 0 0, .slice none 0 0, .slice none 0 0, .int .i64 0, .slice none 0 0, .slice none 0 0, .slice none 0 0, .slice none 0 0, .slice none 0 0, .int .i64 0, .string ⟨#[]⟩, .int .i64 0, .int .i64 0, .int .i64 0, .int .i64 0, .int .i64 0, .int .i64 0, .int .i64 0, .int .i64 0, .slice none 0 0, .slice none 0 0, .int .i64 0, .slice none 0 0, .slice none 0 0]).heap[w.heap.size]? = some (.cells #[.slice none 0 0, .slice none 0 0, .slice none 0 0, .slice none 0 0, .slice none 0 0, .int .i64 0, .slice none 0 0, .slice none 0 0, .slice none 0 0, .slice none 0 0, .slice none 0 0, .int .i64 0, .string ⟨#[]⟩, .int .i64 0, .int .i64 0, .int .i64 0, .int .i64 0, .int .i64 0, .int .i64 0, .int .i64 0, .int .i64 0, .slice none 0 0, .slice none 0 0, .int .i64 0, .slice none 0 0, .slice none 0 0] 40) := setRow_heap _ _ _ _ _ _ m20
  go_wp2_with (refine wpList_store_row rfl 40 _ _ rfl w.heap.size #[.slice none 0 0, .slice none 0 0, .slice none 0 0, .slice none 0 0, .slice none 0 0, .int .i64 0, .slice none 0 0, .slice none 0 0, .slice none 0 0, .slice none 0 0, .slice none 0 0, .int .i64 0, .string ⟨#[]⟩, .int .i64 0, .int .i64 0, .int .i64 0, .int .i64 0, .int .i64 0, .int .i64 0, .int .i64 0, .int .i64 0, .slice none 0 0, .slice none 0 0, .int .i64 0, .slice none 0 0, .slice none 0 0] rfl rfl 40 #[.slice none 0 0, .slice none 0 0, .slice none 0 0, .slice none 0 0, .slice none 0 0, .int .i64 0, .slice none 0 0, .slice none 0 0, .slice none 0 0, .slice none 0 0, .slice none 0 0, .int .i64 0, .string ⟨#[]⟩, .int .i64 0, .int .i64 0, .int .i64 0, .int .i64 0, .int .i64 0, .int .i64 0, .int .i64 0, .int .i64 0, .slice none 0 0, .slice none 0 0, .int .i64 0, .slice none 0 0, .slice none 0 0] m20 (by kernel_rfl) (by kernel_rfl) (by kernel_rfl) ?_)
  refine bodyPost_ret (results_two (a := 2) (s := 3) (x := .bool false) Tryz.results5 rfl rfl (run_loadVar_row _ _ _ _ _ (0, 0) _ mS Tryz.underlying40 rfl (by kernel_rfl))) rfl ?_
  exact ⟨rfl, below_setRow L21 (Nat.le_refl _) _⟩

set_option maxRecDepth 100000 in
set_option maxHeartbeats 8000000 in
theorem implDesk_yes (td : Int) (wtd : (Lit.int .i64 td).wf = true) (w : World) (E1 : Errs.ErrAt 0 w) (E2 : Errs.ErrAt 1 w) (hB : startB dT dE td = true) :
    Calls Tryz.prog 5 #[.int .i64 td] w fun e w' => ∃ a2 c2 a3 c3 b2 d2 b3 d3 mid, e = .returned (.tuple #[.agg #[.slice a2 dT.length c2, .slice a3 dE.length c3, .slice none 0 0, .slice none 0 0, .slice none 0 0, .int .i64 td, .slice b2 dT.length d2, .slice b3 dE.length d3, .slice none 0 0, .slice none 0 0, .slice none 0 0, .int .i64 td, .string ⟨#[]⟩, .int .i64 0, .int .i64 dH.dv, .int .i64 dH.p, .int .i64 dH.q, .int .i64 dH.g, .int .i64 dH.op, .int .i64 dH.is, .int .i64 dH.ve, .slice Hn.noX.a dH.ol.length Hn.noX.c, .slice Hn.noX.b dH.sl.length Hn.noX.d, .int .i64 0, .slice none 0 0, .slice none 0 0], .bool true]) ∧ Sp w' w.heap.size mid a2 a3 dT dE ∧ (∃ hi, Sp w' mid hi b2 b3 dT dE) ∧ Below w.heap.size w w' := by
  obtain ⟨l1, l2, l3, l4, l5⟩ := d_len
  obtain ⟨hL, hS⟩ := d_lim td wtd
  have HLN : Hid (∀ W : World, _) := fun W => lines_val W
  have HTF : Hid (∀ W : World, _) := fun W => tariff_val W
  have HP : Hid (∀ W : World, _) := fun W => params_val W
  have HKY : Hid (∀ W : World, Below w.heap.size w W → _) := fun W K => Num.implOpenKey_val 240169 10007 205555 7 W (E1.on K) (E2.on K)
  have HHS : Hid (∀ W : World, _) := fun W => Hn.implStart_val 1 240169 10007 205555 (Num.keyI 240169 10007 205555 7) 80 W
  have HPL : Hid (∀ (b o d u c1 c2 : Nat) (W : World), b < W.heap.size → d < W.heap.size → Trains W (some ⟨b, o, none⟩) dT → Edges W (some ⟨d, u, none⟩) dE → _) := fun b o d u c1 c2 W h1 h2 I J => implPlat_val b o d u dT dE c1 c2 td W l1 l2 h1 h2 l3 I J hL hS hB
  have HRE : Hid (Hn.startO (Hn.startB 1 240169 10007 205555 (Num.keyI 240169 10007 205555 7) 80) 1 240169 10007 205555 (Num.keyI 240169 10007 205555 7) 80 = dH) := rfl
  generalize Hn.startO (Hn.startB 1 240169 10007 205555 (Num.keyI 240169 10007 205555 7) 80) 1 240169 10007 205555 (Num.keyI 240169 10007 205555 7) 80 = R at *
  generalize Hn.startB 1 240169 10007 205555 (Num.keyI 240169 10007 205555 7) 80 = hsb at *
  generalize Num.keyI 240169 10007 205555 7 = ky at *
  generalize Num.keyB 240169 10007 205555 7 = kb at *
  have HST : Hid (∀ (g d : Nat) (W : World), g < W.heap.size → d < W.heap.size → Trains W (some ⟨g, 0, none⟩) dT → Edges W (some ⟨d, 0, none⟩) dE → _) := fun g d W h1 h2 I J => Of.implStart_yes g 0 d 0 dT dE 2 4 td W l2 h1 h2 I J hB
  have HNE : Hid (∀ (W : World) (a c : Option Addr), Trains W a dT → Edges W c dE → ∃ b o d u, a = some ⟨b, o, none⟩ ∧ c = some ⟨d, u, none⟩ ∧ b < W.heap.size ∧ d < W.heap.size) := by
    intro W a c I J
    obtain ⟨b, o, rfl, hb, -⟩ := I.resolve_left l4
    obtain ⟨d, u, rfl, hd, -⟩ := J.resolve_left l5
    exact ⟨b, o, d, u, rfl, rfl, hb, hd⟩
  clear l1 l2 l3 l4 l5 hL hS hB wtd E1 E2
  have N1 := Pk.new_below w (.cells #[.slice none 0 0, .slice none 0 0, .slice none 0 0, .slice none 0 0, .slice none 0 0, .int .i64 0, .slice none 0 0, .slice none 0 0, .slice none 0 0, .slice none 0 0, .slice none 0 0, .int .i64 0, .string ⟨#[]⟩, .int .i64 0, .int .i64 0, .int .i64 0, .int .i64 0, .int .i64 0, .int .i64 0, .int .i64 0, .int .i64 0, .slice none 0 0, .slice none 0 0, .int .i64 0, .slice none 0 0, .slice none 0 0] 40)
  have m2 := Pk.heap_new w (.cells #[.slice none 0 0, .slice none 0 0, .slice none 0 0, .slice none 0 0, .slice none 0 0, .int .i64 0, .slice none 0 0, .slice none 0 0, .slice none 0 0, .slice none 0 0, .slice none 0 0, .int .i64 0, .string ⟨#[]⟩, .int .i64 0, .int .i64 0, .int .i64 0, .int .i64 0, .int .i64 0, .int .i64 0, .int .i64 0, .int .i64 0, .slice none 0 0, .slice none 0 0, .int .i64 0, .slice none 0 0, .slice none 0 0] 40)
  have L4 := N1
  have hs5 : w.heap.size ≤ (w.alloc (.cells #[.slice none 0 0, .slice none 0 0, .slice none 0 0, .slice none 0 0, .slice none 0 0, .int .i64 0, .slice none 0 0, .slice none 0 0, .slice none 0 0, .slice none 0 0, .slice none 0 0, .int .i64 0, .string ⟨#[]⟩, .int .i64 0, .int .i64 0, .int .i64 0, .int .i64 0, .int .i64 0, .int .i64 0, .int .i64 0, .int .i64 0, .slice none 0 0, .slice none 0 0, .int .i64 0, .slice none 0 0, .slice none 0 0] 40)).heap.size := N1.size
  have hs6 := Pk.lt_of m2
  go_enter Tryz.func5, Tryz.ntmps5
  go_wp2_with fail
  refine (HLN.out _).mono ?_
  generalize (w.alloc (.cells #[.slice none 0 0, .slice none 0 0, .slice none 0 0, .slice none 0 0, .slice none 0 0, .int .i64 0, .slice none 0 0, .slice none 0 0, .slice none 0 0, .slice none 0 0, .slice none 0 0, .int .i64 0, .string ⟨#[]⟩, .int .i64 0, .int .i64 0, .int .i64 0, .int .i64 0, .int .i64 0, .int .i64 0, .int .i64 0, .int .i64 0, .slice none 0 0, .slice none 0 0, .int .i64 0, .slice none 0 0, .slice none 0 0] 40)) = v0 at *
  rintro e v1 ⟨g, rfl, IT, Lv1⟩
  have m7 := Pk.kept Lv1 (Pk.lt_of m2) m2
  clear m2
  have L8 := Pk.join_below L4 Lv1
  clear L4
  have hs9 : v0.heap.size ≤ v1.heap.size := Lv1.size
  go_wp2_with fail
  refine (HTF.out _).mono ?_
  rintro e v2 ⟨d, rfl, IE, Lv2⟩
  have m10 := Pk.kept Lv2 (Pk.lt_of m7) m7
  clear m7
  have q11 := IT.on Lv2
  clear IT
  have L12 := Pk.join_below L8 Lv2
  clear L8
  have hs13 : v1.heap.size ≤ v2.heap.size := Lv2.size
  obtain ⟨b0, o0, d0, u0, e1, e2, hb, hd⟩ := HNE.out _ _ _ q11 IE
  simp only [Option.some.injEq, Addr.mk.injEq, and_true] at e1 e2
  obtain ⟨rfl, rfl⟩ := e1
  obtain ⟨rfl, rfl⟩ := e2
  go_wp2_with fail
  refine (HST.out _ _ _ hb hd q11 IE).mono ?_
  clear hb hd
  rintro e v3 ⟨a2, c2, a3, c3, rfl, SO, Lv3⟩
  clear q11 IE
  have m14 := Pk.kept Lv3 (Pk.lt_of m10) m10
  clear m10
  have L15 := Pk.join_below L12 Lv3
  clear L12
  have hs16 : v2.heap.size ≤ v3.heap.size := Lv3.size
  have JT := SO.trains.1
  have JE := SO.trains.2
  clear SO
  obtain ⟨b1, o1, d1, u1, rfl, rfl, hb, hd⟩ := HNE.out _ _ _ JT JE
  have N17 := Pk.new_below v3 (.cells #[.slice (some ⟨b1, o1, none⟩) dT.length c2, .slice (some ⟨d1, u1, none⟩) dE.length c3, .slice none 0 0, .slice none 0 0, .slice none 0 0, .int .i64 td] 28)
  have m18 := Pk.heap_new v3 (.cells #[.slice (some ⟨b1, o1, none⟩) dT.length c2, .slice (some ⟨d1, u1, none⟩) dE.length c3, .slice none 0 0, .slice none 0 0, .slice none 0 0, .int .i64 td] 28)
  have m20 := Pk.kept N17 (Pk.lt_of m14) m14
  clear m14
  have q21 := JT.on N17
  clear JT
  have q22 := JE.on N17
  clear JE
  have L23 := Pk.join_below L15 N17
  clear L15
  have hs24 : v3.heap.size ≤ (v3.alloc (.cells #[.slice (some ⟨b1, o1, none⟩) dT.length c2, .slice (some ⟨d1, u1, none⟩) dE.length c3, .slice none 0 0, .slice none 0 0, .slice none 0 0, .int .i64 td] 28)).heap.size := N17.size
  have hs25 := Pk.lt_of m18
  have c26 : (v3.alloc (.cells #[.slice (some ⟨b1, o1, none⟩) dT.length c2, .slice (some ⟨d1, u1, none⟩) dE.length c3, .slice none 0 0, .slice none 0 0, .slice none 0 0, .int .i64 td] 28)).cell? ⟨v3.heap.size, 0, none⟩ = some (.slice (some ⟨b1, o1, none⟩) dT.length c2) := Pk.cell_at m18 0
  have c27 : (v3.alloc (.cells #[.slice (some ⟨b1, o1, none⟩) dT.length c2, .slice (some ⟨d1, u1, none⟩) dE.length c3, .slice none 0 0, .slice none 0 0, .slice none 0 0, .int .i64 td] 28)).cell? ⟨v3.heap.size, 1, none⟩ = some (.slice (some ⟨d1, u1, none⟩) dE.length c3) := Pk.cell_at m18 1
  have c28 : (v3.alloc (.cells #[.slice (some ⟨b1, o1, none⟩) dT.length c2, .slice (some ⟨d1, u1, none⟩) dE.length c3, .slice none 0 0, .slice none 0 0, .slice none 0 0, .int .i64 td] 28)).cell? ⟨v3.heap.size, 2, none⟩ = some (.slice none 0 0) := Pk.cell_at m18 2
  have c29 : (v3.alloc (.cells #[.slice (some ⟨b1, o1, none⟩) dT.length c2, .slice (some ⟨d1, u1, none⟩) dE.length c3, .slice none 0 0, .slice none 0 0, .slice none 0 0, .int .i64 td] 28)).cell? ⟨v3.heap.size, 3, none⟩ = some (.slice none 0 0) := Pk.cell_at m18 3
  have c30 : (v3.alloc (.cells #[.slice (some ⟨b1, o1, none⟩) dT.length c2, .slice (some ⟨d1, u1, none⟩) dE.length c3, .slice none 0 0, .slice none 0 0, .slice none 0 0, .int .i64 td] 28)).cell? ⟨v3.heap.size, 4, none⟩ = some (.slice none 0 0) := Pk.cell_at m18 4
  have c31 : (v3.alloc (.cells #[.slice (some ⟨b1, o1, none⟩) dT.length c2, .slice (some ⟨d1, u1, none⟩) dE.length c3, .slice none 0 0, .slice none 0 0, .slice none 0 0, .int .i64 td] 28)).cell? ⟨v3.heap.size, 5, none⟩ = some (.int .i64 td) := Pk.cell_at m18 5
  go_wp2_with fail
  refine (HPL.out b1 o1 d1 u1 c2 c3 _ (by omega) (by omega) q21 q22).mono ?_
  clear c26 c27 c28 c29 c30 c31
  generalize (v3.alloc (.cells #[.slice (some ⟨b1, o1, none⟩) dT.length c2, .slice (some ⟨d1, u1, none⟩) dE.length c3, .slice none 0 0, .slice none 0 0, .slice none 0 0, .int .i64 td] 28)) = v4 at *
  rintro e v5 ⟨p2, k2, p3, k3, q2, n2, q3, n3, mid, rfl, T1, ⟨hi, T2⟩, Lv5⟩
  clear q21 q22
  have m32 := Pk.kept Lv5 (Pk.lt_of m20) m20
  clear m20
  have m33 := Pk.kept Lv5 (Pk.lt_of m18) m18
  clear m18
  have L34 := Pk.join_below L23 Lv5
  clear L23
  have hs35 : v4.heap.size ≤ v5.heap.size := Lv5.size
  have N36 := Pk.new_below v5 (.cells #[.slice p2 dT.length k2, .slice p3 dE.length k3, .slice none 0 0, .slice none 0 0, .slice none 0 0, .int .i64 td, .slice q2 dT.length n2, .slice q3 dE.length n3, .slice none 0 0, .slice none 0 0, .slice none 0 0, .int .i64 td, .string ⟨#[]⟩, .int .i64 0] 30)
  have m37 := Pk.heap_new v5 (.cells #[.slice p2 dT.length k2, .slice p3 dE.length k3, .slice none 0 0, .slice none 0 0, .slice none 0 0, .int .i64 td, .slice q2 dT.length n2, .slice q3 dE.length n3, .slice none 0 0, .slice none 0 0, .slice none 0 0, .int .i64 td, .string ⟨#[]⟩, .int .i64 0] 30)
  have m39 := Pk.kept N36 (Pk.lt_of m32) m32
  clear m32
  have q40 := T1.on N36
  clear T1
  have q41 := T2.on N36
  clear T2
  have L42 := Pk.join_below L34 N36
  clear L34
  have hs43 : v5.heap.size ≤ (v5.alloc (.cells #[.slice p2 dT.length k2, .slice p3 dE.length k3, .slice none 0 0, .slice none 0 0, .slice none 0 0, .int .i64 td, .slice q2 dT.length n2, .slice q3 dE.length n3, .slice none 0 0, .slice none 0 0, .slice none 0 0, .int .i64 td, .string ⟨#[]⟩, .int .i64 0] 30)).heap.size := N36.size
  have hs44 := Pk.lt_of m37
  go_wp2_with fail
  refine (HP.out _).mono ?_
  generalize (v5.alloc (.cells #[.slice p2 dT.length k2, .slice p3 dE.length k3, .slice none 0 0, .slice none 0 0, .slice none 0 0, .int .i64 td, .slice q2 dT.length n2, .slice q3 dE.length n3, .slice none 0 0, .slice none 0 0, .slice none 0 0, .int .i64 td, .string ⟨#[]⟩, .int .i64 0] 30)) = v6 at *
  rintro e v7 ⟨rfl, Lv7⟩
  have m45 := Pk.kept Lv7 (Pk.lt_of m39) m39
  clear m39
  have m46 := Pk.kept Lv7 (Pk.lt_of m37) m37
  clear m37
  have q47 := q40.on Lv7
  clear q40
  have q48 := q41.on Lv7
  clear q41
  have L49 := Pk.join_below L42 Lv7
  clear L42
  have hs50 : v6.heap.size ≤ v7.heap.size := Lv7.size
  go_wp2_with fail
  refine (HKY.out _ L49).mono ?_
  rintro e v8 ⟨rfl, Lv8⟩
  have m51 := Pk.kept Lv8 (Pk.lt_of m45) m45
  clear m45
  have m52 := Pk.kept Lv8 (Pk.lt_of m46) m46
  clear m46
  have q53 := q47.on Lv8
  clear q47
  have q54 := q48.on Lv8
  clear q48
  have L55 := Pk.join_below L49 Lv8
  clear L49
  have hs56 : v7.heap.size ≤ v8.heap.size := Lv8.size
  go_wp2_with fail
  refine (HP.out _).mono ?_
  rintro e v9 ⟨rfl, Lv9⟩
  have m57 := Pk.kept Lv9 (Pk.lt_of m51) m51
  clear m51
  have m58 := Pk.kept Lv9 (Pk.lt_of m52) m52
  clear m52
  have q59 := q53.on Lv9
  clear q53
  have q60 := q54.on Lv9
  clear q54
  have L61 := Pk.join_below L55 Lv9
  clear L55
  have hs62 : v8.heap.size ≤ v9.heap.size := Lv9.size
  go_wp2_with fail
  refine (HHS.out _).mono ?_
  rintro e v10 ⟨rfl, Lv10⟩
  have m63 := Pk.kept Lv10 (Pk.lt_of m57) m57
  clear m57
  have m64 := Pk.kept Lv10 (Pk.lt_of m58) m58
  clear m58
  have q65 := q59.on Lv10
  clear q59
  have q66 := q60.on Lv10
  clear q60
  have L67 := Pk.join_below L61 Lv10
  clear L61
  have hs68 : v9.heap.size ≤ v10.heap.size := Lv10.size
  have N69 := Pk.new_below v10 (Hn.hnB Hn.noX R 36)
  have m70 := Pk.heap_new v10 (Hn.hnB Hn.noX R 36)
  have m72 := Pk.kept N69 (Pk.lt_of m63) m63
  clear m63
  have m73 := Pk.kept N69 (Pk.lt_of m64) m64
  clear m64
  have q74 := q65.on N69
  clear q65
  have q75 := q66.on N69
  clear q66
  have L76 := Pk.join_below L67 N69
  clear L67
  have hs77 : v10.heap.size ≤ (v10.alloc (Hn.hnB Hn.noX R 36)).heap.size := N69.size
  have hs78 := Pk.lt_of m70
  have c79 : (v10.alloc (Hn.hnB Hn.noX R 36)).cell? ⟨v5.heap.size, 0, none⟩ = some (.slice p2 dT.length k2) := Pk.cell_at m73 0
  have c80 : (v10.alloc (Hn.hnB Hn.noX R 36)).cell? ⟨v5.heap.size, 1, none⟩ = some (.slice p3 dE.length k3) := Pk.cell_at m73 1
  have c81 : (v10.alloc (Hn.hnB Hn.noX R 36)).cell? ⟨v5.heap.size, 2, none⟩ = some (.slice none 0 0) := Pk.cell_at m73 2
  have c82 : (v10.alloc (Hn.hnB Hn.noX R 36)).cell? ⟨v5.heap.size, 3, none⟩ = some (.slice none 0 0) := Pk.cell_at m73 3
  have c83 : (v10.alloc (Hn.hnB Hn.noX R 36)).cell? ⟨v5.heap.size, 4, none⟩ = some (.slice none 0 0) := Pk.cell_at m73 4
  have c84 : (v10.alloc (Hn.hnB Hn.noX R 36)).cell? ⟨v5.heap.size, 5, none⟩ = some (.int .i64 td) := Pk.cell_at m73 5
  have c85 : (v10.alloc (Hn.hnB Hn.noX R 36)).cell? ⟨v5.heap.size, 6, none⟩ = some (.slice q2 dT.length n2) := Pk.cell_at m73 6
  have c86 : (v10.alloc (Hn.hnB Hn.noX R 36)).cell? ⟨v5.heap.size, 7, none⟩ = some (.slice q3 dE.length n3) := Pk.cell_at m73 7
  have c87 : (v10.alloc (Hn.hnB Hn.noX R 36)).cell? ⟨v5.heap.size, 8, none⟩ = some (.slice none 0 0) := Pk.cell_at m73 8
  have c88 : (v10.alloc (Hn.hnB Hn.noX R 36)).cell? ⟨v5.heap.size, 9, none⟩ = some (.slice none 0 0) := Pk.cell_at m73 9
  have c89 : (v10.alloc (Hn.hnB Hn.noX R 36)).cell? ⟨v5.heap.size, 10, none⟩ = some (.slice none 0 0) := Pk.cell_at m73 10
  have c90 : (v10.alloc (Hn.hnB Hn.noX R 36)).cell? ⟨v5.heap.size, 11, none⟩ = some (.int .i64 td) := Pk.cell_at m73 11
  have c91 : (v10.alloc (Hn.hnB Hn.noX R 36)).cell? ⟨v5.heap.size, 12, none⟩ = some (.string ⟨#[]⟩) := Pk.cell_at m73 12
  have c92 : (v10.alloc (Hn.hnB Hn.noX R 36)).cell? ⟨v5.heap.size, 13, none⟩ = some (.int .i64 0) := Pk.cell_at m73 13
  have c93 : (v10.alloc (Hn.hnB Hn.noX R 36)).cell? ⟨v10.heap.size, 0, none⟩ = some (.int .i64 R.dv) := Pk.cell_at m70 0
  have c94 : (v10.alloc (Hn.hnB Hn.noX R 36)).cell? ⟨v10.heap.size, 1, none⟩ = some (.int .i64 R.p) := Pk.cell_at m70 1
  have c95 : (v10.alloc (Hn.hnB Hn.noX R 36)).cell? ⟨v10.heap.size, 2, none⟩ = some (.int .i64 R.q) := Pk.cell_at m70 2
  have c96 : (v10.alloc (Hn.hnB Hn.noX R 36)).cell? ⟨v10.heap.size, 3, none⟩ = some (.int .i64 R.g) := Pk.cell_at m70 3
  have c97 : (v10.alloc (Hn.hnB Hn.noX R 36)).cell? ⟨v10.heap.size, 4, none⟩ = some (.int .i64 R.op) := Pk.cell_at m70 4
  have c98 : (v10.alloc (Hn.hnB Hn.noX R 36)).cell? ⟨v10.heap.size, 5, none⟩ = some (.int .i64 R.is) := Pk.cell_at m70 5
  have c99 : (v10.alloc (Hn.hnB Hn.noX R 36)).cell? ⟨v10.heap.size, 6, none⟩ = some (.int .i64 R.ve) := Pk.cell_at m70 6
  have c100 : (v10.alloc (Hn.hnB Hn.noX R 36)).cell? ⟨v10.heap.size, 7, none⟩ = some (.slice Hn.noX.a R.ol.length Hn.noX.c) := Pk.cell_at m70 7
  have c101 : (v10.alloc (Hn.hnB Hn.noX R 36)).cell? ⟨v10.heap.size, 8, none⟩ = some (.slice Hn.noX.b R.sl.length Hn.noX.d) := Pk.cell_at m70 8
  have mS : ((v10.alloc (Hn.hnB Hn.noX R 36)).setRow w.heap.size #[.slice p2 dT.length k2, .slice p3 dE.length k3, .slice none 0 0, .slice none 0 0, .slice none 0 0, .int .i64 td, .slice q2 dT.length n2, .slice q3 dE.length n3, .slice none 0 0, .slice none 0 0, .slice none 0 0, .int .i64 td, .string ⟨#[]⟩, .int .i64 0, .int .i64 R.dv, .int .i64 R.p, .int .i64 R.q, .int .i64 R.g, .int .i64 R.op, .int .i64 R.is, .int .i64 R.ve, .slice Hn.noX.a R.ol.length Hn.noX.c, .slice Hn.noX.b R.sl.length Hn.noX.d, .int .i64 0, .slice none 0 0, .slice none 0 0]).heap[w.heap.size]? = some (.cells #[.slice p2 dT.length k2, .slice p3 dE.length k3, .slice none 0 0, .slice none 0 0, .slice none 0 0, .int .i64 td, .slice q2 dT.length n2, .slice q3 dE.length n3, .slice none 0 0, .slice none 0 0, .slice none 0 0, .int .i64 td, .string ⟨#[]⟩, .int .i64 0, .int .i64 R.dv, .int .i64 R.p, .int .i64 R.q, .int .i64 R.g, .int .i64 R.op, .int .i64 R.is, .int .i64 R.ve, .slice Hn.noX.a R.ol.length Hn.noX.c, .slice Hn.noX.b R.sl.length Hn.noX.d, .int .i64 0, .slice none 0 0, .slice none 0 0] 40) := setRow_heap _ _ _ _ _ _ m72
  go_wp2_with (refine wpList_store_row rfl 40 _ _ rfl w.heap.size #[.slice p2 dT.length k2, .slice p3 dE.length k3, .slice none 0 0, .slice none 0 0, .slice none 0 0, .int .i64 td, .slice q2 dT.length n2, .slice q3 dE.length n3, .slice none 0 0, .slice none 0 0, .slice none 0 0, .int .i64 td, .string ⟨#[]⟩, .int .i64 0, .int .i64 R.dv, .int .i64 R.p, .int .i64 R.q, .int .i64 R.g, .int .i64 R.op, .int .i64 R.is, .int .i64 R.ve, .slice Hn.noX.a R.ol.length Hn.noX.c, .slice Hn.noX.b R.sl.length Hn.noX.d, .int .i64 0, .slice none 0 0, .slice none 0 0] rfl rfl 40 #[.slice none 0 0, .slice none 0 0, .slice none 0 0, .slice none 0 0, .slice none 0 0, .int .i64 0, .slice none 0 0, .slice none 0 0, .slice none 0 0, .slice none 0 0, .slice none 0 0, .int .i64 0, .string ⟨#[]⟩, .int .i64 0, .int .i64 0, .int .i64 0, .int .i64 0, .int .i64 0, .int .i64 0, .int .i64 0, .int .i64 0, .slice none 0 0, .slice none 0 0, .int .i64 0, .slice none 0 0, .slice none 0 0] m72 (by kernel_rfl) (by kernel_rfl) (by kernel_rfl) ?_)
  refine bodyPost_ret (results_two (a := 2) (s := 3) (x := .bool true) Tryz.results5 rfl rfl (run_loadVar_row _ _ _ _ _ (0, 0) _ mS Tryz.underlying40 rfl (by kernel_rfl))) rfl ?_
  have hmid := q74.le
  exact ⟨p2, k2, p3, k3, q2, n2, q3, n3, mid, by rw [HRE.out], (q74.kh (Kh.rowR (Kh.refl _ _) (by omega))).wide (by omega), ⟨hi, q75.kh (Kh.rowR (Kh.refl _ _) (by omega))⟩, below_setRow L76 (Nat.le_refl _) _⟩

end Dk
end Go.Proofs.YtmoinacceildcaaGreatDoor

/- DeskStart of the model. -/
namespace Go.Proofs.YtmoinacceildcaaGreatDoor
namespace Dk
open Go.ChangeShapes Go.WideShapes Go.ChangeAt Go.RowKit
open Pk (new_below join_below cell_at heap_new frozen_at lt_of kept heap_old info_of Room own_form)
open Of (Kp put6 put6_below St Et Lw opened_val closed_val copyS_val nil_row edges_cells snap snap_len snap_get snap_one snap_at own_g et_mk h_set h_other Offc Pl ofV In)
open Tn (Tr Trains)
open Tf (Ed Edges)
set_option linter.unusedSimpArgs false
set_option linter.unusedVariables false

open Of (Kh Lm offB Lim Small startB)

set_option maxRecDepth 100000 in
set_option maxHeartbeats 8000000 in
theorem specDesk_no (td : Int) (wtd : (Lit.int .i64 td).wf = true) (w : World) (hB : startB dT dE td = false) :
    Calls Tryz.prog 4 #[.int .i64 td] w fun e w' => e = .returned (.tuple #[.agg #[.slice none 0 0, .slice none 0 0, .slice none 0 0, .slice none 0 0, .slice none 0 0, .int .i64 0, .slice none 0 0, .slice none 0 0, .slice none 0 0, .slice none 0 0, .slice none 0 0, .int .i64 0, .string ⟨#[]⟩, .int .i64 0, .int .i64 0, .int .i64 0, .int .i64 0, .int .i64 0, .int .i64 0, .int .i64 0, .int .i64 0, .slice none 0 0, .slice none 0 0, .int .i64 0, .slice none 0 0, .slice none 0 0], .bool false]) ∧ Below w.heap.size w w' := by
  obtain ⟨l1, l2, l3, l4, l5⟩ := d_len
  obtain ⟨hL, hS⟩ := d_lim td wtd
  have HST : Hid (∀ (g d : Nat) (W : World), g < W.heap.size → d < W.heap.size → Trains W (some ⟨g, 0, none⟩) dT → Edges W (some ⟨d, 0, none⟩) dE → _) := fun g d W h1 h2 I J => Of.specStart_no g 0 d 0 dT dE 2 4 td W hL.ln hL.st hL.ta I J hB
  have HNE : Hid (∀ (W : World) (a c : Option Addr), Trains W a dT → Edges W c dE → ∃ b o d u, a = some ⟨b, o, none⟩ ∧ c = some ⟨d, u, none⟩ ∧ b < W.heap.size ∧ d < W.heap.size) := by
    intro W a c I J
    obtain ⟨b, o, rfl, hb, -⟩ := I.resolve_left l4
    obtain ⟨d, u, rfl, hd, -⟩ := J.resolve_left l5
    exact ⟨b, o, d, u, rfl, rfl, hb, hd⟩
  clear l1 l2 l3 l4 l5 hL hS hB wtd
  obtain ⟨j1, j2, j3, j4⟩ := five_blocks w (.cells #[.slice none 0 0, .slice none 0 0, .slice none 0 0, .slice none 0 0, .slice none 0 0, .int .i64 0, .slice none 0 0, .slice none 0 0, .slice none 0 0, .slice none 0 0, .slice none 0 0, .int .i64 0, .string ⟨#[]⟩, .int .i64 0, .int .i64 0, .int .i64 0, .int .i64 0, .int .i64 0, .int .i64 0, .int .i64 0, .int .i64 0, .slice none 0 0, .slice none 0 0, .int .i64 0, .slice none 0 0, .slice none 0 0] 40) (.cells #[.int .i64 1, .int .i64 60, .int .i64 60, .int .i64 2, .int .i64 100, .int .i64 105, .int .i64 3, .int .i64 200, .int .i64 200] 47) (.cells #[.int .i64 3, .int .i64 230, .int .i64 230, .int .i64 4, .int .i64 300, .int .i64 300] 47) (.cells #[.int .i64 10, .int .i64 127, .int .i64 1, .int .i64 2, .slice (some ⟨w.heap.size + 1, 0, none⟩) 3 3, .int .i64 20, .int .i64 127, .int .i64 0, .int .i64 0, .slice (some ⟨w.heap.size + 1 + 1, 0, none⟩) 2 2] 50) (.cells #[.int .i64 1, .int .i64 2, .int .i64 500, .int .i64 2, .int .i64 3, .int .i64 700, .int .i64 1, .int .i64 3, .int .i64 1100, .int .i64 3, .int .i64 4, .int .i64 250] 52)
  have IT := lit_trains j1 j2 j3
  have IE := lit_edges j4
  have hb := lt_of j3
  have hd := lt_of j4
  have jB : (((((w.alloc (.cells #[.slice none 0 0, .slice none 0 0, .slice none 0 0, .slice none 0 0, .slice none 0 0, .int .i64 0, .slice none 0 0, .slice none 0 0, .slice none 0 0, .slice none 0 0, .slice none 0 0, .int .i64 0, .string ⟨#[]⟩, .int .i64 0, .int .i64 0, .int .i64 0, .int .i64 0, .int .i64 0, .int .i64 0, .int .i64 0, .int .i64 0, .slice none 0 0, .slice none 0 0, .int .i64 0, .slice none 0 0, .slice none 0 0] 40)).alloc (.cells #[.int .i64 1, .int .i64 60, .int .i64 60, .int .i64 2, .int .i64 100, .int .i64 105, .int .i64 3, .int .i64 200, .int .i64 200] 47)).alloc (.cells #[.int .i64 3, .int .i64 230, .int .i64 230, .int .i64 4, .int .i64 300, .int .i64 300] 47)).alloc (.cells #[.int .i64 10, .int .i64 127, .int .i64 1, .int .i64 2, .slice (some ⟨w.heap.size + 1, 0, none⟩) 3 3, .int .i64 20, .int .i64 127, .int .i64 0, .int .i64 0, .slice (some ⟨w.heap.size + 1 + 1, 0, none⟩) 2 2] 50)).alloc (.cells #[.int .i64 1, .int .i64 2, .int .i64 500, .int .i64 2, .int .i64 3, .int .i64 700, .int .i64 1, .int .i64 3, .int .i64 1100, .int .i64 3, .int .i64 4, .int .i64 250] 52)).heap[w.heap.size]? = some (.cells #[.slice none 0 0, .slice none 0 0, .slice none 0 0, .slice none 0 0, .slice none 0 0, .int .i64 0, .slice none 0 0, .slice none 0 0, .slice none 0 0, .slice none 0 0, .slice none 0 0, .int .i64 0, .string ⟨#[]⟩, .int .i64 0, .int .i64 0, .int .i64 0, .int .i64 0, .int .i64 0, .int .i64 0, .int .i64 0, .int .i64 0, .slice none 0 0, .slice none 0 0, .int .i64 0, .slice none 0 0, .slice none 0 0] 40) := heap_old (heap_old (heap_old (heap_old (heap_new w (.cells #[.slice none 0 0, .slice none 0 0, .slice none 0 0, .slice none 0 0, .slice none 0 0, .int .i64 0, .slice none 0 0, .slice none 0 0, .slice none 0 0, .slice none 0 0, .slice none 0 0, .int .i64 0, .string ⟨#[]⟩, .int .i64 0, .int .i64 0, .int .i64 0, .int .i64 0, .int .i64 0, .int .i64 0, .int .i64 0, .int .i64 0, .slice none 0 0, .slice none 0 0, .int .i64 0, .slice none 0 0, .slice none 0 0] 40)) _) _) _) _
  have L0 : Below w.heap.size w (((((w.alloc (.cells #[.slice none 0 0, .slice none 0 0, .slice none 0 0, .slice none 0 0, .slice none 0 0, .int .i64 0, .slice none 0 0, .slice none 0 0, .slice none 0 0, .slice none 0 0, .slice none 0 0, .int .i64 0, .string ⟨#[]⟩, .int .i64 0, .int .i64 0, .int .i64 0, .int .i64 0, .int .i64 0, .int .i64 0, .int .i64 0, .int .i64 0, .slice none 0 0, .slice none 0 0, .int .i64 0, .slice none 0 0, .slice none 0 0] 40)).alloc (.cells #[.int .i64 1, .int .i64 60, .int .i64 60, .int .i64 2, .int .i64 100, .int .i64 105, .int .i64 3, .int .i64 200, .int .i64 200] 47)).alloc (.cells #[.int .i64 3, .int .i64 230, .int .i64 230, .int .i64 4, .int .i64 300, .int .i64 300] 47)).alloc (.cells #[.int .i64 10, .int .i64 127, .int .i64 1, .int .i64 2, .slice (some ⟨w.heap.size + 1, 0, none⟩) 3 3, .int .i64 20, .int .i64 127, .int .i64 0, .int .i64 0, .slice (some ⟨w.heap.size + 1 + 1, 0, none⟩) 2 2] 50)).alloc (.cells #[.int .i64 1, .int .i64 2, .int .i64 500, .int .i64 2, .int .i64 3, .int .i64 700, .int .i64 1, .int .i64 3, .int .i64 1100, .int .i64 3, .int .i64 4, .int .i64 250] 52)) := join_below (join_below (join_below (join_below (new_below _ _) (new_below _ _)) (new_below _ _)) (new_below _ _)) (new_below _ _)
  have hlB := lt_of jB
  clear j1 j2 j3 j4
  go_enter Tryz.func4, Tryz.ntmps4
  go_wp2_with fail
  refine (HST.out _ _ _ hb hd IT IE).mono ?_
  generalize (((((w.alloc (.cells #[.slice none 0 0, .slice none 0 0, .slice none 0 0, .slice none 0 0, .slice none 0 0, .int .i64 0, .slice none 0 0, .slice none 0 0, .slice none 0 0, .slice none 0 0, .slice none 0 0, .int .i64 0, .string ⟨#[]⟩, .int .i64 0, .int .i64 0, .int .i64 0, .int .i64 0, .int .i64 0, .int .i64 0, .int .i64 0, .int .i64 0, .slice none 0 0, .slice none 0 0, .int .i64 0, .slice none 0 0, .slice none 0 0] 40)).alloc (.cells #[.int .i64 1, .int .i64 60, .int .i64 60, .int .i64 2, .int .i64 100, .int .i64 105, .int .i64 3, .int .i64 200, .int .i64 200] 47)).alloc (.cells #[.int .i64 3, .int .i64 230, .int .i64 230, .int .i64 4, .int .i64 300, .int .i64 300] 47)).alloc (.cells #[.int .i64 10, .int .i64 127, .int .i64 1, .int .i64 2, .slice (some ⟨w.heap.size + 1, 0, none⟩) 3 3, .int .i64 20, .int .i64 127, .int .i64 0, .int .i64 0, .slice (some ⟨w.heap.size + 1 + 1, 0, none⟩) 2 2] 50)).alloc (.cells #[.int .i64 1, .int .i64 2, .int .i64 500, .int .i64 2, .int .i64 3, .int .i64 700, .int .i64 1, .int .i64 3, .int .i64 1100, .int .i64 3, .int .i64 4, .int .i64 250] 52)) = v2 at *
  clear hb hd
  clear IT IE
  rintro e v3 ⟨rfl, Lv3⟩
  have m1 := Pk.kept Lv3 (Pk.lt_of jB) jB
  clear jB
  have L2 := Pk.join_below L0 Lv3
  clear L0
  have hs3 : v2.heap.size ≤ v3.heap.size := Lv3.size
  have N4 := Pk.new_below v3 (.cells #[.slice none 0 0, .slice none 0 0, .slice none 0 0, .slice none 0 0, .slice none 0 0, .int .i64 0] 28)
  have m5 := Pk.heap_new v3 (.cells #[.slice none 0 0, .slice none 0 0, .slice none 0 0, .slice none 0 0, .slice none 0 0, .int .i64 0] 28)
  have m7 := Pk.kept N4 (Pk.lt_of m1) m1
  clear m1
  have L8 := Pk.join_below L2 N4
  clear L2
  have hs9 : v3.heap.size ≤ (v3.alloc (.cells #[.slice none 0 0, .slice none 0 0, .slice none 0 0, .slice none 0 0, .slice none 0 0, .int .i64 0] 28)).heap.size := N4.size
  have hs10 := Pk.lt_of m5
  have mS : ((v3.alloc (.cells #[.slice none 0 0, .slice none 0 0, .slice none 0 0, .slice none 0 0, .slice none 0 0, .int .i64 0] 28)).setRow w.heap.size #[.slice none 0 0, .slice none 0 0, .slice none 0 0, .slice none 0 0, .slice none 0 0, .int .i64 0, .slice none 0 0, .slice none 0 0, .slice none 0 0, .slice none 0 0, .slice none 0 0, .int .i64 0, .string ⟨#[]⟩, .int .i64 0, .int .i64 0, .int .i64 0, .int .i64 0, .int .i64 0, .int .i64 0, .int .i64 0, .int .i64 0, .slice none 0 0, .slice none 0 0, .int .i64 0, .slice none 0 0, .slice none 0 0]).heap[w.heap.size]? = some (.cells #[.slice none 0 0, .slice none 0 0, .slice none 0 0, .slice none 0 0, .slice none 0 0, .int .i64 0, .slice none 0 0, .slice none 0 0, .slice none 0 0, .slice none 0 0, .slice none 0 0, .int .i64 0, .string ⟨#[]⟩, .int .i64 0, .int .i64 0, .int .i64 0, .int .i64 0, .int .i64 0, .int .i64 0, .int .i64 0, .int .i64 0, .slice none 0 0, .slice none 0 0, .int .i64 0, .slice none 0 0, .slice none 0 0] 40) := setRow_heap _ _ _ _ _ _ m7
  go_wp2_with (refine wpList_store_row rfl 40 _ _ rfl w.heap.size #[.slice none 0 0, .slice none 0 0, .slice none 0 0, .slice none 0 0, .slice none 0 0, .int .i64 0, .slice none 0 0, .slice none 0 0, .slice none 0 0, .slice none 0 0, .slice none 0 0, .int .i64 0, .string ⟨#[]⟩, .int .i64 0, .int .i64 0, .int .i64 0, .int .i64 0, .int .i64 0, .int .i64 0, .int .i64 0, .int .i64 0, .slice none 0 0, .slice none 0 0, .int .i64 0, .slice none 0 0, .slice none 0 0] rfl rfl 40 #[.slice none 0 0, .slice none 0 0, .slice none 0 0, .slice none 0 0, .slice none 0 0, .int .i64 0, .slice none 0 0, .slice none 0 0, .slice none 0 0, .slice none 0 0, .slice none 0 0, .int .i64 0, .string ⟨#[]⟩, .int .i64 0, .int .i64 0, .int .i64 0, .int .i64 0, .int .i64 0, .int .i64 0, .int .i64 0, .int .i64 0, .slice none 0 0, .slice none 0 0, .int .i64 0, .slice none 0 0, .slice none 0 0] m7 (by kernel_rfl) (by kernel_rfl) (by kernel_rfl) ?_)
  refine bodyPost_ret (results_two (a := 2) (s := 3) (x := .bool false) Tryz.results4 rfl rfl (run_loadVar_row _ _ _ _ _ (0, 0) _ mS Tryz.underlying40 rfl (by kernel_rfl))) rfl ?_
  exact ⟨rfl, below_setRow L8 (Nat.le_refl _) _⟩

set_option maxRecDepth 100000 in
set_option maxHeartbeats 8000000 in
theorem specDesk_yes (td : Int) (wtd : (Lit.int .i64 td).wf = true) (w : World) (hB : startB dT dE td = true) :
    Calls Tryz.prog 4 #[.int .i64 td] w fun e w' => ∃ x y : Pl, e = .returned (.tuple #[.agg #[.slice x.a0 dT.length x.c0, .slice x.a1 dE.length x.c1, .slice x.a2 0 x.c2, .slice x.a3 0 x.c3, .slice x.a4 0 x.c4, .int .i64 td, .slice y.a0 dT.length y.c0, .slice y.a1 dE.length y.c1, .slice y.a2 0 y.c2, .slice y.a3 0 y.c3, .slice y.a4 0 y.c4, .int .i64 td, .string ⟨#[]⟩, .int .i64 0, .int .i64 dH.dv, .int .i64 dH.p, .int .i64 dH.q, .int .i64 dH.g, .int .i64 dH.op, .int .i64 dH.is, .int .i64 dH.ve, .slice Hn.noX.a dH.ol.length Hn.noX.c, .slice Hn.noX.b dH.sl.length Hn.noX.d, .int .i64 0, .slice none 0 0, .slice none 0 0], .bool true]) ∧ InK w.heap.size w' x ⟨dT, dE, [], [], [], td⟩ ∧ InK w.heap.size w' y ⟨dT, dE, [], [], [], td⟩ ∧ Below w.heap.size w w' := by
  obtain ⟨l1, l2, l3, l4, l5⟩ := d_len
  obtain ⟨hL, hS⟩ := d_lim td wtd
  have HP : Hid (∀ W : World, _) := fun W => keys_val W
  have HKY : Hid (∀ W : World, _) := fun W => Num.specOpenKey_val 240169 10007 205555 7 W
  have HHS : Hid (∀ W : World, _) := fun W => Hn.specStart_val 1 240169 10007 205555 (Num.keyI 240169 10007 205555 7) 80 W
  have HPL : Hid (∀ (b o d u c1 c2 : Nat) (W : World), b < W.heap.size → d < W.heap.size → Trains W (some ⟨b, o, none⟩) dT → Edges W (some ⟨d, u, none⟩) dE → _) := fun b o d u c1 c2 W h1 h2 I J => specPlat_val b o d u dT dE c1 c2 td W l1 l2 h1 h2 l3 I J hL hS hB
  have HRE : Hid (Hn.startO (Hn.startB 1 240169 10007 205555 (Num.keyI 240169 10007 205555 7) 80) 1 240169 10007 205555 (Num.keyI 240169 10007 205555 7) 80 = dH) := rfl
  generalize Hn.startO (Hn.startB 1 240169 10007 205555 (Num.keyI 240169 10007 205555 7) 80) 1 240169 10007 205555 (Num.keyI 240169 10007 205555 7) 80 = R at *
  generalize Hn.startB 1 240169 10007 205555 (Num.keyI 240169 10007 205555 7) 80 = hsb at *
  generalize Num.keyI 240169 10007 205555 7 = ky at *
  generalize Num.keyB 240169 10007 205555 7 = kb at *
  have HST : Hid (∀ (g d : Nat) (W : World), g < W.heap.size → d < W.heap.size → Trains W (some ⟨g, 0, none⟩) dT → Edges W (some ⟨d, 0, none⟩) dE → _) := fun g d W h1 h2 I J => Of.specStart_yes g 0 d 0 dT dE 2 4 td W l2 h2 I J hB
  have HNE : Hid (∀ (W : World) (a c : Option Addr), Trains W a dT → Edges W c dE → ∃ b o d u, a = some ⟨b, o, none⟩ ∧ c = some ⟨d, u, none⟩ ∧ b < W.heap.size ∧ d < W.heap.size) := by
    intro W a c I J
    obtain ⟨b, o, rfl, hb, -⟩ := I.resolve_left l4
    obtain ⟨d, u, rfl, hd, -⟩ := J.resolve_left l5
    exact ⟨b, o, d, u, rfl, rfl, hb, hd⟩
  clear l1 l2 l3 l4 l5 hL hS hB wtd
  obtain ⟨j1, j2, j3, j4⟩ := five_blocks w (.cells #[.slice none 0 0, .slice none 0 0, .slice none 0 0, .slice none 0 0, .slice none 0 0, .int .i64 0, .slice none 0 0, .slice none 0 0, .slice none 0 0, .slice none 0 0, .slice none 0 0, .int .i64 0, .string ⟨#[]⟩, .int .i64 0, .int .i64 0, .int .i64 0, .int .i64 0, .int .i64 0, .int .i64 0, .int .i64 0, .int .i64 0, .slice none 0 0, .slice none 0 0, .int .i64 0, .slice none 0 0, .slice none 0 0] 40) (.cells #[.int .i64 1, .int .i64 60, .int .i64 60, .int .i64 2, .int .i64 100, .int .i64 105, .int .i64 3, .int .i64 200, .int .i64 200] 47) (.cells #[.int .i64 3, .int .i64 230, .int .i64 230, .int .i64 4, .int .i64 300, .int .i64 300] 47) (.cells #[.int .i64 10, .int .i64 127, .int .i64 1, .int .i64 2, .slice (some ⟨w.heap.size + 1, 0, none⟩) 3 3, .int .i64 20, .int .i64 127, .int .i64 0, .int .i64 0, .slice (some ⟨w.heap.size + 1 + 1, 0, none⟩) 2 2] 50) (.cells #[.int .i64 1, .int .i64 2, .int .i64 500, .int .i64 2, .int .i64 3, .int .i64 700, .int .i64 1, .int .i64 3, .int .i64 1100, .int .i64 3, .int .i64 4, .int .i64 250] 52)
  have IT := lit_trains j1 j2 j3
  have IE := lit_edges j4
  have hb := lt_of j3
  have hd := lt_of j4
  have jB : (((((w.alloc (.cells #[.slice none 0 0, .slice none 0 0, .slice none 0 0, .slice none 0 0, .slice none 0 0, .int .i64 0, .slice none 0 0, .slice none 0 0, .slice none 0 0, .slice none 0 0, .slice none 0 0, .int .i64 0, .string ⟨#[]⟩, .int .i64 0, .int .i64 0, .int .i64 0, .int .i64 0, .int .i64 0, .int .i64 0, .int .i64 0, .int .i64 0, .slice none 0 0, .slice none 0 0, .int .i64 0, .slice none 0 0, .slice none 0 0] 40)).alloc (.cells #[.int .i64 1, .int .i64 60, .int .i64 60, .int .i64 2, .int .i64 100, .int .i64 105, .int .i64 3, .int .i64 200, .int .i64 200] 47)).alloc (.cells #[.int .i64 3, .int .i64 230, .int .i64 230, .int .i64 4, .int .i64 300, .int .i64 300] 47)).alloc (.cells #[.int .i64 10, .int .i64 127, .int .i64 1, .int .i64 2, .slice (some ⟨w.heap.size + 1, 0, none⟩) 3 3, .int .i64 20, .int .i64 127, .int .i64 0, .int .i64 0, .slice (some ⟨w.heap.size + 1 + 1, 0, none⟩) 2 2] 50)).alloc (.cells #[.int .i64 1, .int .i64 2, .int .i64 500, .int .i64 2, .int .i64 3, .int .i64 700, .int .i64 1, .int .i64 3, .int .i64 1100, .int .i64 3, .int .i64 4, .int .i64 250] 52)).heap[w.heap.size]? = some (.cells #[.slice none 0 0, .slice none 0 0, .slice none 0 0, .slice none 0 0, .slice none 0 0, .int .i64 0, .slice none 0 0, .slice none 0 0, .slice none 0 0, .slice none 0 0, .slice none 0 0, .int .i64 0, .string ⟨#[]⟩, .int .i64 0, .int .i64 0, .int .i64 0, .int .i64 0, .int .i64 0, .int .i64 0, .int .i64 0, .int .i64 0, .slice none 0 0, .slice none 0 0, .int .i64 0, .slice none 0 0, .slice none 0 0] 40) := heap_old (heap_old (heap_old (heap_old (heap_new w (.cells #[.slice none 0 0, .slice none 0 0, .slice none 0 0, .slice none 0 0, .slice none 0 0, .int .i64 0, .slice none 0 0, .slice none 0 0, .slice none 0 0, .slice none 0 0, .slice none 0 0, .int .i64 0, .string ⟨#[]⟩, .int .i64 0, .int .i64 0, .int .i64 0, .int .i64 0, .int .i64 0, .int .i64 0, .int .i64 0, .int .i64 0, .slice none 0 0, .slice none 0 0, .int .i64 0, .slice none 0 0, .slice none 0 0] 40)) _) _) _) _
  have L0 : Below w.heap.size w (((((w.alloc (.cells #[.slice none 0 0, .slice none 0 0, .slice none 0 0, .slice none 0 0, .slice none 0 0, .int .i64 0, .slice none 0 0, .slice none 0 0, .slice none 0 0, .slice none 0 0, .slice none 0 0, .int .i64 0, .string ⟨#[]⟩, .int .i64 0, .int .i64 0, .int .i64 0, .int .i64 0, .int .i64 0, .int .i64 0, .int .i64 0, .int .i64 0, .slice none 0 0, .slice none 0 0, .int .i64 0, .slice none 0 0, .slice none 0 0] 40)).alloc (.cells #[.int .i64 1, .int .i64 60, .int .i64 60, .int .i64 2, .int .i64 100, .int .i64 105, .int .i64 3, .int .i64 200, .int .i64 200] 47)).alloc (.cells #[.int .i64 3, .int .i64 230, .int .i64 230, .int .i64 4, .int .i64 300, .int .i64 300] 47)).alloc (.cells #[.int .i64 10, .int .i64 127, .int .i64 1, .int .i64 2, .slice (some ⟨w.heap.size + 1, 0, none⟩) 3 3, .int .i64 20, .int .i64 127, .int .i64 0, .int .i64 0, .slice (some ⟨w.heap.size + 1 + 1, 0, none⟩) 2 2] 50)).alloc (.cells #[.int .i64 1, .int .i64 2, .int .i64 500, .int .i64 2, .int .i64 3, .int .i64 700, .int .i64 1, .int .i64 3, .int .i64 1100, .int .i64 3, .int .i64 4, .int .i64 250] 52)) := join_below (join_below (join_below (join_below (new_below _ _) (new_below _ _)) (new_below _ _)) (new_below _ _)) (new_below _ _)
  have hlB := lt_of jB
  clear j1 j2 j3 j4
  go_enter Tryz.func4, Tryz.ntmps4
  go_wp2_with fail
  refine (HST.out _ _ _ hb hd IT IE).mono ?_
  generalize (((((w.alloc (.cells #[.slice none 0 0, .slice none 0 0, .slice none 0 0, .slice none 0 0, .slice none 0 0, .int .i64 0, .slice none 0 0, .slice none 0 0, .slice none 0 0, .slice none 0 0, .slice none 0 0, .int .i64 0, .string ⟨#[]⟩, .int .i64 0, .int .i64 0, .int .i64 0, .int .i64 0, .int .i64 0, .int .i64 0, .int .i64 0, .int .i64 0, .slice none 0 0, .slice none 0 0, .int .i64 0, .slice none 0 0, .slice none 0 0] 40)).alloc (.cells #[.int .i64 1, .int .i64 60, .int .i64 60, .int .i64 2, .int .i64 100, .int .i64 105, .int .i64 3, .int .i64 200, .int .i64 200] 47)).alloc (.cells #[.int .i64 3, .int .i64 230, .int .i64 230, .int .i64 4, .int .i64 300, .int .i64 300] 47)).alloc (.cells #[.int .i64 10, .int .i64 127, .int .i64 1, .int .i64 2, .slice (some ⟨w.heap.size + 1, 0, none⟩) 3 3, .int .i64 20, .int .i64 127, .int .i64 0, .int .i64 0, .slice (some ⟨w.heap.size + 1 + 1, 0, none⟩) 2 2] 50)).alloc (.cells #[.int .i64 1, .int .i64 2, .int .i64 500, .int .i64 2, .int .i64 3, .int .i64 700, .int .i64 1, .int .i64 3, .int .i64 1100, .int .i64 3, .int .i64 4, .int .i64 250] 52)) = v2 at *
  clear hb hd
  rintro e v3 ⟨a2, c2, a3, c3, rfl, JT, JE, Lv3⟩
  clear IT IE
  have m1 := Pk.kept Lv3 (Pk.lt_of jB) jB
  clear jB
  have L2 := Pk.join_below L0 Lv3
  clear L0
  have hs3 : v2.heap.size ≤ v3.heap.size := Lv3.size
  obtain ⟨b1, o1, d1, u1, rfl, rfl, hb, hd⟩ := HNE.out _ _ _ JT JE
  have N4 := Pk.new_below v3 (.cells #[.slice (some ⟨b1, o1, none⟩) dT.length c2, .slice (some ⟨d1, u1, none⟩) dE.length c3, .slice none 0 0, .slice none 0 0, .slice none 0 0, .int .i64 td] 28)
  have m5 := Pk.heap_new v3 (.cells #[.slice (some ⟨b1, o1, none⟩) dT.length c2, .slice (some ⟨d1, u1, none⟩) dE.length c3, .slice none 0 0, .slice none 0 0, .slice none 0 0, .int .i64 td] 28)
  have m7 := Pk.kept N4 (Pk.lt_of m1) m1
  clear m1
  have q8 := JT.on N4
  clear JT
  have q9 := JE.on N4
  clear JE
  have L10 := Pk.join_below L2 N4
  clear L2
  have hs11 : v3.heap.size ≤ (v3.alloc (.cells #[.slice (some ⟨b1, o1, none⟩) dT.length c2, .slice (some ⟨d1, u1, none⟩) dE.length c3, .slice none 0 0, .slice none 0 0, .slice none 0 0, .int .i64 td] 28)).heap.size := N4.size
  have hs12 := Pk.lt_of m5
  have c13 : (v3.alloc (.cells #[.slice (some ⟨b1, o1, none⟩) dT.length c2, .slice (some ⟨d1, u1, none⟩) dE.length c3, .slice none 0 0, .slice none 0 0, .slice none 0 0, .int .i64 td] 28)).cell? ⟨v3.heap.size, 0, none⟩ = some (.slice (some ⟨b1, o1, none⟩) dT.length c2) := Pk.cell_at m5 0
  have c14 : (v3.alloc (.cells #[.slice (some ⟨b1, o1, none⟩) dT.length c2, .slice (some ⟨d1, u1, none⟩) dE.length c3, .slice none 0 0, .slice none 0 0, .slice none 0 0, .int .i64 td] 28)).cell? ⟨v3.heap.size, 1, none⟩ = some (.slice (some ⟨d1, u1, none⟩) dE.length c3) := Pk.cell_at m5 1
  have c15 : (v3.alloc (.cells #[.slice (some ⟨b1, o1, none⟩) dT.length c2, .slice (some ⟨d1, u1, none⟩) dE.length c3, .slice none 0 0, .slice none 0 0, .slice none 0 0, .int .i64 td] 28)).cell? ⟨v3.heap.size, 2, none⟩ = some (.slice none 0 0) := Pk.cell_at m5 2
  have c16 : (v3.alloc (.cells #[.slice (some ⟨b1, o1, none⟩) dT.length c2, .slice (some ⟨d1, u1, none⟩) dE.length c3, .slice none 0 0, .slice none 0 0, .slice none 0 0, .int .i64 td] 28)).cell? ⟨v3.heap.size, 3, none⟩ = some (.slice none 0 0) := Pk.cell_at m5 3
  have c17 : (v3.alloc (.cells #[.slice (some ⟨b1, o1, none⟩) dT.length c2, .slice (some ⟨d1, u1, none⟩) dE.length c3, .slice none 0 0, .slice none 0 0, .slice none 0 0, .int .i64 td] 28)).cell? ⟨v3.heap.size, 4, none⟩ = some (.slice none 0 0) := Pk.cell_at m5 4
  have c18 : (v3.alloc (.cells #[.slice (some ⟨b1, o1, none⟩) dT.length c2, .slice (some ⟨d1, u1, none⟩) dE.length c3, .slice none 0 0, .slice none 0 0, .slice none 0 0, .int .i64 td] 28)).cell? ⟨v3.heap.size, 5, none⟩ = some (.int .i64 td) := Pk.cell_at m5 5
  go_wp2_with fail
  refine (HPL.out b1 o1 d1 u1 c2 c3 _ (by omega) (by omega) q8 q9).mono ?_
  clear c13 c14 c15 c16 c17 c18
  generalize (v3.alloc (.cells #[.slice (some ⟨b1, o1, none⟩) dT.length c2, .slice (some ⟨d1, u1, none⟩) dE.length c3, .slice none 0 0, .slice none 0 0, .slice none 0 0, .int .i64 td] 28)) = v4 at *
  rintro e v5 ⟨x, y, rfl, T1, T2, Lv5⟩
  clear q8 q9
  have m19 := Pk.kept Lv5 (Pk.lt_of m7) m7
  clear m7
  have m20 := Pk.kept Lv5 (Pk.lt_of m5) m5
  clear m5
  have L21 := Pk.join_below L10 Lv5
  clear L10
  have hs22 : v4.heap.size ≤ v5.heap.size := Lv5.size
  have N23 := Pk.new_below v5 (.cells #[.slice x.a0 dT.length x.c0, .slice x.a1 dE.length x.c1, .slice x.a2 0 x.c2, .slice x.a3 0 x.c3, .slice x.a4 0 x.c4, .int .i64 td, .slice y.a0 dT.length y.c0, .slice y.a1 dE.length y.c1, .slice y.a2 0 y.c2, .slice y.a3 0 y.c3, .slice y.a4 0 y.c4, .int .i64 td, .string ⟨#[]⟩, .int .i64 0] 30)
  have m24 := Pk.heap_new v5 (.cells #[.slice x.a0 dT.length x.c0, .slice x.a1 dE.length x.c1, .slice x.a2 0 x.c2, .slice x.a3 0 x.c3, .slice x.a4 0 x.c4, .int .i64 td, .slice y.a0 dT.length y.c0, .slice y.a1 dE.length y.c1, .slice y.a2 0 y.c2, .slice y.a3 0 y.c3, .slice y.a4 0 y.c4, .int .i64 td, .string ⟨#[]⟩, .int .i64 0] 30)
  have m26 := Pk.kept N23 (Pk.lt_of m19) m19
  clear m19
  have q27 := T1.on N23
  clear T1
  have q28 := T2.on N23
  clear T2
  have L29 := Pk.join_below L21 N23
  clear L21
  have hs30 : v5.heap.size ≤ (v5.alloc (.cells #[.slice x.a0 dT.length x.c0, .slice x.a1 dE.length x.c1, .slice x.a2 0 x.c2, .slice x.a3 0 x.c3, .slice x.a4 0 x.c4, .int .i64 td, .slice y.a0 dT.length y.c0, .slice y.a1 dE.length y.c1, .slice y.a2 0 y.c2, .slice y.a3 0 y.c3, .slice y.a4 0 y.c4, .int .i64 td, .string ⟨#[]⟩, .int .i64 0] 30)).heap.size := N23.size
  have hs31 := Pk.lt_of m24
  go_wp2_with fail
  refine (HP.out _).mono ?_
  generalize (v5.alloc (.cells #[.slice x.a0 dT.length x.c0, .slice x.a1 dE.length x.c1, .slice x.a2 0 x.c2, .slice x.a3 0 x.c3, .slice x.a4 0 x.c4, .int .i64 td, .slice y.a0 dT.length y.c0, .slice y.a1 dE.length y.c1, .slice y.a2 0 y.c2, .slice y.a3 0 y.c3, .slice y.a4 0 y.c4, .int .i64 td, .string ⟨#[]⟩, .int .i64 0] 30)) = v6 at *
  rintro e v7 ⟨rfl, Lv7⟩
  have m32 := Pk.kept Lv7 (Pk.lt_of m26) m26
  clear m26
  have m33 := Pk.kept Lv7 (Pk.lt_of m24) m24
  clear m24
  have q34 := q27.on Lv7
  clear q27
  have q35 := q28.on Lv7
  clear q28
  have L36 := Pk.join_below L29 Lv7
  clear L29
  have hs37 : v6.heap.size ≤ v7.heap.size := Lv7.size
  go_wp2_with fail
  refine (HKY.out _).mono ?_
  rintro e v8 ⟨rfl, Lv8⟩
  have m38 := Pk.kept Lv8 (Pk.lt_of m32) m32
  clear m32
  have m39 := Pk.kept Lv8 (Pk.lt_of m33) m33
  clear m33
  have q40 := q34.on Lv8
  clear q34
  have q41 := q35.on Lv8
  clear q35
  have L42 := Pk.join_below L36 Lv8
  clear L36
  have hs43 : v7.heap.size ≤ v8.heap.size := Lv8.size
  go_wp2_with fail
  refine (HP.out _).mono ?_
  rintro e v9 ⟨rfl, Lv9⟩
  have m44 := Pk.kept Lv9 (Pk.lt_of m38) m38
  clear m38
  have m45 := Pk.kept Lv9 (Pk.lt_of m39) m39
  clear m39
  have q46 := q40.on Lv9
  clear q40
  have q47 := q41.on Lv9
  clear q41
  have L48 := Pk.join_below L42 Lv9
  clear L42
  have hs49 : v8.heap.size ≤ v9.heap.size := Lv9.size
  go_wp2_with fail
  refine (HHS.out _).mono ?_
  rintro e v10 ⟨rfl, Lv10⟩
  have m50 := Pk.kept Lv10 (Pk.lt_of m44) m44
  clear m44
  have m51 := Pk.kept Lv10 (Pk.lt_of m45) m45
  clear m45
  have q52 := q46.on Lv10
  clear q46
  have q53 := q47.on Lv10
  clear q47
  have L54 := Pk.join_below L48 Lv10
  clear L48
  have hs55 : v9.heap.size ≤ v10.heap.size := Lv10.size
  have N56 := Pk.new_below v10 (Hn.hnB Hn.noX R 36)
  have m57 := Pk.heap_new v10 (Hn.hnB Hn.noX R 36)
  have m59 := Pk.kept N56 (Pk.lt_of m50) m50
  clear m50
  have m60 := Pk.kept N56 (Pk.lt_of m51) m51
  clear m51
  have q61 := q52.on N56
  clear q52
  have q62 := q53.on N56
  clear q53
  have L63 := Pk.join_below L54 N56
  clear L54
  have hs64 : v10.heap.size ≤ (v10.alloc (Hn.hnB Hn.noX R 36)).heap.size := N56.size
  have hs65 := Pk.lt_of m57
  have c66 : (v10.alloc (Hn.hnB Hn.noX R 36)).cell? ⟨v5.heap.size, 0, none⟩ = some (.slice x.a0 dT.length x.c0) := Pk.cell_at m60 0
  have c67 : (v10.alloc (Hn.hnB Hn.noX R 36)).cell? ⟨v5.heap.size, 1, none⟩ = some (.slice x.a1 dE.length x.c1) := Pk.cell_at m60 1
  have c68 : (v10.alloc (Hn.hnB Hn.noX R 36)).cell? ⟨v5.heap.size, 2, none⟩ = some (.slice x.a2 0 x.c2) := Pk.cell_at m60 2
  have c69 : (v10.alloc (Hn.hnB Hn.noX R 36)).cell? ⟨v5.heap.size, 3, none⟩ = some (.slice x.a3 0 x.c3) := Pk.cell_at m60 3
  have c70 : (v10.alloc (Hn.hnB Hn.noX R 36)).cell? ⟨v5.heap.size, 4, none⟩ = some (.slice x.a4 0 x.c4) := Pk.cell_at m60 4
  have c71 : (v10.alloc (Hn.hnB Hn.noX R 36)).cell? ⟨v5.heap.size, 5, none⟩ = some (.int .i64 td) := Pk.cell_at m60 5
  have c72 : (v10.alloc (Hn.hnB Hn.noX R 36)).cell? ⟨v5.heap.size, 6, none⟩ = some (.slice y.a0 dT.length y.c0) := Pk.cell_at m60 6
  have c73 : (v10.alloc (Hn.hnB Hn.noX R 36)).cell? ⟨v5.heap.size, 7, none⟩ = some (.slice y.a1 dE.length y.c1) := Pk.cell_at m60 7
  have c74 : (v10.alloc (Hn.hnB Hn.noX R 36)).cell? ⟨v5.heap.size, 8, none⟩ = some (.slice y.a2 0 y.c2) := Pk.cell_at m60 8
  have c75 : (v10.alloc (Hn.hnB Hn.noX R 36)).cell? ⟨v5.heap.size, 9, none⟩ = some (.slice y.a3 0 y.c3) := Pk.cell_at m60 9
  have c76 : (v10.alloc (Hn.hnB Hn.noX R 36)).cell? ⟨v5.heap.size, 10, none⟩ = some (.slice y.a4 0 y.c4) := Pk.cell_at m60 10
  have c77 : (v10.alloc (Hn.hnB Hn.noX R 36)).cell? ⟨v5.heap.size, 11, none⟩ = some (.int .i64 td) := Pk.cell_at m60 11
  have c78 : (v10.alloc (Hn.hnB Hn.noX R 36)).cell? ⟨v5.heap.size, 12, none⟩ = some (.string ⟨#[]⟩) := Pk.cell_at m60 12
  have c79 : (v10.alloc (Hn.hnB Hn.noX R 36)).cell? ⟨v5.heap.size, 13, none⟩ = some (.int .i64 0) := Pk.cell_at m60 13
  have c80 : (v10.alloc (Hn.hnB Hn.noX R 36)).cell? ⟨v10.heap.size, 0, none⟩ = some (.int .i64 R.dv) := Pk.cell_at m57 0
  have c81 : (v10.alloc (Hn.hnB Hn.noX R 36)).cell? ⟨v10.heap.size, 1, none⟩ = some (.int .i64 R.p) := Pk.cell_at m57 1
  have c82 : (v10.alloc (Hn.hnB Hn.noX R 36)).cell? ⟨v10.heap.size, 2, none⟩ = some (.int .i64 R.q) := Pk.cell_at m57 2
  have c83 : (v10.alloc (Hn.hnB Hn.noX R 36)).cell? ⟨v10.heap.size, 3, none⟩ = some (.int .i64 R.g) := Pk.cell_at m57 3
  have c84 : (v10.alloc (Hn.hnB Hn.noX R 36)).cell? ⟨v10.heap.size, 4, none⟩ = some (.int .i64 R.op) := Pk.cell_at m57 4
  have c85 : (v10.alloc (Hn.hnB Hn.noX R 36)).cell? ⟨v10.heap.size, 5, none⟩ = some (.int .i64 R.is) := Pk.cell_at m57 5
  have c86 : (v10.alloc (Hn.hnB Hn.noX R 36)).cell? ⟨v10.heap.size, 6, none⟩ = some (.int .i64 R.ve) := Pk.cell_at m57 6
  have c87 : (v10.alloc (Hn.hnB Hn.noX R 36)).cell? ⟨v10.heap.size, 7, none⟩ = some (.slice Hn.noX.a R.ol.length Hn.noX.c) := Pk.cell_at m57 7
  have c88 : (v10.alloc (Hn.hnB Hn.noX R 36)).cell? ⟨v10.heap.size, 8, none⟩ = some (.slice Hn.noX.b R.sl.length Hn.noX.d) := Pk.cell_at m57 8
  have mS : ((v10.alloc (Hn.hnB Hn.noX R 36)).setRow w.heap.size #[.slice x.a0 dT.length x.c0, .slice x.a1 dE.length x.c1, .slice x.a2 0 x.c2, .slice x.a3 0 x.c3, .slice x.a4 0 x.c4, .int .i64 td, .slice y.a0 dT.length y.c0, .slice y.a1 dE.length y.c1, .slice y.a2 0 y.c2, .slice y.a3 0 y.c3, .slice y.a4 0 y.c4, .int .i64 td, .string ⟨#[]⟩, .int .i64 0, .int .i64 R.dv, .int .i64 R.p, .int .i64 R.q, .int .i64 R.g, .int .i64 R.op, .int .i64 R.is, .int .i64 R.ve, .slice Hn.noX.a R.ol.length Hn.noX.c, .slice Hn.noX.b R.sl.length Hn.noX.d, .int .i64 0, .slice none 0 0, .slice none 0 0]).heap[w.heap.size]? = some (.cells #[.slice x.a0 dT.length x.c0, .slice x.a1 dE.length x.c1, .slice x.a2 0 x.c2, .slice x.a3 0 x.c3, .slice x.a4 0 x.c4, .int .i64 td, .slice y.a0 dT.length y.c0, .slice y.a1 dE.length y.c1, .slice y.a2 0 y.c2, .slice y.a3 0 y.c3, .slice y.a4 0 y.c4, .int .i64 td, .string ⟨#[]⟩, .int .i64 0, .int .i64 R.dv, .int .i64 R.p, .int .i64 R.q, .int .i64 R.g, .int .i64 R.op, .int .i64 R.is, .int .i64 R.ve, .slice Hn.noX.a R.ol.length Hn.noX.c, .slice Hn.noX.b R.sl.length Hn.noX.d, .int .i64 0, .slice none 0 0, .slice none 0 0] 40) := setRow_heap _ _ _ _ _ _ m59
  go_wp2_with (refine wpList_store_row rfl 40 _ _ rfl w.heap.size #[.slice x.a0 dT.length x.c0, .slice x.a1 dE.length x.c1, .slice x.a2 0 x.c2, .slice x.a3 0 x.c3, .slice x.a4 0 x.c4, .int .i64 td, .slice y.a0 dT.length y.c0, .slice y.a1 dE.length y.c1, .slice y.a2 0 y.c2, .slice y.a3 0 y.c3, .slice y.a4 0 y.c4, .int .i64 td, .string ⟨#[]⟩, .int .i64 0, .int .i64 R.dv, .int .i64 R.p, .int .i64 R.q, .int .i64 R.g, .int .i64 R.op, .int .i64 R.is, .int .i64 R.ve, .slice Hn.noX.a R.ol.length Hn.noX.c, .slice Hn.noX.b R.sl.length Hn.noX.d, .int .i64 0, .slice none 0 0, .slice none 0 0] rfl rfl 40 #[.slice none 0 0, .slice none 0 0, .slice none 0 0, .slice none 0 0, .slice none 0 0, .int .i64 0, .slice none 0 0, .slice none 0 0, .slice none 0 0, .slice none 0 0, .slice none 0 0, .int .i64 0, .string ⟨#[]⟩, .int .i64 0, .int .i64 0, .int .i64 0, .int .i64 0, .int .i64 0, .int .i64 0, .int .i64 0, .int .i64 0, .slice none 0 0, .slice none 0 0, .int .i64 0, .slice none 0 0, .slice none 0 0] m59 (by kernel_rfl) (by kernel_rfl) (by kernel_rfl) ?_)
  refine bodyPost_ret (results_two (a := 2) (s := 3) (x := .bool true) Tryz.results4 rfl rfl (run_loadVar_row _ _ _ _ _ (0, 0) _ mS Tryz.underlying40 rfl (by kernel_rfl))) rfl ?_
  exact ⟨x, y, by rw [HRE.out], (q61.kp (Kp.rowR (Kp.refl _ _) (by omega))).wide (by omega), (q62.kp (Kp.rowR (Kp.refl _ _) (by omega))).wide (by omega), below_setRow L63 (Nat.le_refl _) _⟩

end Dk
end Go.Proofs.YtmoinacceildcaaGreatDoor

/- Contracts of the laws' own helpers over slices of numbers: their size, a copy, two held against each other, marked from a number on and held against the marks. -/
import Derived.Test.YtjjfleepnjhamaaHnCtl
namespace Go.Proofs.Ytjjfleepnjhamaa
namespace Hn
open Go.ChangeShapes Go.WideShapes Go.ChangeAt Go.RowKit
open Pk (new_below join_below cell_at heap_new frozen_at lt_of kept info_of own_form own_below Drawn Room)
set_option linter.unusedSimpArgs false
set_option linter.unusedVariables false

/-- A slice of numbers. -/
def Ints (w : World) (a : Option Addr) (zs : List Int) : Prop := zs = [] ∨ ∃ b o, a = some ⟨b, o, none⟩ ∧ b < w.heap.size ∧ ∀ i (hi : i < zs.length), w.cell? ⟨b, o + i, none⟩ = some (.int .i64 zs[i])

theorem Ints.on {w w1 : World} {a : Option Addr} {zs : List Int} (h : Ints w a zs) (hb : Below w.heap.size w w1) : Ints w1 a zs := by
  rcases h with h | ⟨b, o, ha, hlt, hc⟩
  · exact Or.inl h
  · exact Or.inr ⟨b, o, ha, Nat.lt_of_lt_of_le hlt hb.size, fun i hi => by rw [hb.cell (p := ⟨b, o + i, none⟩) hlt]; exact hc i hi⟩

theorem Ints.at {w : World} {a : Option Addr} {zs : List Int} (h : Ints w a zs) (i : Nat) (hi : i < zs.length) : ∃ b o, a = some ⟨b, o, none⟩ ∧ b < w.heap.size ∧ w.cell? ⟨b, o + i, none⟩ = some (.int .i64 zs[i]) := by
  rcases h with h | ⟨b, o, ha, hlt, hc⟩
  · subst h; simp at hi
  · exact ⟨b, o, ha, hlt, hc i hi⟩

theorem intInfo : (Try.prog.info? 3).map (fun i => (i.zero, i.size, i.bytes)) = some (some (.int .i64 0), 1, 8) := by kernel_rfl

/-- The first k cells of block g hold the numbers; all n can be written. -/
def Filled (w : World) (g n k : Nat) (zs : List Int) : Prop := ∀ j, j < n → (∃ v, w.cell? ⟨g, j, none⟩ = some v) ∧ w.frozen? ⟨g, j, none⟩ = false ∧ (j < k → w.cell? ⟨g, j, none⟩ = some (.int .i64 (zs.getD j 0)))

theorem Filled.step {w : World} {g n k : Nat} {zs : List Int} (h : Filled w g n k zs) : Filled (w.setCell ⟨g, k, none⟩ (.int .i64 (zs.getD k 0))) g n (k + 1) zs := by
  intro j hj
  obtain ⟨⟨v, hv⟩, hf, hc⟩ := h j hj
  by_cases e : j = k
  · subst e
    refine ⟨⟨_, World.cell?_setCell_same _ _ _ hv⟩, by rw [World.frozen?_setCell]; exact hf, fun _ => World.cell?_setCell_same _ _ _ hv⟩
  · have hne : (⟨g, j, none⟩ : Addr) ≠ ⟨g, k, none⟩ := by simp [e]
    refine ⟨⟨v, by rw [World.cell?_setCell_other _ _ _ _ (by simp [e])]; exact hv⟩, by rw [World.frozen?_setCell]; exact hf, fun hk => ?_⟩
    rw [World.cell?_setCell_other _ _ _ _ (by simp [e])]
    exact hc (by omega)

theorem Filled.ints {w : World} {g : Nat} {zs : List Int} (h : Filled w g zs.length zs.length zs) (hg : g < w.heap.size) : Ints w (some ⟨g, 0, none⟩) zs := by
  refine Or.inr ⟨g, 0, rfl, hg, fun i hi => ?_⟩
  have := (h i hi).2.2 hi
  rw [Nat.zero_add, this, List.getD_eq_getElem?_getD, List.getElem?_eq_getElem hi]
  rfl

theorem Filled.made {w : World} {g n : Nat} {cur : Array Value} {t : TypeId} {zs : List Int} (h : w.heap[g]? = some (.cells cur t (0, 0))) (hs : cur.size = n) : Filled w g n 0 zs := by
  intro j hj
  refine ⟨⟨cur[j], ?_⟩, frozen_at h j, fun hk => by omega⟩
  rw [cell_at h j]
  exact Array.getElem?_eq_getElem (by omega)

/-- What came in as a row, as a slice of numbers. -/
theorem ints_row {w : World} {x : Addr} {len : Nat} {zs : List Int} (hl : len ≤ zs.length) (hc : ∀ i, i < zs.length → w.cell? (x.add i) = some (.int .i64 (zs.getD i 0))) : ∃ ys : List Int, ys.length = len ∧ Ints w (some x) ys := by
  by_cases h0 : len = 0
  · exact ⟨[], h0.symm, Or.inl rfl⟩
  obtain ⟨b, o, spot⟩ := x
  have hs := World.cell?_spot (hc 0 (by omega))
  simp [Addr.add] at hs
  subst hs
  refine ⟨zs.take len, by rw [List.length_take]; omega, Or.inr ⟨b, o, rfl, ?_, fun i hi => ?_⟩⟩
  · have h1 := hc 0 (by omega)
    apply Nat.lt_of_not_le
    intro hle
    unfold World.cell? at h1
    simp [Addr.add, Array.getElem?_eq_none hle] at h1
  · rw [List.length_take] at hi
    have h1 := hc i (by omega)
    rw [show Addr.add ⟨b, o, none⟩ i = ⟨b, o + i, none⟩ by simp [Addr.add]] at h1
    rw [h1, List.getElem_take, List.getD_eq_getElem?_getD, List.getElem?_eq_getElem (by omega)]
    rfl

set_option maxHeartbeats 1000000 in
theorem toIntS_val (a : Option Addr) (zs : List Int) (cap : Nat) (w : World) (hz : zs.length ≤ 1048576) (I : Ints w a zs) :
    Calls Try.prog 25 #[.slice a zs.length cap] w fun e w' => e = .returned (.slice (some ⟨w.heap.size, 0, none⟩) zs.length zs.length) ∧ Below w.heap.size w w' ∧ Ints w' (some ⟨w.heap.size, 0, none⟩) zs ∧ w.heap.size < w'.heap.size ∧ Room w' w.heap.size zs.length := by
  obtain ⟨i0, hi, hi2⟩ := Option.map_eq_some_iff.1 intInfo
  simp only [Prod.mk.injEq] at hi2
  obtain ⟨hz0, hz1, hz2⟩ := hi2
  go_enter Try.func25, Try.ntmps25
  go_wp2_with (at_make; refine wpList_make_full _ rfl _ _ 22 rfl w.heap.size 3 i0 (.int .i64 0) 1 Try.underlying22 hi hz0 hz1 .i64 .i64 _ _ zs.length rfl rfl rfl rfl (by rw [hz2]; omega) (by unfold maxLen; omega) (Nat.le_refl _) ?_; intro w1 hown hgrow)
  have L1 : Below w.heap.size w w1 := (Below.refl _ _).grown hgrow (Nat.le_refl _) (fun k hk => by cases hk)
  obtain ⟨-, h | ⟨g, c, cur, he, hge, hcur, hnc, hcm, hcs, -⟩⟩ := hown
  · obtain ⟨h, -⟩ := h
    cases h
  obtain ⟨rfl, rfl⟩ : g = w.heap.size ∧ c = zs.length := by
    simp only [Value.slice.injEq, Option.some.injEq, Addr.mk.injEq] at he
    exact ⟨he.1.1.symm, he.2.2.symm⟩
  have F0 : Filled w1 w.heap.size zs.length 0 zs := Filled.made hcur (by omega)
  have hl1 : w.heap.size < w1.heap.size := (Array.getElem?_eq_some_iff.1 hcur).1
  clear he hge hcur hnc hcm hcs hgrow
  go_wp2
  go_loopw [4] (fun i wr => ∃ k : Nat, k ≤ zs.length ∧ i = .int .i64 k ∧ Below w.heap.size w wr ∧ w.heap.size < wr.heap.size ∧ Hid (Filled wr w.heap.size zs.length k zs)) (fun i _ => zs.length - (intOf i).toNat)
  case atStart => exact ⟨0, by omega, rfl, L1, hl1, F0⟩
  case round =>
    obtain ⟨k, hk, rfl, LR, hl, F⟩ := hrel
    by_cases hkn : k < zs.length
    · obtain ⟨b, o, rfl, hlt, hcell⟩ := (I.on LR).at k hkn
      have hlt0 : b < w.heap.size := by
        rcases I with h | ⟨b', o', hb', hlt', -⟩
        · subst h; simp at hkn
        · simp only [Option.some.injEq, Addr.mk.injEq] at hb'
          omega
      have hne : b ≠ w.heap.size := by omega
      obtain ⟨⟨v, hv⟩, hf, -⟩ := F.out k hkn
      have hgd : zs[k] = zs.getD k 0 := by rw [List.getD_eq_getElem?_getD, List.getElem?_eq_getElem hkn]; rfl
      rw [hgd] at hcell
      have FS : Hid (_) := F.out.step
      clear F hgd
      generalize zs.getD k 0 = z at *
      go_wp2
      go_roundw
      case rel => exact ⟨k + 1, by omega, by go_num, LR.setCell (Nat.le_refl _) _, by rw [World.size_setCell]; exact hl, FS⟩
      case measure => simp [intOf]; omega
    · have e : k = zs.length := by omega
      subst e
      go_wp2
      go_ret
      exact ⟨rfl, LR, F.out.ints hl, hl, fun j hj => ⟨(F.out j hj).1, (F.out j hj).2.1⟩⟩

set_option maxHeartbeats 1000000 in
theorem eqIntS_same (a b : Option Addr) (zs : List Int) (c1 c2 : Nat) (w : World) (hz : zs.length ≤ 1048576) (I : Ints w a zs) (J : Ints w b zs) :
    Calls Try.prog 27 #[.slice a zs.length c1, .slice b zs.length c2] w fun e w' => e = .returned (.bool true) ∧ Drawn w w' := by
  go_enter Try.func27, Try.ntmps27
  go_wp2
  go_loopw [5] (fun i wr => ∃ (k n : Nat), k ≤ zs.length ∧ i = .int .i64 k ∧ wr = w.drewN n) (fun i _ => zs.length - (intOf i).toNat)
  case atStart => exact ⟨0, 0, by omega, rfl, rfl⟩
  case round =>
    obtain ⟨k, n, hk, rfl, rfl⟩ := hrel
    by_cases hkn : k < zs.length
    · obtain ⟨x, o, rfl, hx, hxc⟩ := I.at k hkn
      obtain ⟨y, u, rfl, hy, hyc⟩ := J.at k hkn
      generalize zs[k] = z at *
      go_wp2
      go_quiet (fail)
      go_wp2
      go_roundw
      case rel => exact ⟨k + 1, n + nq, by omega, by go_num, rfl⟩
      case measure => simp [intOf]; omega
    · go_wp2
      go_ret
      exact ⟨rfl, n, rfl⟩

/-- All but the blocks from lo up to hi is as it was. -/
structure Band (lo hi : Nat) (w w' : World) : Prop where
  os : w'.os = w.os
  tape : w'.tape = w.tape
  output : w'.output = w.output
  size : w'.heap.size = w.heap.size
  block : ∀ b, b < lo ∨ hi ≤ b → w'.heap[b]? = w.heap[b]?

theorem Band.refl (lo hi : Nat) (w : World) : Band lo hi w w := ⟨rfl, rfl, rfl, rfl, fun _ _ => rfl⟩

theorem Band.trans {lo hi : Nat} {a b c : World} (h : Band lo hi a b) (k : Band lo hi b c) : Band lo hi a c :=
  ⟨k.os.trans h.os, k.tape.trans h.tape, k.output.trans h.output, k.size.trans h.size, fun i hi => (k.block i hi).trans (h.block i hi)⟩

theorem Band.wide {lo hi lo' hi' : Nat} {w w' : World} (h : Band lo hi w w') (h1 : lo' ≤ lo) (h2 : hi ≤ hi') : Band lo' hi' w w' :=
  ⟨h.os, h.tape, h.output, h.size, fun b hb => h.block b (by omega)⟩

theorem Band.set {lo hi : Nat} {a w : World} (h : Band lo hi a w) {g i : Nat} (h1 : lo ≤ g) (h2 : g < hi) (u : Value) : Band lo hi a (w.setCell ⟨g, i, none⟩ u) := by
  have L := (Below.refl 0 w).setCell (p := ⟨g, i, none⟩) (Nat.zero_le _) u
  refine ⟨L.os.trans h.os, L.tape.trans h.tape, L.output.trans h.output, by rw [World.size_setCell]; exact h.size, fun b hb => ?_⟩
  rw [Below.heap_setCell w ⟨g, i, none⟩ u b (by show b ≠ g; omega)]
  exact h.block b hb

theorem Band.below {lo hi : Nat} {w w' : World} (h : Band lo hi w w') : Below lo w w' := ⟨h.os, h.tape, h.output, Nat.le_of_eq h.size.symm, fun k hk => h.block k (Or.inl hk)⟩


theorem Ints.band {lo hi : Nat} {w w1 : World} {a : Option Addr} {zs : List Int} (h : Ints w a zs) (L : Band lo hi w w1) (ha : ∀ b o, a = some ⟨b, o, none⟩ → zs ≠ [] → b < lo ∨ hi ≤ b) : Ints w1 a zs := by
  rcases h with h | ⟨b, o, rfl, hlt, hc⟩
  · exact Or.inl h
  · by_cases hz : zs = []
    · exact Or.inl hz
    · exact Or.inr ⟨b, o, rfl, by rw [L.size]; exact hlt, fun i hi => by rw [World.cell?_of_block (a := ⟨b, o + i, none⟩) (L.block b (ha b o rfl hz))]; exact hc i hi⟩

/-- Numbers in a block of their own have room. -/
theorem Ints.room {w : World} {g : Nat} {zs : List Int} (h : Ints w (some ⟨g, 0, none⟩) zs) (hf : ∀ i, w.frozen? ⟨g, i, none⟩ = false) : Room w g zs.length := by
  intro j hj
  obtain ⟨b, o, e, -, hc⟩ := h.at j hj
  simp only [Option.some.injEq, Addr.mk.injEq] at e
  obtain ⟨rfl, rfl, -⟩ := e
  rw [Nat.zero_add] at hc
  exact ⟨⟨_, hc⟩, hf j⟩

theorem Room.band {lo hi : Nat} {w w1 : World} {g m : Nat} (h : Room w g m) (L : Band lo hi w w1) (hg : g < lo ∨ hi ≤ g) : Room w1 g m := by
  intro j hj
  rw [World.cell?_of_block (a := ⟨g, j, none⟩) (L.block g hg), World.frozen?_of_block (a := ⟨g, j, none⟩) (L.block g hg)]
  exact h j hj

theorem szIntS_yes (a : Option Addr) (n cap : Nat) (z : Int) (w : World) (hz : z ≤ 1048576) (h : (n : Int) ≤ z) :
    Calls Try.prog 35 #[.slice a n cap, .int .i64 z] w fun e w' => e = .returned (.int .i64 (z - (n : Int))) ∧ w' = w := by
  have hd : decide (z - (n : Int) < 0) = false := decide_eq_false (by omega)
  go_enter Try.func35, Try.ntmps35
  go_wp2
  go_ret
  exact ⟨rfl, rfl⟩

theorem szIntS_no (a : Option Addr) (n cap : Nat) (z : Int) (w : World) (hz : z ≤ 1048576) (h0 : 0 ≤ z) (hn : n ≤ maxLen) (h : z < (n : Int)) :
    Calls Try.prog 35 #[.slice a n cap, .int .i64 z] w fun e w' => e = .returned (.int .i64 (-1)) ∧ w' = w := by
  unfold maxLen at hn
  have hd : decide (z - (n : Int) < 0) = true := decide_eq_true (by omega)
  go_enter Try.func35, Try.ntmps35
  go_wp2
  go_ret
  exact ⟨rfl, rfl⟩

/-- The marks of n numbers in block g. -/
def Mkd (z : Int) (w : World) (g n : Nat) : Prop := ∀ i, i < n → w.cell? ⟨g, i, none⟩ = some (.int .i64 (z + (i : Int)))

theorem Mkd.on {w w1 : World} {g n B : Nat} {z : Int} (h : Mkd z w g n) (L : Below B w w1) (hg : g < B) : Mkd z w1 g n := by
  intro i hi
  rw [L.cell (p := ⟨g, i, none⟩) hg]
  exact h i hi

theorem Mkd.step {w : World} {g n k : Nat} {z : Int} (h : Mkd z w g k) (R : Room w g n) (hk : k < n) : Mkd z (w.setCell ⟨g, k, none⟩ (.int .i64 (z + (k : Int)))) g (k + 1) := by
  intro i hi
  by_cases e : i = k
  · subst e
    obtain ⟨⟨v, hv⟩, -⟩ := R i hk
    rw [set_cell hv, if_pos rfl]
  · rw [set_cell (h i (by omega)), if_neg e]

set_option maxHeartbeats 1000000 in
theorem markIntS_val (a : Option Addr) (g n cap : Nat) (z : Int) (w : World) (hn : n ≤ 1048576) (hz0 : 0 ≤ z) (hz1 : z ≤ 1152921504606846976) (h : n = 0 ∨ (a = some ⟨g, 0, none⟩ ∧ Room w g n)) :
    Calls Try.prog 28 #[.slice a n cap, .int .i64 z] w fun e w' => e = .returned (.int .i64 (z + (n : Int))) ∧ Band g (g + 1) w w' ∧ Mkd z w' g n ∧ ∀ m, Room w g m → Room w' g m := by
  have HR : Hid (0 < n → a = some ⟨g, 0, none⟩ ∧ Room w g n) := fun h0 => h.resolve_left (by omega)
  clear h
  go_enter Try.func28, Try.ntmps28
  go_wp2
  go_loopw [1, 5] (fun t i wr => ∃ k : Nat, k ≤ n ∧ i = .int .i64 k ∧ t = .int .i64 (z + (k : Int)) ∧ Band g (g + 1) w wr ∧ Hid (∀ m, Room w g m → Room wr g m) ∧ Hid (Mkd z wr g k) ∧ Hid (0 < n → a = some ⟨g, 0, none⟩ ∧ Room wr g n)) (fun _ i _ => n - (intOf i).toNat)
  case atStart => exact ⟨0, by omega, rfl, by simp, Band.refl _ _ _, fun m h => h, fun i hi => by omega, HR⟩
  case round =>
    obtain ⟨k, hk, rfl, rfl, L, RM, M, RR⟩ := hrel
    by_cases hkn : k < n
    · obtain ⟨rfl, R⟩ := RR.out (by omega)
      have HM : Hid (_) := M.out.step R hkn
      have HQ : Hid (_) := R.set g k (.int .i64 (z + (k : Int)))
      have HX : Hid (∀ m, Room w g m → _) := fun m h => (RM.out m h).set g k (.int .i64 (z + (k : Int)))
      have L3 := L.set (i := k) (Nat.le_refl g) (by omega) (.int .i64 (z + (k : Int)))
      obtain ⟨⟨v0, f0⟩, z0⟩ := R k hkn
      clear R RR HR M
      go_wp2
      go_roundw
      case rel => exact ⟨k + 1, by omega, by go_num, by go_num, L3, HX, HM, fun _ => ⟨by simp, HQ.out⟩⟩
      case measure => simp [intOf]; omega
    · obtain rfl : k = n := by omega
      go_wp2
      go_ret
      exact ⟨rfl, L, M.out, RM.out⟩

set_option maxHeartbeats 1000000 in
theorem heldIntS_val (a : Option Addr) (g n cap : Nat) (z : Int) (w : World) (hn : n ≤ 1048576) (hz0 : 0 ≤ z) (hz1 : z ≤ 1152921504606846976) (h : n = 0 ∨ a = some ⟨g, 0, none⟩) (M : Mkd z w g n) :
    Calls Try.prog 34 #[.slice a n cap, .int .i64 z] w fun e w' => e = .returned (.int .i64 (z + (n : Int))) ∧ w' = w := by
  have HA : Hid (0 < n → a = some ⟨g, 0, none⟩) := fun h0 => h.resolve_left (by omega)
  have HM : Hid (_) := M
  clear h M
  go_enter Try.func34, Try.ntmps34
  go_wp2
  go_loop [1, 5] (fun t i => ∃ k : Nat, k ≤ n ∧ i = .int .i64 k ∧ t = .int .i64 (z + (k : Int))) (fun _ i => n - (intOf i).toNat)
  case atStart => exact ⟨0, by omega, rfl, by simp⟩
  case round =>
    obtain ⟨k, hk, rfl, rfl⟩ := hrel
    by_cases hkn : k < n
    · obtain rfl := HA.out (by omega)
      have c0 := HM.out k hkn
      go_wp2
      go_round
      case rel => exact ⟨k + 1, by omega, by go_num, by go_num⟩
      case measure => simp [intOf]; omega
    · obtain rfl : k = n := by omega
      go_wp2
      go_ret
      exact ⟨rfl, rfl⟩

end Hn
end Go.Proofs.Ytjjfleepnjhamaa

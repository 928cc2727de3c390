/- slices.Clone of holds, replies, rides and orders. -/
import Derived.Test.YtehmlnojjfeheaaGreatOfClone
namespace Go.Proofs.YtehmlnojjfeheaaGreat
namespace Of
open Go.ChangeShapes Go.WideShapes Go.ChangeAt Go.RowKit
open Pk (new_below join_below cell_at heap_new frozen_at lt_of kept heap_old info_of Room own_form)
set_option linter.unusedSimpArgs false
set_option linter.unusedVariables false

set_option maxHeartbeats 1000000 in
theorem clone_holds (b o n cap : Nat) (w : World) (hn : n ≤ 1048576) (hb : b < w.heap.size) (H : ∀ j, j < n * 7 → ∃ v, w.cell? ⟨b, o + j, none⟩ = some v ∧ v.oneCell' = true) :
    Calls Tryz.prog 86 #[.slice (some ⟨b, o, none⟩) n cap] w fun e w' => ∃ a' c', e = .returned (.slice a' n c') ∧ Cloned w w' a' b o n 7 ∧ Below w.heap.size w w' := by
  obtain ⟨i0, hi, hz0, hz1, hz2⟩ := info_of Se.info_hold
  have hnil : ∀ w : World, (binOp .eql 32 (.slice (some ⟨b, o, none⟩) n cap) (.slice none 0 0)).run Tryz.prog w = .ok (.bool false) w := fun w => Lib.run_eql_slice_nil w 32 81 _ _ _ _ _ Tryz.underlying32
  have O0 := nil_row w 81 7
  have N0 := new_below w (.cells #[] 81)
  have H0 : ∀ j, j < n * 7 → ∃ v, (w.alloc (.cells #[] 81)).cell? ⟨b, o + j, none⟩ = some v ∧ v.oneCell' = true := by
    intro j hj
    rw [N0.cell (p := ⟨b, o + j, none⟩) hb]
    exact H j hj
  have HS : Hid (∀ j, j < n * 7 → (snap (w.alloc (.cells #[] 81)) b o (n * 7))[j]? = w.cell? ⟨b, o + j, none⟩) := by
    intro j hj
    rw [snap_at H0 j hj, N0.cell (p := ⟨b, o + j, none⟩) hb]
  have HX : Hid (∀ j, j < n * 7 → ∃ v, w.cell? ⟨b, o + j, none⟩ = some v ∧ v.oneCell' = true) := H
  clear H
  go_enter Tryz.func86, Tryz.ntmps86
  go_wp2_with (at_builtin; refine wpList_append_own_at _ rfl _ _ 32 rfl w.heap.size 81 i0 (Se.lgV ⟨0, 0, 0, 0, 0, 0, 0⟩) 7 56 Tryz.underlying32 hi hz0 hz1 hz2 rfl (by decide) _ _ _ rfl O0 ⟨b, o, none⟩ n cap (snap (w.alloc (.cells #[] 81)) b o (n * 7)) rfl ?c0 ?c1 ?c2 ?c3 ?c4 ?c5 ?_)
  case c0 => rw [snap_len]
  case c1 => exact snap_get H0
  case c2 => exact snap_one H0
  case c3 => unfold maxLen; omega
  case c4 => omega
  case c5 => exact N0.size
  intro v' w5 O5 G5 _ _
  have L5 : Below w.heap.size w w5 := N0.grown G5 N0.size (fun j hj => (O0.lt j hj).1)
  try rw [Nat.zero_add, List.nil_append] at O5
  obtain ⟨va2, vc2, rfl, -⟩ := own_form O5
  have HC : Hid (Cloned w w5 va2 b o n 7) := by
    by_cases h0 : n = 0
    · exact Or.inl h0
    · obtain ⟨g, c, hv, h1, h2, h3, h4⟩ := own_g O5 (by omega)
      simp only [Value.slice.injEq] at hv
      refine Or.inr ⟨g, hv.1, h1, h2, fun j hj => ?_, h4⟩
      obtain ⟨u, hu, -⟩ := HX.out j hj
      rw [hu]
      exact h3 j u (by rw [HS.out j hj, hu])
  clear O0 O5 G5 N0 H0 HS HX
  go_wp2
  go_ret
  exact ⟨_, _, rfl, HC.out, L5⟩

set_option maxHeartbeats 1000000 in
theorem clone_reps (b o n cap : Nat) (w : World) (hn : n ≤ 1048576) (hb : b < w.heap.size) (H : ∀ j, j < n * 4 → ∃ v, w.cell? ⟨b, o + j, none⟩ = some v ∧ v.oneCell' = true) :
    Calls Tryz.prog 90 #[.slice (some ⟨b, o, none⟩) n cap] w fun e w' => ∃ a' c', e = .returned (.slice a' n c') ∧ Cloned w w' a' b o n 4 ∧ Below w.heap.size w w' := by
  obtain ⟨i0, hi, hz0, hz1, hz2⟩ := info_of Rp.info_reply
  have hnil : ∀ w : World, (binOp .eql 34 (.slice (some ⟨b, o, none⟩) n cap) (.slice none 0 0)).run Tryz.prog w = .ok (.bool false) w := fun w => Lib.run_eql_slice_nil w 34 87 _ _ _ _ _ Tryz.underlying34
  have O0 := nil_row w 87 4
  have N0 := new_below w (.cells #[] 87)
  have H0 : ∀ j, j < n * 4 → ∃ v, (w.alloc (.cells #[] 87)).cell? ⟨b, o + j, none⟩ = some v ∧ v.oneCell' = true := by
    intro j hj
    rw [N0.cell (p := ⟨b, o + j, none⟩) hb]
    exact H j hj
  have HS : Hid (∀ j, j < n * 4 → (snap (w.alloc (.cells #[] 87)) b o (n * 4))[j]? = w.cell? ⟨b, o + j, none⟩) := by
    intro j hj
    rw [snap_at H0 j hj, N0.cell (p := ⟨b, o + j, none⟩) hb]
  have HX : Hid (∀ j, j < n * 4 → ∃ v, w.cell? ⟨b, o + j, none⟩ = some v ∧ v.oneCell' = true) := H
  clear H
  go_enter Tryz.func90, Tryz.ntmps90
  go_wp2_with (at_builtin; refine wpList_append_own_at _ rfl _ _ 34 rfl w.heap.size 87 i0 (Rp.lgV ⟨0, 0, 0, 0⟩) 4 32 Tryz.underlying34 hi hz0 hz1 hz2 rfl (by decide) _ _ _ rfl O0 ⟨b, o, none⟩ n cap (snap (w.alloc (.cells #[] 87)) b o (n * 4)) rfl ?c0 ?c1 ?c2 ?c3 ?c4 ?c5 ?_)
  case c0 => rw [snap_len]
  case c1 => exact snap_get H0
  case c2 => exact snap_one H0
  case c3 => unfold maxLen; omega
  case c4 => omega
  case c5 => exact N0.size
  intro v' w5 O5 G5 _ _
  have L5 : Below w.heap.size w w5 := N0.grown G5 N0.size (fun j hj => (O0.lt j hj).1)
  try rw [Nat.zero_add, List.nil_append] at O5
  obtain ⟨va2, vc2, rfl, -⟩ := own_form O5
  have HC : Hid (Cloned w w5 va2 b o n 4) := by
    by_cases h0 : n = 0
    · exact Or.inl h0
    · obtain ⟨g, c, hv, h1, h2, h3, h4⟩ := own_g O5 (by omega)
      simp only [Value.slice.injEq] at hv
      refine Or.inr ⟨g, hv.1, h1, h2, fun j hj => ?_, h4⟩
      obtain ⟨u, hu, -⟩ := HX.out j hj
      rw [hu]
      exact h3 j u (by rw [HS.out j hj, hu])
  clear O0 O5 G5 N0 H0 HS HX
  go_wp2
  go_ret
  exact ⟨_, _, rfl, HC.out, L5⟩

set_option maxHeartbeats 1000000 in
theorem clone_rides (b o n cap : Nat) (w : World) (hn : n ≤ 1048576) (hb : b < w.heap.size) (H : ∀ j, j < n * 4 → ∃ v, w.cell? ⟨b, o + j, none⟩ = some v ∧ v.oneCell' = true) :
    Calls Tryz.prog 110 #[.slice (some ⟨b, o, none⟩) n cap] w fun e w' => ∃ a' c', e = .returned (.slice a' n c') ∧ Cloned w w' a' b o n 4 ∧ Below w.heap.size w w' := by
  obtain ⟨i0, hi, hz0, hz1, hz2⟩ := info_of Rd.info_ride
  have hnil : ∀ w : World, (binOp .eql 83 (.slice (some ⟨b, o, none⟩) n cap) (.slice none 0 0)).run Tryz.prog w = .ok (.bool false) w := fun w => Lib.run_eql_slice_nil w 83 142 _ _ _ _ _ Tryz.underlying83
  have O0 := nil_row w 142 4
  have N0 := new_below w (.cells #[] 142)
  have H0 : ∀ j, j < n * 4 → ∃ v, (w.alloc (.cells #[] 142)).cell? ⟨b, o + j, none⟩ = some v ∧ v.oneCell' = true := by
    intro j hj
    rw [N0.cell (p := ⟨b, o + j, none⟩) hb]
    exact H j hj
  have HS : Hid (∀ j, j < n * 4 → (snap (w.alloc (.cells #[] 142)) b o (n * 4))[j]? = w.cell? ⟨b, o + j, none⟩) := by
    intro j hj
    rw [snap_at H0 j hj, N0.cell (p := ⟨b, o + j, none⟩) hb]
  have HX : Hid (∀ j, j < n * 4 → ∃ v, w.cell? ⟨b, o + j, none⟩ = some v ∧ v.oneCell' = true) := H
  clear H
  go_enter Tryz.func110, Tryz.ntmps110
  go_wp2_with (at_builtin; refine wpList_append_own_at _ rfl _ _ 83 rfl w.heap.size 142 i0 (Rd.lgV ⟨0, 0, 0, 0⟩) 4 32 Tryz.underlying83 hi hz0 hz1 hz2 rfl (by decide) _ _ _ rfl O0 ⟨b, o, none⟩ n cap (snap (w.alloc (.cells #[] 142)) b o (n * 4)) rfl ?c0 ?c1 ?c2 ?c3 ?c4 ?c5 ?_)
  case c0 => rw [snap_len]
  case c1 => exact snap_get H0
  case c2 => exact snap_one H0
  case c3 => unfold maxLen; omega
  case c4 => omega
  case c5 => exact N0.size
  intro v' w5 O5 G5 _ _
  have L5 : Below w.heap.size w w5 := N0.grown G5 N0.size (fun j hj => (O0.lt j hj).1)
  try rw [Nat.zero_add, List.nil_append] at O5
  obtain ⟨va2, vc2, rfl, -⟩ := own_form O5
  have HC : Hid (Cloned w w5 va2 b o n 4) := by
    by_cases h0 : n = 0
    · exact Or.inl h0
    · obtain ⟨g, c, hv, h1, h2, h3, h4⟩ := own_g O5 (by omega)
      simp only [Value.slice.injEq] at hv
      refine Or.inr ⟨g, hv.1, h1, h2, fun j hj => ?_, h4⟩
      obtain ⟨u, hu, -⟩ := HX.out j hj
      rw [hu]
      exact h3 j u (by rw [HS.out j hj, hu])
  clear O0 O5 G5 N0 H0 HS HX
  go_wp2
  go_ret
  exact ⟨_, _, rfl, HC.out, L5⟩

set_option maxHeartbeats 1000000 in
theorem clone_orders (b o n cap : Nat) (w : World) (hn : n ≤ 1048576) (hb : b < w.heap.size) (H : ∀ j, j < n * 9 → ∃ v, w.cell? ⟨b, o + j, none⟩ = some v ∧ v.oneCell' = true) :
    Calls Tryz.prog 108 #[.slice (some ⟨b, o, none⟩) n cap] w fun e w' => ∃ a' c', e = .returned (.slice a' n c') ∧ Cloned w w' a' b o n 9 ∧ Below w.heap.size w w' := by
  obtain ⟨i0, hi, hz0, hz1, hz2⟩ := info_of Od.info_order
  have hnil : ∀ w : World, (binOp .eql 33 (.slice (some ⟨b, o, none⟩) n cap) (.slice none 0 0)).run Tryz.prog w = .ok (.bool false) w := fun w => Lib.run_eql_slice_nil w 33 85 _ _ _ _ _ Tryz.underlying33
  have O0 := nil_row w 85 9
  have N0 := new_below w (.cells #[] 85)
  have H0 : ∀ j, j < n * 9 → ∃ v, (w.alloc (.cells #[] 85)).cell? ⟨b, o + j, none⟩ = some v ∧ v.oneCell' = true := by
    intro j hj
    rw [N0.cell (p := ⟨b, o + j, none⟩) hb]
    exact H j hj
  have HS : Hid (∀ j, j < n * 9 → (snap (w.alloc (.cells #[] 85)) b o (n * 9))[j]? = w.cell? ⟨b, o + j, none⟩) := by
    intro j hj
    rw [snap_at H0 j hj, N0.cell (p := ⟨b, o + j, none⟩) hb]
  have HX : Hid (∀ j, j < n * 9 → ∃ v, w.cell? ⟨b, o + j, none⟩ = some v ∧ v.oneCell' = true) := H
  clear H
  go_enter Tryz.func108, Tryz.ntmps108
  go_wp2_with (at_builtin; refine wpList_append_own_at _ rfl _ _ 33 rfl w.heap.size 85 i0 (Od.odV ⟨0, 0, ByteArray.empty, 0, 0, 0, 0, 0⟩ none 0 0) 9 96 Tryz.underlying33 hi hz0 hz1 hz2 rfl (by decide) _ _ _ rfl O0 ⟨b, o, none⟩ n cap (snap (w.alloc (.cells #[] 85)) b o (n * 9)) rfl ?c0 ?c1 ?c2 ?c3 ?c4 ?c5 ?_)
  case c0 => rw [snap_len]
  case c1 => exact snap_get H0
  case c2 => exact snap_one H0
  case c3 => unfold maxLen; omega
  case c4 => omega
  case c5 => exact N0.size
  intro v' w5 O5 G5 _ _
  have L5 : Below w.heap.size w w5 := N0.grown G5 N0.size (fun j hj => (O0.lt j hj).1)
  try rw [Nat.zero_add, List.nil_append] at O5
  obtain ⟨va2, vc2, rfl, -⟩ := own_form O5
  have HC : Hid (Cloned w w5 va2 b o n 9) := by
    by_cases h0 : n = 0
    · exact Or.inl h0
    · obtain ⟨g, c, hv, h1, h2, h3, h4⟩ := own_g O5 (by omega)
      simp only [Value.slice.injEq] at hv
      refine Or.inr ⟨g, hv.1, h1, h2, fun j hj => ?_, h4⟩
      obtain ⟨u, hu, -⟩ := HX.out j hj
      rw [hu]
      exact h3 j u (by rw [HS.out j hj, hu])
  clear O0 O5 G5 N0 H0 HS HX
  go_wp2
  go_ret
  exact ⟨_, _, rfl, HC.out, L5⟩

end Of
end Go.Proofs.YtehmlnojjfeheaaGreat

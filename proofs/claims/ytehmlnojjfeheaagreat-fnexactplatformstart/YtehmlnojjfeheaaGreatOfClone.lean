/- slices.Clone over the lists of an office. -/
import Derived.Test.YtehmlnojjfeheaaGreatOfCopy
import Derived.Maps.AppendAt
import Derived.BigRegion
namespace Go.Proofs.YtehmlnojjfeheaaGreat
namespace Of
open Go.ChangeShapes Go.WideShapes Go.ChangeAt Go.RowKit Go.Joins
open Pk (new_below join_below cell_at heap_new frozen_at lt_of kept heap_old info_of Room)
set_option linter.unusedSimpArgs false
set_option linter.unusedVariables false

open Pk (own_form)

/-- A row of one's own that is not empty. -/
theorem own_g {w : World} {base e size n : Nat} {v : Value} {xs : List Value} (h : w.ownsRow base e size v n xs) (hn : 0 < n) :
    ∃ g cap, v = .slice (some ⟨g, 0, none⟩) n cap ∧ base ≤ g ∧ g < w.heap.size ∧ (∀ i u, xs[i]? = some u → w.cell? ⟨g, i, none⟩ = some u) ∧ ∀ i, w.frozen? ⟨g, i, none⟩ = false := by
  obtain ⟨hl, h2⟩ := h
  rcases h2 with ⟨hv, h0⟩ | ⟨g, cap, cur, hv, hg, hh, h1, h3, h4, h5⟩
  · omega
  · refine ⟨g, cap, hv, hg, lt_of hh, fun i u hu => ?_, fun i => frozen_at hh i⟩
    rw [cell_at hh]
    have hx := (List.getElem?_eq_some_iff.1 hu).1
    have h6 : (cur.toList.take (n * size))[i]? = xs[i]? := by rw [h5]
    rw [List.getElem?_take, if_pos (by omega), Array.getElem?_toList] at h6
    rw [h6]
    exact hu

theorem nil_row (w : World) (t size : Nat) : (w.alloc (.cells #[] t)).ownsRow w.heap.size t size (.slice (some ⟨w.heap.size, 0, none⟩) 0 0) 0 [] :=
  ⟨by simp, Or.inr ⟨w.heap.size, 0, #[], rfl, Nat.le_refl _, heap_new w _, by omega, by unfold maxLen; omega, by simp, by simp⟩⟩

/-- The cells of a slice as they are. -/
def snap (w : World) (b o m : Nat) : List Value := (List.range m).map fun j => (w.cell? ⟨b, o + j, none⟩).getD undef

theorem snap_len (w : World) (b o m : Nat) : (snap w b o m).length = m := by simp [snap]

theorem snap_at {w : World} {b o m : Nat} (H : ∀ j, j < m → ∃ v, w.cell? ⟨b, o + j, none⟩ = some v ∧ v.oneCell' = true) (j : Nat) (hj : j < m) : (snap w b o m)[j]? = w.cell? ⟨b, o + j, none⟩ := by
  obtain ⟨v, hv, -⟩ := H j hj
  unfold snap
  rw [List.getElem?_map, List.getElem?_range hj, hv]
  simp [hv]

theorem snap_get {w : World} {b o m : Nat} (H : ∀ j, j < m → ∃ v, w.cell? ⟨b, o + j, none⟩ = some v ∧ v.oneCell' = true) : ∀ j u, (snap w b o m)[j]? = some u → w.cell? (Addr.add ⟨b, o, none⟩ j) = some u := by
  intro j u hu
  have hj : j < m := by
    have := (List.getElem?_eq_some_iff.1 hu).1
    rwa [snap_len] at this
  rw [snap_at H j hj] at hu
  rw [Od.add_plain]
  exact hu

theorem snap_one {w : World} {b o m : Nat} (H : ∀ j, j < m → ∃ v, w.cell? ⟨b, o + j, none⟩ = some v ∧ v.oneCell' = true) : ∀ u ∈ snap w b o m, u.oneCell' = true := by
  intro u hu
  obtain ⟨j, hj, rfl⟩ := List.mem_iff_getElem.1 hu
  rw [snap_len] at hj
  have h1 := snap_at H j hj
  obtain ⟨v, hv, h2⟩ := H j hj
  rw [hv, List.getElem?_eq_some_iff] at h1
  obtain ⟨h0, h1⟩ := h1
  rw [h1]
  exact h2

/-- What a clone of a slice is: nothing, or the same cells in a new block. -/
def Cloned (w w' : World) (a' : Option Addr) (b o n sz : Nat) : Prop := n = 0 ∨ ∃ g, a' = some ⟨g, 0, none⟩ ∧ w.heap.size ≤ g ∧ g < w'.heap.size ∧ (∀ j, j < n * sz → w'.cell? ⟨g, j, none⟩ = w.cell? ⟨b, o + j, none⟩) ∧ ∀ i, w'.frozen? ⟨g, i, none⟩ = false

set_option maxHeartbeats 1000000 in
theorem clone_stops (b o n cap : Nat) (w : World) (hn : n ≤ 1048576) (hb : b < w.heap.size) (H : ∀ j, j < n * 3 → ∃ v, w.cell? ⟨b, o + j, none⟩ = some v ∧ v.oneCell' = true) :
    Calls Tryz.prog 107 #[.slice (some ⟨b, o, none⟩) n cap] w fun e w' => ∃ a' c', e = .returned (.slice a' n c') ∧ Cloned w w' a' b o n 3 ∧ Below w.heap.size w w' := by
  obtain ⟨i0, hi, hz0, hz1, hz2⟩ := info_of Tn.info_stop
  have hnil : ∀ w : World, (binOp .eql 89 (.slice (some ⟨b, o, none⟩) n cap) (.slice none 0 0)).run Tryz.prog w = .ok (.bool false) w := fun w => Lib.run_eql_slice_nil w 89 139 _ _ _ _ _ Tryz.underlying89
  have O0 := nil_row w 139 3
  have N0 := new_below w (.cells #[] 139)
  have H0 : ∀ j, j < n * 3 → ∃ v, (w.alloc (.cells #[] 139)).cell? ⟨b, o + j, none⟩ = some v ∧ v.oneCell' = true := by
    intro j hj
    rw [N0.cell (p := ⟨b, o + j, none⟩) hb]
    exact H j hj
  have HS : Hid (∀ j, j < n * 3 → (snap (w.alloc (.cells #[] 139)) b o (n * 3))[j]? = w.cell? ⟨b, o + j, none⟩) := by
    intro j hj
    rw [snap_at H0 j hj, N0.cell (p := ⟨b, o + j, none⟩) hb]
  have HX : Hid (∀ j, j < n * 3 → ∃ v, w.cell? ⟨b, o + j, none⟩ = some v ∧ v.oneCell' = true) := H
  clear H
  go_enter Tryz.func107, Tryz.ntmps107
  go_wp2_with (at_builtin; refine wpList_append_own_at _ rfl _ _ 89 rfl w.heap.size 139 i0 (Tn.lgV ⟨0, 0, 0⟩) 3 24 Tryz.underlying89 hi hz0 hz1 hz2 rfl (by decide) _ _ _ rfl O0 ⟨b, o, none⟩ n cap (snap (w.alloc (.cells #[] 139)) b o (n * 3)) rfl ?c0 ?c1 ?c2 ?c3 ?c4 ?c5 ?_)
  case c0 => rw [snap_len]
  case c1 => exact snap_get H0
  case c2 => exact snap_one H0
  case c3 => unfold maxLen; omega
  case c4 => omega
  case c5 => exact N0.size
  intro v' w5 O5 G5 _ _
  have L5 : Below w.heap.size w w5 := N0.grown G5 N0.size (fun j hj => (O0.lt j hj).1)
  try rw [Nat.zero_add, List.nil_append] at O5
  obtain ⟨va2, vc2, rfl, -⟩ := own_form O5
  have HC : Hid (Cloned w w5 va2 b o n 3) := by
    by_cases h0 : n = 0
    · exact Or.inl h0
    · obtain ⟨g, c, hv, h1, h2, h3, h4⟩ := own_g O5 (by omega)
      simp only [Value.slice.injEq] at hv
      refine Or.inr ⟨g, hv.1, h1, h2, fun j hj => ?_, h4⟩
      obtain ⟨u, hu, -⟩ := HX.out j hj
      rw [hu]
      exact h3 j u (by rw [HS.out j hj, hu])
  clear O0 O5 G5 N0 H0 HS HX
  go_wp2
  go_ret
  exact ⟨_, _, rfl, HC.out, L5⟩

set_option maxHeartbeats 1000000 in
theorem clone_edges (b o n cap : Nat) (w : World) (hn : n ≤ 1048576) (hb : b < w.heap.size) (H : ∀ j, j < n * 3 → ∃ v, w.cell? ⟨b, o + j, none⟩ = some v ∧ v.oneCell' = true) :
    Calls Tryz.prog 88 #[.slice (some ⟨b, o, none⟩) n cap] w fun e w' => ∃ a' c', e = .returned (.slice a' n c') ∧ Cloned w w' a' b o n 3 ∧ Below w.heap.size w w' := by
  obtain ⟨i0, hi, hz0, hz1, hz2⟩ := info_of Tf.info_edge
  have hnil : ∀ w : World, (binOp .eql 31 (.slice (some ⟨b, o, none⟩) n cap) (.slice none 0 0)).run Tryz.prog w = .ok (.bool false) w := fun w => Lib.run_eql_slice_nil w 31 94 _ _ _ _ _ Tryz.underlying31
  have O0 := nil_row w 94 3
  have N0 := new_below w (.cells #[] 94)
  have H0 : ∀ j, j < n * 3 → ∃ v, (w.alloc (.cells #[] 94)).cell? ⟨b, o + j, none⟩ = some v ∧ v.oneCell' = true := by
    intro j hj
    rw [N0.cell (p := ⟨b, o + j, none⟩) hb]
    exact H j hj
  have HS : Hid (∀ j, j < n * 3 → (snap (w.alloc (.cells #[] 94)) b o (n * 3))[j]? = w.cell? ⟨b, o + j, none⟩) := by
    intro j hj
    rw [snap_at H0 j hj, N0.cell (p := ⟨b, o + j, none⟩) hb]
  have HX : Hid (∀ j, j < n * 3 → ∃ v, w.cell? ⟨b, o + j, none⟩ = some v ∧ v.oneCell' = true) := H
  clear H
  go_enter Tryz.func88, Tryz.ntmps88
  go_wp2_with (at_builtin; refine wpList_append_own_at _ rfl _ _ 31 rfl w.heap.size 94 i0 (Tf.lgV ⟨0, 0, 0⟩) 3 24 Tryz.underlying31 hi hz0 hz1 hz2 rfl (by decide) _ _ _ rfl O0 ⟨b, o, none⟩ n cap (snap (w.alloc (.cells #[] 94)) b o (n * 3)) rfl ?c0 ?c1 ?c2 ?c3 ?c4 ?c5 ?_)
  case c0 => rw [snap_len]
  case c1 => exact snap_get H0
  case c2 => exact snap_one H0
  case c3 => unfold maxLen; omega
  case c4 => omega
  case c5 => exact N0.size
  intro v' w5 O5 G5 _ _
  have L5 : Below w.heap.size w w5 := N0.grown G5 N0.size (fun j hj => (O0.lt j hj).1)
  try rw [Nat.zero_add, List.nil_append] at O5
  obtain ⟨va2, vc2, rfl, -⟩ := own_form O5
  have HC : Hid (Cloned w w5 va2 b o n 3) := by
    by_cases h0 : n = 0
    · exact Or.inl h0
    · obtain ⟨g, c, hv, h1, h2, h3, h4⟩ := own_g O5 (by omega)
      simp only [Value.slice.injEq] at hv
      refine Or.inr ⟨g, hv.1, h1, h2, fun j hj => ?_, h4⟩
      obtain ⟨u, hu, -⟩ := HX.out j hj
      rw [hu]
      exact h3 j u (by rw [HS.out j hj, hu])
  clear O0 O5 G5 N0 H0 HS HX
  go_wp2
  go_ret
  exact ⟨_, _, rfl, HC.out, L5⟩

set_option maxHeartbeats 1000000 in
theorem clone_trains (b o n cap : Nat) (w : World) (hn : n ≤ 1048576) (hb : b < w.heap.size) (H : ∀ j, j < n * 5 → ∃ v, w.cell? ⟨b, o + j, none⟩ = some v ∧ v.oneCell' = true) :
    Calls Tryz.prog 106 #[.slice (some ⟨b, o, none⟩) n cap] w fun e w' => ∃ a' c', e = .returned (.slice a' n c') ∧ Cloned w w' a' b o n 5 ∧ Below w.heap.size w w' := by
  obtain ⟨i0, hi, hz0, hz1, hz2⟩ := info_of Tn.info_train
  have hnil : ∀ w : World, (binOp .eql 30 (.slice (some ⟨b, o, none⟩) n cap) (.slice none 0 0)).run Tryz.prog w = .ok (.bool false) w := fun w => Lib.run_eql_slice_nil w 30 91 _ _ _ _ _ Tryz.underlying30
  have O0 := nil_row w 91 5
  have N0 := new_below w (.cells #[] 91)
  have H0 : ∀ j, j < n * 5 → ∃ v, (w.alloc (.cells #[] 91)).cell? ⟨b, o + j, none⟩ = some v ∧ v.oneCell' = true := by
    intro j hj
    rw [N0.cell (p := ⟨b, o + j, none⟩) hb]
    exact H j hj
  have HS : Hid (∀ j, j < n * 5 → (snap (w.alloc (.cells #[] 91)) b o (n * 5))[j]? = w.cell? ⟨b, o + j, none⟩) := by
    intro j hj
    rw [snap_at H0 j hj, N0.cell (p := ⟨b, o + j, none⟩) hb]
  have HX : Hid (∀ j, j < n * 5 → ∃ v, w.cell? ⟨b, o + j, none⟩ = some v ∧ v.oneCell' = true) := H
  clear H
  go_enter Tryz.func106, Tryz.ntmps106
  go_wp2_with (at_builtin; refine wpList_append_own_at _ rfl _ _ 30 rfl w.heap.size 91 i0 (Tn.trV ⟨0, 0, 0, 0⟩ none 0 0) 5 56 Tryz.underlying30 hi hz0 hz1 hz2 rfl (by decide) _ _ _ rfl O0 ⟨b, o, none⟩ n cap (snap (w.alloc (.cells #[] 91)) b o (n * 5)) rfl ?c0 ?c1 ?c2 ?c3 ?c4 ?c5 ?_)
  case c0 => rw [snap_len]
  case c1 => exact snap_get H0
  case c2 => exact snap_one H0
  case c3 => unfold maxLen; omega
  case c4 => omega
  case c5 => exact N0.size
  intro v' w5 O5 G5 _ _
  have L5 : Below w.heap.size w w5 := N0.grown G5 N0.size (fun j hj => (O0.lt j hj).1)
  try rw [Nat.zero_add, List.nil_append] at O5
  obtain ⟨va2, vc2, rfl, -⟩ := own_form O5
  have HC : Hid (Cloned w w5 va2 b o n 5) := by
    by_cases h0 : n = 0
    · exact Or.inl h0
    · obtain ⟨g, c, hv, h1, h2, h3, h4⟩ := own_g O5 (by omega)
      simp only [Value.slice.injEq] at hv
      refine Or.inr ⟨g, hv.1, h1, h2, fun j hj => ?_, h4⟩
      obtain ⟨u, hu, -⟩ := HX.out j hj
      rw [hu]
      exact h3 j u (by rw [HS.out j hj, hu])
  clear O0 O5 G5 N0 H0 HS HX
  go_wp2
  go_ret
  exact ⟨_, _, rfl, HC.out, L5⟩

theorem clone_nil_holds (w : World) :
    Calls Tryz.prog 86 #[.slice none 0 0] w fun e w' => e = .returned (.slice none 0 0) ∧ w' = w := by
  have hnil : ∀ w : World, (binOp .eql 32 (.slice none 0 0) (.slice none 0 0)).run Tryz.prog w = .ok (.bool true) w := fun w => Lib.run_eql_slice_nil w 32 81 _ _ _ _ _ Tryz.underlying32
  go_enter Tryz.func86, Tryz.ntmps86
  go_wp2
  go_ret
  exact ⟨rfl, rfl⟩

theorem clone_nil_reps (w : World) :
    Calls Tryz.prog 90 #[.slice none 0 0] w fun e w' => e = .returned (.slice none 0 0) ∧ w' = w := by
  have hnil : ∀ w : World, (binOp .eql 34 (.slice none 0 0) (.slice none 0 0)).run Tryz.prog w = .ok (.bool true) w := fun w => Lib.run_eql_slice_nil w 34 87 _ _ _ _ _ Tryz.underlying34
  go_enter Tryz.func90, Tryz.ntmps90
  go_wp2
  go_ret
  exact ⟨rfl, rfl⟩

theorem clone_nil_orders (w : World) :
    Calls Tryz.prog 108 #[.slice none 0 0] w fun e w' => e = .returned (.slice none 0 0) ∧ w' = w := by
  have hnil : ∀ w : World, (binOp .eql 33 (.slice none 0 0) (.slice none 0 0)).run Tryz.prog w = .ok (.bool true) w := fun w => Lib.run_eql_slice_nil w 33 85 _ _ _ _ _ Tryz.underlying33
  go_enter Tryz.func108, Tryz.ntmps108
  go_wp2
  go_ret
  exact ⟨rfl, rfl⟩

theorem copyOrders_nil (w : World) :
    Calls Tryz.prog 89 #[.slice none 0 0] w fun e w' => e = .returned (.slice none 0 0) ∧ w' = w := by
  go_enter Tryz.func89, Tryz.ntmps89
  go_wp2_with fail
  refine (clone_nil_orders _).mono ?_
  rintro e w1 ⟨rfl, rfl⟩
  go_wp2
  go_loopw [8] (fun i wr => i = .int .i64 0 ∧ wr = w1) (fun _ _ => 0)
  case atStart => exact ⟨rfl, rfl⟩
  case round =>
    obtain ⟨rfl, rfl⟩ := hrel
    go_wp2
    go_ret
    exact ⟨rfl, rfl⟩

end Of
end Go.Proofs.YtehmlnojjfeheaaGreat

/- The contract of the model's Unframe. -/
import Derived.Test.YtcifgableeeooalDoorFrAns
import Derived.Test.YtcifgableeeooalDoorFrJoin
import Derived.Test.YtcifgableeeooalDoorUnSpec
import Derived.Deep.RegionHeld3
namespace Go.Proofs.YtcifgableeeooalDoor
namespace Fr
open Go.ChangeShapes Go.WideShapes Go.ChangeAt Go.RowKit
open Pk (new_below join_below cell_at heap_new frozen_at lt_of kept heap_old)
open Math (unpC unpT)
open Num (rmR rmS)
set_option linter.unusedSimpArgs false
set_option linter.unusedVariables false

theorem hd_list : hd5.toList = [35, 85, 84, 48, 49] := by kernel_rfl

theorem txt_ne {a b : ByteArray} (h : a ≠ b) : (a.toList == b.toList) = false := by
  rw [beq_eq_false_iff_ne, ByteArray.toList_eq, ByteArray.toList_eq]
  intro h2
  exact h (ByteArray.ext (Array.toList_inj.1 h2))

theorem hd_ne {t : ByteArray} (h : t ≠ hd5) : (t.toList == [35, 85, 84, 48, 49]) = false := by
  rw [← hd_list]
  exact txt_ne h

theorem hd_eq : (hd5.toList == [35, 85, 84, 48, 49]) = true := by rw [hd_list]; decide

set_option maxRecDepth 100000 in
set_option maxHeartbeats 4000000 in
theorem specUnframe_val (s : ByteArray) (w : World) (hm : s.size ≤ 1048576) :
    Calls Tryd.prog 4 #[.string s] w fun e w' => e = .returned (u4 (fN s) (fR s) (fS s) (fP s) (fC s : Nat)) ∧ Below w.heap.size w w' := by
  have N := new_below w (.cells #[.int .i64 0, .int .i64 0] 23)
  have m0 := heap_new w (.cells #[.int .i64 0, .int .i64 0] 23)
  rcases f_cases s with ⟨b1, hc⟩ | ⟨g1, b2, hc⟩ | ⟨g1, g2, b3, hc⟩ | ⟨g1, g2, g3, b4, hc⟩ | ⟨g1, g2, g3, g4, hc⟩
  · obtain ⟨i1, i2, i3, i4⟩ := f_no (s := s) (by omega)
    rw [i1, i2, i3, i4, hc]
    by_cases h5 : 5 ≤ s.size
    · have h5I : ¬ (s.size : Int) < 5 := by omega
      have h5J : (5 : Int) ≤ (s.size : Int) := by omega
      have hne : s.extract 0 5 ≠ hd5 := by
        rcases b1 with h | h
        · exact absurd h5 h
        · exact h
      have z := hd_ne hne
      clear b1 hc i1 i2 i3 i4 hne
      go_enter Tryd.func4, Tryd.ntmps4
      go_wp2
      refine bodyPost_ret (v := u4 0 0 0 ⟨#[]⟩ 1) (by simp [results, Tryd.results4, go_sem]) rfl ?_
      exact ⟨rfl, N⟩
    · have h5I : (s.size : Int) < 5 := by omega
      clear b1 hc i1 i2 i3 i4
      go_enter Tryd.func4, Tryd.ntmps4
      go_wp2
      refine bodyPost_ret (v := u4 0 0 0 ⟨#[]⟩ 1) (by simp [results, Tryd.results4, go_sem]) rfl ?_
      exact ⟨rfl, N⟩
  all_goals
    have q1 : 5 ≤ s.size ∧ s.extract 0 5 = hd5 := by
      unfold Bad1 at g1
      by_cases h5 : 5 ≤ s.size
      · exact ⟨h5, Classical.byContradiction fun h => g1 (Or.inr h)⟩
      · exact absurd (Or.inl h5) g1
    obtain ⟨h5, he⟩ := q1
    have z := hd_eq
    rw [← he] at z
    have h5I : ¬ (s.size : Int) < 5 := by omega
    have h5J : (5 : Int) ≤ (s.size : Int) := by omega
    have HD1 : Hid (9 ≤ s.size → ∀ W : World, _) := fun h W => specDig_val (s.extract 5 9) W (by rw [ext_size s 5 9 h])
    clear g1 he
  · obtain ⟨i1, i2, i3, i4⟩ := f_no (s := s) (by omega)
    rw [i1, i2, i3, i4, hc]
    clear hc i1 i2 i3 i4
    by_cases h17 : s.size < 17
    · have h17I : (s.size : Int) < 17 := by omega
      clear b2
      go_enter Tryd.func4, Tryd.ntmps4
      go_wp2
      refine bodyPost_ret (v := u4 0 0 0 ⟨#[]⟩ 2) (by simp [results, Tryd.results4, go_sem]) rfl ?_
      exact ⟨rfl, N⟩
    · have h17I : ¬ (s.size : Int) < 17 := by omega
      have h9J : (9 : Int) ≤ (s.size : Int) := by omega
      have hd := digI_none (b2.resolve_left h17)
      rw [hd] at HD1
      have HD2 : Hid (∀ W : World, _) := fun W => HD1.out (by omega) W
      clear b2 hd HD1
      go_enter Tryd.func4, Tryd.ntmps4
      go_wp2_with fail
      refine (HD2.out _).mono ?_
      rintro e w1 ⟨rfl, rfl⟩
      go_wp2
      refine bodyPost_ret (v := u4 0 0 0 ⟨#[]⟩ 2) (by simp [results, Tryd.results4, go_sem]) rfl ?_
      exact ⟨rfl, N⟩
  all_goals
    have q2 : 17 ≤ s.size ∧ ∃ n, dg (s.extract 5 9) 4 = some n := by
      unfold Bad2 at g2
      exact ⟨by omega, Option.ne_none_iff_exists'.1 fun h => g2 (Or.inr h)⟩
    obtain ⟨h17, n, hn⟩ := q2
    have hd := digI_some hn
    have HDI : Hid (digI (s.extract 5 9) = n) := hd
    rw [hd] at HD1
    have HD2 : Hid (∀ W : World, _) := fun W => HD1.out (by omega) W
    have h17I : ¬ (s.size : Int) < 17 := by omega
    have h9J : (9 : Int) ≤ (s.size : Int) := by omega
    have hn0 : ¬ ((n : Int) < 0) := by omega
    have HD3 : Hid (21 ≤ s.size → ∀ W : World, _) := fun h W => specDig_val (s.extract 17 21) W (by rw [ext_size s 17 21 h])
    clear g2 hd HD1 hn
  · obtain ⟨i1, i2, i3, i4⟩ := f_no (s := s) (by omega)
    rw [i1, i2, i3, i4, hc]
    clear hc i1 i2 i3 i4
    by_cases h21 : s.size < 21
    · have h21I : (s.size : Int) < 21 := by omega
      clear b3 HD3
      go_enter Tryd.func4, Tryd.ntmps4
      go_wp2_with fail
      refine (HD2.out _).mono ?_
      rintro e w1 ⟨rfl, rfl⟩
      go_wp2
      refine bodyPost_ret (v := u4 0 0 0 ⟨#[]⟩ 3) (by simp [results, Tryd.results4, go_sem]) rfl ?_
      exact ⟨rfl, N⟩
    · have h21I : ¬ (s.size : Int) < 21 := by omega
      have h21J : (21 : Int) ≤ (s.size : Int) := by omega
      have hne : digI (s.extract 17 21) ≠ (s.size : Int) - 21 := by
        intro h
        rcases b3 with h2 | h2
        · exact h21 h2
        · cases e : dg (s.extract 17 21) 4 with
          | none => rw [digI_none e] at h; omega
          | some k =>
            rw [digI_some e] at h
            apply h2
            rw [e]
            congr 1
            omega
      have HD4 : Hid (∀ W : World, _) := fun W => HD3.out (by omega) W
      generalize digI (s.extract 17 21) = D at *
      have hne2 : (D != (s.size : Int) - 21) = true := by simp [hne]
      have hne3 : (D != (s.size : Int) - 5 - 16) = true := by simp; omega
      have hne4 : ¬ (D = (s.size : Int) - 5 - 16) := by omega
      clear b3 HD3
      go_enter Tryd.func4, Tryd.ntmps4
      go_wp2_with fail
      refine (HD2.out _).mono ?_
      rintro e w1 ⟨rfl, rfl⟩
      go_wp2_with fail
      refine (HD4.out _).mono ?_
      rintro e w1 ⟨rfl, rfl⟩
      go_wp2
      refine bodyPost_ret (v := u4 0 0 0 ⟨#[]⟩ 3) (by simp [results, Tryd.results4, go_sem]) rfl ?_
      exact ⟨rfl, N⟩
  all_goals
    have q3 : 21 ≤ s.size ∧ dg (s.extract 17 21) 4 = some (s.size - 21) := by
      unfold Bad3 at g3
      exact ⟨by omega, Classical.byContradiction fun h => g3 (Or.inr h)⟩
    obtain ⟨h21, hk⟩ := q3
    have h21I : ¬ (s.size : Int) < 21 := by omega
    have h21J : (21 : Int) ≤ (s.size : Int) := by omega
    have hd3 := digI_some hk
    have HD4 : Hid (∀ W : World, _) := fun W => HD3.out (by omega) W
    rw [hd3] at HD4
    have hq3 : (((s.size - 21 : Nat) : Int) != (s.size : Int) - 5 - 16) = false := by simp; omega
    have hq4 : ((s.size - 21 : Nat) : Int) = (s.size : Int) - 5 - 16 := by omega
    have HUN : Hid (∀ W : World, _) := fun W => Pk.specUnpack_val (s.extract 21 s.size) W (by rw [ext_size s 21 s.size (Nat.le_refl _)]; unfold maxLen; omega)
    have h17J : (17 : Int) ≤ (s.size : Int) := by omega
    clear g3 hk hd3 HD3
  · obtain ⟨i1, i2, i3, i4⟩ := f_no (s := s) (by omega)
    rw [i1, i2, i3, i4, hc]
    have b4' : unpC (s.extract 21 s.size) ≠ 0 := b4
    generalize unpT (s.extract 21 s.size) = T5 at *
    generalize unpC (s.extract 21 s.size) = C5 at *
    have d10 : ((C5 : Int) != 0) = true := by simp; exact b4'
    have d10b : ¬ ((C5 : Int) = 0) := by omega
    clear hc i1 i2 i3 i4 b4 b4'
    go_enter Tryd.func4, Tryd.ntmps4
    go_wp2_with fail
    refine (HD2.out _).mono ?_
    rintro e w1 ⟨rfl, rfl⟩
    go_wp2_with fail
    refine (HD4.out _).mono ?_
    rintro e w1 ⟨rfl, rfl⟩
    go_wp2_with fail
    refine (HUN.out _).mono ?_
    rintro e w2 ⟨rfl, L2⟩
    have m2 := kept L2 (lt_of m0) m0
    have L3 := join_below N L2
    have d0 := cell_at m2 0
    have d1 := cell_at m2 1
    have f0 := frozen_at m2 0
    have f1 := frozen_at m2 1
    simp at d0 d1
    have HS : Hid (_) := set_two _ w.heap.size _ _ (.int .i64 0) (.int .i64 0) _ m2
    have HL : Hid (Below w.heap.size w ((w2.setCell ⟨w.heap.size, 0, none⟩ (.int .i64 0)).setCell ⟨w.heap.size, 1, none⟩ (.int .i64 0))) := (L3.setCell (p := ⟨w.heap.size, 0, none⟩) (Nat.le_refl _) _).setCell (p := ⟨w.heap.size, 1, none⟩) (Nat.le_refl _) _
    clear m2 m0 N L2 L3
    go_wp2
    have mE := HS.out
    have HLD := HL.out
    generalize (w2.setCell ⟨w.heap.size, 0, none⟩ (.int .i64 0)).setCell ⟨w.heap.size, 1, none⟩ (.int .i64 0) = WE at *
    have k0 : WE.cell? ⟨w.heap.size, 0, none⟩ = some (.int .i64 0) := cell_at mE 0
    have k1 : WE.cell? ⟨w.heap.size, 1, none⟩ = some (.int .i64 0) := cell_at mE 1
    refine bodyPost_ret (v := u4 0 0 0 ⟨#[]⟩ 4) (by simp [results, Tryd.results4, go_sem, k0, k1]) rfl ?_
    exact ⟨rfl, HLD⟩
  · obtain ⟨i1, i2, i3, i4⟩ := f_yes hc
    rw [HDI.out] at i1
    rw [i1, i2, i3, i4, hc]
    have g4' : unpC (s.extract 21 s.size) = 0 := Classical.byContradiction fun h => g4 h
    rw [g4'] at HUN
    have HMK : Hid (∀ W : World, _) := fun W => Num.specReadMark_val (s.extract 9 17) W (by rw [ext_size s 9 17 h17]; unfold maxLen; omega)
    generalize unpT (s.extract 21 s.size) = T5 at *
    generalize rmR (s.extract 9 17) = mR at *
    generalize rmS (s.extract 9 17) = mS at *
    generalize decide ((s.extract 9 17).size = 8) = mB at *
    clear hc i1 i2 i3 i4 g4 g4' HDI
    go_enter Tryd.func4, Tryd.ntmps4
    go_wp2_with fail
    refine (HD2.out _).mono ?_
    rintro e w1 ⟨rfl, rfl⟩
    go_wp2_with fail
    refine (HD4.out _).mono ?_
    rintro e w1 ⟨rfl, rfl⟩
    go_wp2_with fail
    refine (HUN.out _).mono ?_
    rintro e w2 ⟨rfl, L2⟩
    have m2 := kept L2 (lt_of m0) m0
    have L3 := join_below N L2
    go_wp2_with fail
    refine (HMK.out _).mono ?_
    rintro e w3 ⟨rfl, L4⟩
    have m3 := kept L4 (lt_of m2) m2
    have L5 := join_below L3 L4
    have N5 := new_below w3 (.cells #[.int .i64 mR, .int .i64 mS] 23)
    have x5 := heap_new w3 (.cells #[.int .i64 mR, .int .i64 mS] 23)
    have m5 := kept N5 (lt_of m3) m3
    have L6 := join_below L5 N5
    have hne : w.heap.size ≠ w3.heap.size := by have := lt_of m3; omega
    clear m2 m0 N L2 L3 L4 L5 N5 m3 HUN HMK HD4
    go_wp2
    generalize w3.alloc (.cells #[.int .i64 mR, .int .i64 mS] 23) = W3 at *
    have q0 : W3.cell? ⟨w3.heap.size, 0, none⟩ = some (.int .i64 mR) := cell_at x5 0
    have q1 : W3.cell? ⟨w3.heap.size, 1, none⟩ = some (.int .i64 mS) := cell_at x5 1
    have d0 : W3.cell? ⟨w.heap.size, 0, none⟩ = some (.int .i64 0) := cell_at m5 0
    have d1 : W3.cell? ⟨w.heap.size, 1, none⟩ = some (.int .i64 0) := cell_at m5 1
    have f0 := frozen_at m5 0
    have f1 := frozen_at m5 1
    have HS : Hid (_) := set_two _ w.heap.size _ _ (.int .i64 mR) (.int .i64 mS) _ m5
    have HL : Hid (Below w.heap.size w ((W3.setCell ⟨w.heap.size, 0, none⟩ (.int .i64 mR)).setCell ⟨w.heap.size, 1, none⟩ (.int .i64 mS))) := (L6.setCell (p := ⟨w.heap.size, 0, none⟩) (Nat.le_refl _) _).setCell (p := ⟨w.heap.size, 1, none⟩) (Nat.le_refl _) _
    clear m5 x5 L6
    have hsl : ∀ W, (Instr.slice 9 (.string s) (some (.int .i64 5)) (some (.int .i64 9)) none).run Tryd.prog W = .ok (.string (s.extract 5 9)) W := fun W => by
      simp [go_sem, Tryd.underlying9, h9J]
      try omega
    have s0 : ((W3.setCell ⟨w.heap.size, 0, none⟩ (.int .i64 mR)).setCell ⟨w.heap.size, 1, none⟩ (.int .i64 mS)).drew.cell? ⟨w3.heap.size, 0, none⟩ = some (.int .i64 mR) := by
      show ((W3.setCell ⟨w.heap.size, 0, none⟩ (.int .i64 mR)).setCell ⟨w.heap.size, 1, none⟩ (.int .i64 mS)).cell? ⟨w3.heap.size, 0, none⟩ = _
      rw [World.cell?_of_block (Below.heap_setCell _ _ _ _ (fun h => hne h.symm)), World.cell?_of_block (Below.heap_setCell _ _ _ _ (fun h => hne h.symm))]
      exact q0
    have s1 : ((W3.setCell ⟨w.heap.size, 0, none⟩ (.int .i64 mR)).setCell ⟨w.heap.size, 1, none⟩ (.int .i64 mS)).drew.cell? ⟨w3.heap.size, 1, none⟩ = some (.int .i64 mS) := by
      show ((W3.setCell ⟨w.heap.size, 0, none⟩ (.int .i64 mR)).setCell ⟨w.heap.size, 1, none⟩ (.int .i64 mS)).cell? ⟨w3.heap.size, 1, none⟩ = _
      rw [World.cell?_of_block (Below.heap_setCell _ _ _ _ (fun h => hne h.symm)), World.cell?_of_block (Below.heap_setCell _ _ _ _ (fun h => hne h.symm))]
      exact q1
    refine wp_region_held_drew (S := (fun w' => w'.cell? ⟨w3.heap.size, 0, none⟩ = some (.int .i64 mR) ∧ w'.cell? ⟨w3.heap.size, 1, none⟩ = some (.int .i64 mS))) (by kernel_rfl) ?_ (fun hHeld => ?_)
    · exact ⟨q0, q1⟩
    refine wpAnyH_take (i := 0) (v := .string s) rfl (by kernel_rfl) (by kernel_rfl) (by kernel_rfl) (fun _ _ _ h => h) (Or.inl ⟨by kernel_rfl, fun w hSw => by first | (go_simp; done) | (dsimp only at hSw; obtain ⟨hS0, hS1⟩ := hSw; go_simp; done) | rfl⟩) (by assumption) ?_
    simp only [Act.put, List.getElem_toArray, List.getElem_cons_succ, List.getElem_cons_zero, List.setIfInBounds_toArray, List.set_cons_succ, List.set_cons_zero]
    refine wpAnyH_take (i := 1) (v := .int .i64 5) rfl (by kernel_rfl) (by kernel_rfl) (by kernel_rfl) (fun _ _ _ h => h) (Or.inl ⟨by kernel_rfl, fun w hSw => by first | (go_simp; done) | (dsimp only at hSw; obtain ⟨hS0, hS1⟩ := hSw; go_simp; done) | rfl⟩) (by assumption) ?_
    simp only [Act.put, List.getElem_toArray, List.getElem_cons_succ, List.getElem_cons_zero, List.setIfInBounds_toArray, List.set_cons_succ, List.set_cons_zero]
    refine wpAnyH_take (i := 2) (v := .int .i64 5) rfl (by kernel_rfl) (by kernel_rfl) (by kernel_rfl) (fun _ _ _ h => h) (Or.inl ⟨by kernel_rfl, fun w hSw => by first | (go_simp; done) | (dsimp only at hSw; obtain ⟨hS0, hS1⟩ := hSw; go_simp; done) | rfl⟩) (by assumption) ?_
    simp only [Act.put, List.getElem_toArray, List.getElem_cons_succ, List.getElem_cons_zero, List.setIfInBounds_toArray, List.set_cons_succ, List.set_cons_zero]
    refine wpAnyH_take (i := 3) (v := .int .i64 9) rfl (by kernel_rfl) (by kernel_rfl) (by kernel_rfl) (fun _ _ _ h => h) (Or.inl ⟨by kernel_rfl, fun w hSw => by first | (go_simp; done) | (dsimp only at hSw; obtain ⟨hS0, hS1⟩ := hSw; go_simp; done) | rfl⟩) (by assumption) ?_
    simp only [Act.put, List.getElem_toArray, List.getElem_cons_succ, List.getElem_cons_zero, List.setIfInBounds_toArray, List.set_cons_succ, List.set_cons_zero]
    refine wpAnyH_take (i := 4) (v := .string (s.extract 5 9)) rfl (by kernel_rfl) (by kernel_rfl) (by kernel_rfl) (fun _ _ _ h => h) (Or.inl ⟨by kernel_rfl, fun w hSw => by first | (go_simp; done) | (dsimp only at hSw; obtain ⟨hS0, hS1⟩ := hSw; go_simp; done) | rfl⟩) (by assumption) ?_
    simp only [Act.put, List.getElem_toArray, List.getElem_cons_succ, List.getElem_cons_zero, List.setIfInBounds_toArray, List.set_cons_succ, List.set_cons_zero]
    refine wpAnyH_take (i := 6) (v := .agg #[.int .i64 mR, .int .i64 mS]) rfl (by kernel_rfl) (by kernel_rfl) (by kernel_rfl) (fun _ _ _ h => h) (Or.inl ⟨by kernel_rfl, fun w hSw => by first | (go_simp; done) | (dsimp only at hSw; obtain ⟨hS0, hS1⟩ := hSw; go_simp; done) | rfl⟩) (by assumption) ?_
    simp only [Act.put, List.getElem_toArray, List.getElem_cons_succ, List.getElem_cons_zero, List.setIfInBounds_toArray, List.set_cons_succ, List.set_cons_zero]
    refine wpAnyH_take (i := 7) (v := .string T5) rfl (by kernel_rfl) (by kernel_rfl) (by kernel_rfl) (fun _ _ _ h => h) (Or.inl ⟨by kernel_rfl, fun w hSw => by first | (go_simp; done) | (dsimp only at hSw; obtain ⟨hS0, hS1⟩ := hSw; go_simp; done) | rfl⟩) (by assumption) ?_
    simp only [Act.put, List.getElem_toArray, List.getElem_cons_succ, List.getElem_cons_zero, List.setIfInBounds_toArray, List.set_cons_succ, List.set_cons_zero]
    refine wpAnyH_ready (rs := [5]) (by kernel_rfl) (by simp) ?_
    refine AllReadyH.cons rfl (fun K hK => ?_) AllReadyH.nil
    go_simp
    go_wp2_with (go_at_call 7; (with_reducible refine (HD2.out _).mono ?_); rintro e wq ⟨rfl, hwq⟩; have hwqq := hwq.symm; subst hwqq; clear hwq)
    refine hK.out _ _ ?_ (fun hHeld2 => ?_)
    · (first | (with_reducible exact ⟨q0, q1⟩) | (with_reducible exact ⟨s0, s1⟩) | exact ⟨q0, q1⟩ | exact ⟨s0, s1⟩)
    clear hK K hHeld
    have hHeld := hHeld2
    clear hHeld2
    refine wpAnyH_ready (rs := [8]) (by kernel_rfl) (by simp) ?_
    refine AllReadyH.cons rfl (fun K hK => ?_) AllReadyH.nil
    go_simp
    refine hK.out _ _ ?_ (fun hHeld2 => ?_)
    · (first | (with_reducible exact ⟨q0, q1⟩) | (with_reducible exact ⟨s0, s1⟩) | exact ⟨q0, q1⟩ | exact ⟨s0, s1⟩)
    clear hK K hHeld
    have hHeld := hHeld2
    clear hHeld2
    refine wpAnyH_ready (rs := [9]) (by kernel_rfl) (by simp) ?_
    refine AllReadyH.cons rfl (fun K hK => ?_) AllReadyH.nil
    go_simp
    refine hK.out _ _ ?_ (fun hHeld2 => ?_)
    · (first | (with_reducible exact ⟨q0, q1⟩) | (with_reducible exact ⟨s0, s1⟩) | exact ⟨q0, q1⟩ | exact ⟨s0, s1⟩)
    clear hK K hHeld
    have hHeld := hHeld2
    clear hHeld2
    refine wpAnyH_ready (rs := [10]) (by kernel_rfl) (by simp) ?_
    refine AllReadyH.cons rfl (fun K hK => ?_) AllReadyH.nil
    go_simp
    refine hK.out _ _ ?_ (fun hHeld2 => ?_)
    · (first | (with_reducible exact ⟨q0, q1⟩) | (with_reducible exact ⟨s0, s1⟩) | exact ⟨q0, q1⟩ | exact ⟨s0, s1⟩)
    clear hK K hHeld
    have hHeld := hHeld2
    clear hHeld2
    refine wpAnyH_ready (rs := [11]) (by kernel_rfl) (by simp) ?_
    refine AllReadyH.cons rfl (fun K hK => ?_) AllReadyH.nil
    go_simp
    refine hK.out _ _ ?_ (fun hHeld2 => ?_)
    · (first | (with_reducible exact ⟨q0, q1⟩) | (with_reducible exact ⟨s0, s1⟩) | exact ⟨q0, q1⟩ | exact ⟨s0, s1⟩)
    clear hK K hHeld
    have hHeld := hHeld2
    clear hHeld2
    refine wpAnyH_done (by kernel_rfl) ?_ _
    go_wp2
    have mE := HS.out
    have HLD := HL.out.drew
    generalize (W3.setCell ⟨w.heap.size, 0, none⟩ (.int .i64 mR)).setCell ⟨w.heap.size, 1, none⟩ (.int .i64 mS) = WE at *
    have k0 : WE.drew.cell? ⟨w.heap.size, 0, none⟩ = some (.int .i64 mR) := cell_at (w := WE.drew) mE 0
    have k1 : WE.drew.cell? ⟨w.heap.size, 1, none⟩ = some (.int .i64 mS) := cell_at (w := WE.drew) mE 1
    refine bodyPost_ret (v := u4 (n : Int) mR mS T5 0) (by simp [results, Tryd.results4, go_sem, k0, k1]) rfl ?_
    exact ⟨rfl, HLD⟩

end Fr
end Go.Proofs.YtcifgableeeooalDoor

/- The order of the program's heap of ways. -/
import Derived.Test.YtfoccmhmgdengaaEaCmp
import Derived.Deep.RegionHeld3
import Derived.Deep.Cut
namespace Go.Proofs.Ytfoccmhmgdengaa
namespace Rd
open Go.ChangeShapes Go.WideShapes Go.ChangeAt Go.RowKit
open Pk (new_below join_below cell_at heap_new lt_of kept)
set_option linter.unusedSimpArgs false
set_option linter.unusedVariables false

theorem less_leW (a b : Vw) : decide (orL [cmpI a.y b.y, cmpI (a.n : Int) (b.n : Int)] < 0) = true ↔ ¬ leW b a := by
  rw [decide_eq_true_eq]
  unfold leW
  have c1 : ∀ x y : Int, (x < y ∧ cmpI x y = -1) ∨ (x = y ∧ cmpI x y = 0) ∨ (y < x ∧ cmpI x y = 1) := fun x y => by
    unfold cmpI
    by_cases h1 : x < y
    · exact Or.inl ⟨h1, if_pos h1⟩
    · by_cases h2 : y < x
      · exact Or.inr (Or.inr ⟨h2, by rw [if_neg h1, if_pos h2]⟩)
      · exact Or.inr (Or.inl ⟨by omega, by rw [if_neg h1, if_neg h2]⟩)
  rcases c1 a.y b.y with ⟨h, e⟩ | ⟨h, e⟩ | ⟨h, e⟩
  · simp only [orL, e]
    simp
    omega
  · rcases c1 (a.n : Int) (b.n : Int) with ⟨h', e'⟩ | ⟨h', e'⟩ | ⟨h', e'⟩
    · simp only [orL, e, e']
      simp
      omega
    · simp only [orL, e, e']
      simp
      omega
    · simp only [orL, e, e']
      simp
      omega
  · simp only [orL, e]
    simp
    omega

set_option maxRecDepth 100000 in
set_option maxHeartbeats 4000000 in
theorem heapLess_val (g n cap i j : Nat) (yi yj ni nj : Int) (w : World) (hi : i < n) (hj : j < n) (hg : g < w.heap.size) (H : (fun w' : World => w'.cell? ⟨g, i * 3 + 1, none⟩ = some (.int .i64 yi) ∧ w'.cell? ⟨g, j * 3 + 1, none⟩ = some (.int .i64 yj) ∧ w'.cell? ⟨g, i * 3 + 2, none⟩ = some (.int .i64 ni) ∧ w'.cell? ⟨g, j * 3 + 2, none⟩ = some (.int .i64 nj)) w) :
    Calls Try.prog 98 #[.slice (some ⟨g, 0, none⟩) n cap, .int .i64 i, .int .i64 j] w fun e w' => e = .returned (.bool (decide (orL [cmpI yi yj, cmpI ni nj] < 0))) ∧ Below w.heap.size w w' := by
  have hi1 : (i : Int) < (n : Int) := by omega
  have hj1 : (j : Int) < (n : Int) := by omega
  have HK : Hid (∀ v, Below w.heap.size w v → (fun w' : World => w'.cell? ⟨g, i * 3 + 1, none⟩ = some (.int .i64 yi) ∧ w'.cell? ⟨g, j * 3 + 1, none⟩ = some (.int .i64 yj) ∧ w'.cell? ⟨g, i * 3 + 2, none⟩ = some (.int .i64 ni) ∧ w'.cell? ⟨g, j * 3 + 2, none⟩ = some (.int .i64 nj)) v) := fun v L => ⟨(L.cell (p := ⟨g, i * 3 + 1, none⟩) hg).trans H.1, (L.cell (p := ⟨g, j * 3 + 1, none⟩) hg).trans H.2.1, (L.cell (p := ⟨g, i * 3 + 2, none⟩) hg).trans H.2.2.1, (L.cell (p := ⟨g, j * 3 + 2, none⟩) hg).trans H.2.2.2⟩
  have K0 : Below w.heap.size w w.drew := (Below.refl _ _).drew
  have K1 : Below w.heap.size w (w.alloc (.cells #[.int .i64 (cmpI yi yj), .int .i64 (cmpI ni nj)] 3)).drew := (new_below w (.cells #[.int .i64 (cmpI yi yj), .int .i64 (cmpI ni nj)] 3)).drew
  have HOR : Calls Try.prog 79 #[.slice (some ⟨w.heap.size, 0, none⟩) 2 2] (w.alloc (.cells #[.int .i64 (cmpI yi yj), .int .i64 (cmpI ni nj)] 3)).drew fun e w' => e = .returned (.int .i64 (orL [cmpI yi yj, cmpI ni nj])) ∧ w' = (w.alloc (.cells #[.int .i64 (cmpI yi yj), .int .i64 (cmpI ni nj)] 3)).drew := or_val [cmpI yi yj, cmpI ni nj] w.heap.size 0 2 (w.alloc (.cells #[.int .i64 (cmpI yi yj), .int .i64 (cmpI ni nj)] 3)).drew (by simp) (fun k hk => by
    have h := cell_at (w := (w.alloc (.cells #[.int .i64 (cmpI yi yj), .int .i64 (cmpI ni nj)] 3)).drew) (heap_new w (.cells #[.int .i64 (cmpI yi yj), .int .i64 (cmpI ni nj)] 3))
    match k, hk with
    | 0, _ => exact h 0
    | 1, _ => exact h 1)
  clear H
  go_enter Try.func98, Try.ntmps98
  go_upto_region 1 with fail
  refine wp_region_held_drew (S := (fun w' => w'.cell? ⟨g, i * 3 + 1, none⟩ = some (.int .i64 yi) ∧ w'.cell? ⟨g, j * 3 + 1, none⟩ = some (.int .i64 yj) ∧ w'.cell? ⟨g, i * 3 + 2, none⟩ = some (.int .i64 ni) ∧ w'.cell? ⟨g, j * 3 + 2, none⟩ = some (.int .i64 nj))) (by kernel_rfl) ?_ (fun hHeld => ?_)
  · exact HK.out _ K0
  refine wpAnyH_take (i := 0) (v := .slice (some ⟨g, 0, none⟩) n cap) rfl (by kernel_rfl) (by kernel_rfl) (by kernel_rfl) (fun _ _ _ h => h) (Or.inl ⟨by kernel_rfl, fun w hSw => by first | (go_simp; done) | (dsimp only at hSw; obtain ⟨hS0, hS1, hS2, hS3⟩ := hSw; go_simp; done) | rfl⟩) (by assumption) ?_
  simp only [Act.put, List.getElem_toArray, List.getElem_cons_succ, List.getElem_cons_zero, List.setIfInBounds_toArray, List.set_cons_succ, List.set_cons_zero]
  refine wpAnyH_take (i := 1) (v := .int .i64 i) rfl (by kernel_rfl) (by kernel_rfl) (by kernel_rfl) (fun _ _ _ h => h) (Or.inl ⟨by kernel_rfl, fun w hSw => by first | (go_simp; done) | (dsimp only at hSw; obtain ⟨hS0, hS1, hS2, hS3⟩ := hSw; go_simp; done) | rfl⟩) (by assumption) ?_
  simp only [Act.put, List.getElem_toArray, List.getElem_cons_succ, List.getElem_cons_zero, List.setIfInBounds_toArray, List.set_cons_succ, List.set_cons_zero]
  refine wpAnyH_take (i := 2) (v := .pointer (some ⟨g, i * 3, none⟩)) rfl (by kernel_rfl) (by kernel_rfl) (by kernel_rfl) (fun _ _ _ h => h) (Or.inl ⟨by kernel_rfl, fun w hSw => by first | (go_simp; done) | (dsimp only at hSw; obtain ⟨hS0, hS1, hS2, hS3⟩ := hSw; go_simp; done) | rfl⟩) (by assumption) ?_
  simp only [Act.put, List.getElem_toArray, List.getElem_cons_succ, List.getElem_cons_zero, List.setIfInBounds_toArray, List.set_cons_succ, List.set_cons_zero]
  refine wpAnyH_take (i := 3) (v := .pointer (some ⟨g, i * 3 + 1, none⟩)) rfl (by kernel_rfl) (by kernel_rfl) (by kernel_rfl) (fun _ _ _ h => h) (Or.inl ⟨by kernel_rfl, fun w hSw => by first | (go_simp; done) | (dsimp only at hSw; obtain ⟨hS0, hS1, hS2, hS3⟩ := hSw; go_simp; done) | rfl⟩) (by assumption) ?_
  simp only [Act.put, List.getElem_toArray, List.getElem_cons_succ, List.getElem_cons_zero, List.setIfInBounds_toArray, List.set_cons_succ, List.set_cons_zero]
  refine wpAnyH_take (i := 4) (v := .int .i64 yi) rfl (by kernel_rfl) (by kernel_rfl) (by kernel_rfl) (fun _ _ _ h => h) (Or.inl ⟨by kernel_rfl, fun w hSw => by first | (obtain ⟨z0, z1, z2, z3⟩ := hSw; go_simp; done) | (go_simp; done) | (dsimp only at hSw; obtain ⟨hS0, hS1, hS2, hS3⟩ := hSw; go_simp; done) | rfl⟩) (by assumption) ?_
  simp only [Act.put, List.getElem_toArray, List.getElem_cons_succ, List.getElem_cons_zero, List.setIfInBounds_toArray, List.set_cons_succ, List.set_cons_zero]
  refine wpAnyH_take (i := 5) (v := .slice (some ⟨g, 0, none⟩) n cap) rfl (by kernel_rfl) (by kernel_rfl) (by kernel_rfl) (fun _ _ _ h => h) (Or.inl ⟨by kernel_rfl, fun w hSw => by first | (go_simp; done) | (dsimp only at hSw; obtain ⟨hS0, hS1, hS2, hS3⟩ := hSw; go_simp; done) | rfl⟩) (by assumption) ?_
  simp only [Act.put, List.getElem_toArray, List.getElem_cons_succ, List.getElem_cons_zero, List.setIfInBounds_toArray, List.set_cons_succ, List.set_cons_zero]
  refine wpAnyH_take (i := 6) (v := .int .i64 j) rfl (by kernel_rfl) (by kernel_rfl) (by kernel_rfl) (fun _ _ _ h => h) (Or.inl ⟨by kernel_rfl, fun w hSw => by first | (go_simp; done) | (dsimp only at hSw; obtain ⟨hS0, hS1, hS2, hS3⟩ := hSw; go_simp; done) | rfl⟩) (by assumption) ?_
  simp only [Act.put, List.getElem_toArray, List.getElem_cons_succ, List.getElem_cons_zero, List.setIfInBounds_toArray, List.set_cons_succ, List.set_cons_zero]
  refine wpAnyH_take (i := 7) (v := .pointer (some ⟨g, j * 3, none⟩)) rfl (by kernel_rfl) (by kernel_rfl) (by kernel_rfl) (fun _ _ _ h => h) (Or.inl ⟨by kernel_rfl, fun w hSw => by first | (go_simp; done) | (dsimp only at hSw; obtain ⟨hS0, hS1, hS2, hS3⟩ := hSw; go_simp; done) | rfl⟩) (by assumption) ?_
  simp only [Act.put, List.getElem_toArray, List.getElem_cons_succ, List.getElem_cons_zero, List.setIfInBounds_toArray, List.set_cons_succ, List.set_cons_zero]
  refine wpAnyH_take (i := 8) (v := .pointer (some ⟨g, j * 3 + 1, none⟩)) rfl (by kernel_rfl) (by kernel_rfl) (by kernel_rfl) (fun _ _ _ h => h) (Or.inl ⟨by kernel_rfl, fun w hSw => by first | (go_simp; done) | (dsimp only at hSw; obtain ⟨hS0, hS1, hS2, hS3⟩ := hSw; go_simp; done) | rfl⟩) (by assumption) ?_
  simp only [Act.put, List.getElem_toArray, List.getElem_cons_succ, List.getElem_cons_zero, List.setIfInBounds_toArray, List.set_cons_succ, List.set_cons_zero]
  refine wpAnyH_take (i := 9) (v := .int .i64 yj) rfl (by kernel_rfl) (by kernel_rfl) (by kernel_rfl) (fun _ _ _ h => h) (Or.inl ⟨by kernel_rfl, fun w hSw => by first | (obtain ⟨z0, z1, z2, z3⟩ := hSw; go_simp; done) | (go_simp; done) | (dsimp only at hSw; obtain ⟨hS0, hS1, hS2, hS3⟩ := hSw; go_simp; done) | rfl⟩) (by assumption) ?_
  simp only [Act.put, List.getElem_toArray, List.getElem_cons_succ, List.getElem_cons_zero, List.setIfInBounds_toArray, List.set_cons_succ, List.set_cons_zero]
  refine wpAnyH_take (i := 11) (v := .slice (some ⟨g, 0, none⟩) n cap) rfl (by kernel_rfl) (by kernel_rfl) (by kernel_rfl) (fun _ _ _ h => h) (Or.inl ⟨by kernel_rfl, fun w hSw => by first | (go_simp; done) | (dsimp only at hSw; obtain ⟨hS0, hS1, hS2, hS3⟩ := hSw; go_simp; done) | rfl⟩) (by assumption) ?_
  simp only [Act.put, List.getElem_toArray, List.getElem_cons_succ, List.getElem_cons_zero, List.setIfInBounds_toArray, List.set_cons_succ, List.set_cons_zero]
  refine wpAnyH_take (i := 12) (v := .int .i64 i) rfl (by kernel_rfl) (by kernel_rfl) (by kernel_rfl) (fun _ _ _ h => h) (Or.inl ⟨by kernel_rfl, fun w hSw => by first | (go_simp; done) | (dsimp only at hSw; obtain ⟨hS0, hS1, hS2, hS3⟩ := hSw; go_simp; done) | rfl⟩) (by assumption) ?_
  simp only [Act.put, List.getElem_toArray, List.getElem_cons_succ, List.getElem_cons_zero, List.setIfInBounds_toArray, List.set_cons_succ, List.set_cons_zero]
  refine wpAnyH_take (i := 13) (v := .pointer (some ⟨g, i * 3, none⟩)) rfl (by kernel_rfl) (by kernel_rfl) (by kernel_rfl) (fun _ _ _ h => h) (Or.inl ⟨by kernel_rfl, fun w hSw => by first | (go_simp; done) | (dsimp only at hSw; obtain ⟨hS0, hS1, hS2, hS3⟩ := hSw; go_simp; done) | rfl⟩) (by assumption) ?_
  simp only [Act.put, List.getElem_toArray, List.getElem_cons_succ, List.getElem_cons_zero, List.setIfInBounds_toArray, List.set_cons_succ, List.set_cons_zero]
  refine wpAnyH_take (i := 14) (v := .pointer (some ⟨g, i * 3 + 2, none⟩)) rfl (by kernel_rfl) (by kernel_rfl) (by kernel_rfl) (fun _ _ _ h => h) (Or.inl ⟨by kernel_rfl, fun w hSw => by first | (go_simp; done) | (dsimp only at hSw; obtain ⟨hS0, hS1, hS2, hS3⟩ := hSw; go_simp; done) | rfl⟩) (by assumption) ?_
  simp only [Act.put, List.getElem_toArray, List.getElem_cons_succ, List.getElem_cons_zero, List.setIfInBounds_toArray, List.set_cons_succ, List.set_cons_zero]
  refine wpAnyH_take (i := 15) (v := .int .i64 ni) rfl (by kernel_rfl) (by kernel_rfl) (by kernel_rfl) (fun _ _ _ h => h) (Or.inl ⟨by kernel_rfl, fun w hSw => by first | (obtain ⟨z0, z1, z2, z3⟩ := hSw; go_simp; done) | (go_simp; done) | (dsimp only at hSw; obtain ⟨hS0, hS1, hS2, hS3⟩ := hSw; go_simp; done) | rfl⟩) (by assumption) ?_
  simp only [Act.put, List.getElem_toArray, List.getElem_cons_succ, List.getElem_cons_zero, List.setIfInBounds_toArray, List.set_cons_succ, List.set_cons_zero]
  refine wpAnyH_take (i := 16) (v := .slice (some ⟨g, 0, none⟩) n cap) rfl (by kernel_rfl) (by kernel_rfl) (by kernel_rfl) (fun _ _ _ h => h) (Or.inl ⟨by kernel_rfl, fun w hSw => by first | (go_simp; done) | (dsimp only at hSw; obtain ⟨hS0, hS1, hS2, hS3⟩ := hSw; go_simp; done) | rfl⟩) (by assumption) ?_
  simp only [Act.put, List.getElem_toArray, List.getElem_cons_succ, List.getElem_cons_zero, List.setIfInBounds_toArray, List.set_cons_succ, List.set_cons_zero]
  refine wpAnyH_take (i := 17) (v := .int .i64 j) rfl (by kernel_rfl) (by kernel_rfl) (by kernel_rfl) (fun _ _ _ h => h) (Or.inl ⟨by kernel_rfl, fun w hSw => by first | (go_simp; done) | (dsimp only at hSw; obtain ⟨hS0, hS1, hS2, hS3⟩ := hSw; go_simp; done) | rfl⟩) (by assumption) ?_
  simp only [Act.put, List.getElem_toArray, List.getElem_cons_succ, List.getElem_cons_zero, List.setIfInBounds_toArray, List.set_cons_succ, List.set_cons_zero]
  refine wpAnyH_take (i := 18) (v := .pointer (some ⟨g, j * 3, none⟩)) rfl (by kernel_rfl) (by kernel_rfl) (by kernel_rfl) (fun _ _ _ h => h) (Or.inl ⟨by kernel_rfl, fun w hSw => by first | (go_simp; done) | (dsimp only at hSw; obtain ⟨hS0, hS1, hS2, hS3⟩ := hSw; go_simp; done) | rfl⟩) (by assumption) ?_
  simp only [Act.put, List.getElem_toArray, List.getElem_cons_succ, List.getElem_cons_zero, List.setIfInBounds_toArray, List.set_cons_succ, List.set_cons_zero]
  refine wpAnyH_take (i := 19) (v := .pointer (some ⟨g, j * 3 + 2, none⟩)) rfl (by kernel_rfl) (by kernel_rfl) (by kernel_rfl) (fun _ _ _ h => h) (Or.inl ⟨by kernel_rfl, fun w hSw => by first | (go_simp; done) | (dsimp only at hSw; obtain ⟨hS0, hS1, hS2, hS3⟩ := hSw; go_simp; done) | rfl⟩) (by assumption) ?_
  simp only [Act.put, List.getElem_toArray, List.getElem_cons_succ, List.getElem_cons_zero, List.setIfInBounds_toArray, List.set_cons_succ, List.set_cons_zero]
  refine wpAnyH_take (i := 20) (v := .int .i64 nj) rfl (by kernel_rfl) (by kernel_rfl) (by kernel_rfl) (fun _ _ _ h => h) (Or.inl ⟨by kernel_rfl, fun w hSw => by first | (obtain ⟨z0, z1, z2, z3⟩ := hSw; go_simp; done) | (go_simp; done) | (dsimp only at hSw; obtain ⟨hS0, hS1, hS2, hS3⟩ := hSw; go_simp; done) | rfl⟩) (by assumption) ?_
  simp only [Act.put, List.getElem_toArray, List.getElem_cons_succ, List.getElem_cons_zero, List.setIfInBounds_toArray, List.set_cons_succ, List.set_cons_zero]
  refine wpAnyH_ready (rs := [10]) (by kernel_rfl) (by simp) ?_
  refine AllReadyH.cons rfl (fun K hK => ?_) AllReadyH.nil
  go_simp
  go_wp2_with ((go_at_call 80; (with_reducible refine (compare_val yi yj _).mono ?_); rintro e v1 ⟨rfl, rfl⟩))
  refine hK.out _ _ ?_ (fun hHeld2 => ?_)
  · first | exact hHeld | exact HK.out _ K0 | exact HK.out _ K1
  clear hK K hHeld
  have hHeld := hHeld2
  clear hHeld2
  refine wpAnyH_ready (rs := [21]) (by kernel_rfl) (by simp) ?_
  refine AllReadyH.cons rfl (fun K hK => ?_) AllReadyH.nil
  go_simp
  go_wp2_with ((go_at_call 80; (with_reducible refine (compare_val ni nj _).mono ?_); rintro e v1 ⟨rfl, rfl⟩))
  refine hK.out _ _ ?_ (fun hHeld2 => ?_)
  · first | exact hHeld | exact HK.out _ K0 | exact HK.out _ K1
  clear hK K hHeld
  have hHeld := hHeld2
  clear hHeld2
  refine wpAnyH_ready (rs := [22]) (by kernel_rfl) (by simp) ?_
  refine AllReadyH.cons rfl (fun K hK => ?_) AllReadyH.nil
  go_simp
  refine hK.out _ _ ?_ (fun hHeld2 => ?_)
  · first | exact hHeld | exact HK.out _ K0 | exact HK.out _ K1
  clear hK K hHeld
  have hHeld := hHeld2
  clear hHeld2
  refine wpAnyH_ready (rs := [23]) (by kernel_rfl) (by simp) ?_
  refine AllReadyH.cons rfl (fun K hK => ?_) AllReadyH.nil
  go_simp
  go_wp2_with ((go_at_call 79; (with_reducible refine HOR.mono ?_); rintro e v1 ⟨rfl, rfl⟩))
  refine hK.out _ _ ?_ (fun hHeld2 => ?_)
  · first | exact hHeld | exact HK.out _ K0 | exact HK.out _ K1
  clear hK K hHeld
  have hHeld := hHeld2
  clear hHeld2
  refine wpAnyH_take (i := 24) (v := .bool (decide (orL [cmpI yi yj, cmpI ni nj] < 0))) rfl (by kernel_rfl) (by kernel_rfl) (by kernel_rfl) (fun _ _ _ h => h) (Or.inl ⟨by kernel_rfl, fun w hSw => by first | (go_simp; done) | (dsimp only at hSw; obtain ⟨hS0, hS1, hS2, hS3⟩ := hSw; go_simp; done) | rfl⟩) (by assumption) ?_
  simp only [Act.put, List.getElem_toArray, List.getElem_cons_succ, List.getElem_cons_zero, List.setIfInBounds_toArray, List.set_cons_succ, List.set_cons_zero]
  refine wpAnyH_ready (rs := [25]) (by kernel_rfl) (by simp) ?_
  refine AllReadyH.cons rfl (fun K hK => ?_) AllReadyH.nil
  go_simp
  refine hK.out _ _ ?_ (fun hHeld2 => ?_)
  · first | exact hHeld | exact HK.out _ K0 | exact HK.out _ K1
  clear hK K hHeld
  have hHeld := hHeld2
  clear hHeld2
  refine wpAnyH_done (by kernel_rfl) ?_ _
  go_wp2
  go_ret
  exact ⟨rfl, K1⟩

end Rd
end Go.Proofs.Ytfoccmhmgdengaa

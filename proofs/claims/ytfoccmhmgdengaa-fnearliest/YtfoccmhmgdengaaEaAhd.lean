/- Which ride is taken first. -/
import Derived.Test.YtfoccmhmgdengaaEaLessW
import Derived.Test.YtfoccmhmgdengaaMathGrd
namespace Go.Proofs.Ytfoccmhmgdengaa
namespace Rd
open Go.ChangeShapes Go.WideShapes Go.ChangeAt Go.RowKit
open Pk (new_below join_below cell_at heap_new heap_old lt_of kept)
set_option linter.unusedSimpArgs false
set_option linter.unusedVariables false

theorem ahead_or (r q : Ri) : decide (orL [cmpI r.tr q.tr, cmpI r.dy q.dy, cmpI r.to q.to] < 0) = aheadR r q := by
  have c1 : ∀ x y : Int, (x < y ∧ cmpI x y = -1) ∨ (x = y ∧ cmpI x y = 0) ∨ (y < x ∧ cmpI x y = 1) := fun x y => by
    unfold cmpI
    by_cases h1 : x < y
    · exact Or.inl ⟨h1, if_pos h1⟩
    · by_cases h2 : y < x
      · exact Or.inr (Or.inr ⟨h2, by rw [if_neg h1, if_pos h2]⟩)
      · exact Or.inr (Or.inl ⟨by omega, by rw [if_neg h1, if_neg h2]⟩)
  have key : orL [cmpI r.tr q.tr, cmpI r.dy q.dy, cmpI r.to q.to] < 0 ↔ aheadR r q = true := by
    rw [aheadR_iff]
    rcases c1 r.tr q.tr with ⟨h, e⟩ | ⟨h, e⟩ | ⟨h, e⟩
    · simp only [orL, e]
      simp
      omega
    · rcases c1 r.dy q.dy with ⟨h', e'⟩ | ⟨h', e'⟩ | ⟨h', e'⟩
      · simp only [orL, e, e']
        simp
        omega
      · rcases c1 r.to q.to with ⟨h2, e2⟩ | ⟨h2, e2⟩ | ⟨h2, e2⟩
        · simp only [orL, e, e', e2]
          simp
          omega
        · simp only [orL, e, e', e2]
          simp
          omega
        · simp only [orL, e, e', e2]
          simp
          omega
      · simp only [orL, e, e']
        simp
        omega
    · simp only [orL, e]
      simp
      omega
  cases h : aheadR r q with
  | true => exact decide_eq_true (key.2 h)
  | false => exact decide_eq_false fun x => by rw [key.1 x] at h; cases h

set_option maxRecDepth 100000 in
set_option maxHeartbeats 4000000 in
theorem isAhead_val (r q : Ri) (w0 : World) :
    Calls Try.prog 72 #[.agg #[.int .i64 r.tr, .int .i64 r.dy, .int .i64 r.fr, .int .i64 r.to], .agg #[.int .i64 q.tr, .int .i64 q.dy, .int .i64 q.fr, .int .i64 q.to]] w0 fun e w' => e = .returned (.bool (aheadR r q)) ∧ Below w0.heap.size w0 w' := by
  have HAH : Hid (aheadR r q = decide (orL [cmpI r.tr q.tr, cmpI r.dy q.dy, cmpI r.to q.to] < 0)) := (ahead_or r q).symm
  have NW : Below w0.heap.size w0 ((w0.alloc (.cells #[.int .i64 r.tr, .int .i64 r.dy, .int .i64 r.fr, .int .i64 r.to] 37)).alloc (.cells #[.int .i64 q.tr, .int .i64 q.dy, .int .i64 q.fr, .int .i64 q.to] 37)) := join_below (new_below _ _) (new_below _ _)
  have m0 := heap_old (heap_new w0 (.cells #[.int .i64 r.tr, .int .i64 r.dy, .int .i64 r.fr, .int .i64 r.to] 37)) (.cells #[.int .i64 q.tr, .int .i64 q.dy, .int .i64 q.fr, .int .i64 q.to] 37)
  have m1 := heap_new (w0.alloc (.cells #[.int .i64 r.tr, .int .i64 r.dy, .int .i64 r.fr, .int .i64 r.to] 37)) (.cells #[.int .i64 q.tr, .int .i64 q.dy, .int .i64 q.fr, .int .i64 q.to] 37)
  have e1 : (w0.alloc (.cells #[.int .i64 r.tr, .int .i64 r.dy, .int .i64 r.fr, .int .i64 r.to] 37)).heap.size = w0.heap.size + 1 := Array.size_push ..
  rw [e1] at m1
  go_enter Try.func72, Try.ntmps72
  go_upto_region 1 with fail
  generalize (w0.alloc (.cells #[.int .i64 r.tr, .int .i64 r.dy, .int .i64 r.fr, .int .i64 r.to] 37)).alloc (.cells #[.int .i64 q.tr, .int .i64 q.dy, .int .i64 q.fr, .int .i64 q.to] 37) = w at *
  generalize hPB : w0.heap.size + 1 = PB at *
  generalize hPA : w0.heap.size = PA at *
  have hA := lt_of m0
  have hB := lt_of m1
  have HK : Hid (∀ v, Below w.heap.size w v → (fun w' : World => w'.cell? ⟨PA, 0, none⟩ = some (.int .i64 r.tr) ∧ w'.cell? ⟨PB, 0, none⟩ = some (.int .i64 q.tr) ∧ w'.cell? ⟨PA, 1, none⟩ = some (.int .i64 r.dy) ∧ w'.cell? ⟨PB, 1, none⟩ = some (.int .i64 q.dy) ∧ w'.cell? ⟨PA, 3, none⟩ = some (.int .i64 r.to) ∧ w'.cell? ⟨PB, 3, none⟩ = some (.int .i64 q.to)) v) := fun v L => by
    have a := kept L hA m0
    have b := kept L hB m1
    exact ⟨cell_at a 0, cell_at b 0, cell_at a 1, cell_at b 1, cell_at a 3, cell_at b 3⟩
  have K0 : Below w.heap.size w w.drew := (Below.refl _ _).drew
  have K1 : Below w.heap.size w (w.alloc (.cells #[.int .i64 (cmpI r.tr q.tr), .int .i64 (cmpI r.dy q.dy), .int .i64 (cmpI r.to q.to)] 3)).drew := (new_below w (.cells #[.int .i64 (cmpI r.tr q.tr), .int .i64 (cmpI r.dy q.dy), .int .i64 (cmpI r.to q.to)] 3)).drew
  have HOR : Calls Try.prog 79 #[.slice (some ⟨w.heap.size, 0, none⟩) 3 3] (w.alloc (.cells #[.int .i64 (cmpI r.tr q.tr), .int .i64 (cmpI r.dy q.dy), .int .i64 (cmpI r.to q.to)] 3)).drew fun e w' => e = .returned (.int .i64 (orL [cmpI r.tr q.tr, cmpI r.dy q.dy, cmpI r.to q.to])) ∧ w' = (w.alloc (.cells #[.int .i64 (cmpI r.tr q.tr), .int .i64 (cmpI r.dy q.dy), .int .i64 (cmpI r.to q.to)] 3)).drew := or_val [cmpI r.tr q.tr, cmpI r.dy q.dy, cmpI r.to q.to] w.heap.size 0 3 (w.alloc (.cells #[.int .i64 (cmpI r.tr q.tr), .int .i64 (cmpI r.dy q.dy), .int .i64 (cmpI r.to q.to)] 3)).drew (by simp) (fun k hk => by
    have h := cell_at (w := (w.alloc (.cells #[.int .i64 (cmpI r.tr q.tr), .int .i64 (cmpI r.dy q.dy), .int .i64 (cmpI r.to q.to)] 3)).drew) (heap_new w (.cells #[.int .i64 (cmpI r.tr q.tr), .int .i64 (cmpI r.dy q.dy), .int .i64 (cmpI r.to q.to)] 3))
    match k, hk with
    | 0, _ => exact h 0
    | 1, _ => exact h 1
    | 2, _ => exact h 2)
  clear m0 m1 e1
  refine wp_region_held_drew (S := (fun w' => w'.cell? ⟨PA, 0, none⟩ = some (.int .i64 r.tr) ∧ w'.cell? ⟨PB, 0, none⟩ = some (.int .i64 q.tr) ∧ w'.cell? ⟨PA, 1, none⟩ = some (.int .i64 r.dy) ∧ w'.cell? ⟨PB, 1, none⟩ = some (.int .i64 q.dy) ∧ w'.cell? ⟨PA, 3, none⟩ = some (.int .i64 r.to) ∧ w'.cell? ⟨PB, 3, none⟩ = some (.int .i64 q.to))) (by kernel_rfl) ?_ (fun hHeld => ?_)
  · exact HK.out _ K0
  refine wpAnyH_take (i := 0) (v := .pointer (some ⟨PA, 0, none⟩)) rfl (by kernel_rfl) (by kernel_rfl) (by kernel_rfl) (fun _ _ _ h => h) (Or.inl ⟨by kernel_rfl, fun w hSw => by first | (go_simp; done) | (dsimp only at hSw; obtain ⟨hS0, hS1, hS2, hS3, hS4, hS5⟩ := hSw; go_simp; done) | rfl⟩) (by assumption) ?_
  simp only [Act.put, List.getElem_toArray, List.getElem_cons_succ, List.getElem_cons_zero, List.setIfInBounds_toArray, List.set_cons_succ, List.set_cons_zero]
  refine wpAnyH_take (i := 1) (v := .int .i64 r.tr) rfl (by kernel_rfl) (by kernel_rfl) (by kernel_rfl) (fun _ _ _ h => h) (Or.inl ⟨by kernel_rfl, fun w hSw => by first | (obtain ⟨z0, z1, z2, z3, z4, z5⟩ := hSw; go_simp; done) | (go_simp; done) | (dsimp only at hSw; obtain ⟨hS0, hS1, hS2, hS3, hS4, hS5⟩ := hSw; go_simp; done) | rfl⟩) (by assumption) ?_
  simp only [Act.put, List.getElem_toArray, List.getElem_cons_succ, List.getElem_cons_zero, List.setIfInBounds_toArray, List.set_cons_succ, List.set_cons_zero]
  refine wpAnyH_take (i := 2) (v := .pointer (some ⟨PB, 0, none⟩)) rfl (by kernel_rfl) (by kernel_rfl) (by kernel_rfl) (fun _ _ _ h => h) (Or.inl ⟨by kernel_rfl, fun w hSw => by first | (go_simp; done) | (dsimp only at hSw; obtain ⟨hS0, hS1, hS2, hS3, hS4, hS5⟩ := hSw; go_simp; done) | rfl⟩) (by assumption) ?_
  simp only [Act.put, List.getElem_toArray, List.getElem_cons_succ, List.getElem_cons_zero, List.setIfInBounds_toArray, List.set_cons_succ, List.set_cons_zero]
  refine wpAnyH_take (i := 3) (v := .int .i64 q.tr) rfl (by kernel_rfl) (by kernel_rfl) (by kernel_rfl) (fun _ _ _ h => h) (Or.inl ⟨by kernel_rfl, fun w hSw => by first | (obtain ⟨z0, z1, z2, z3, z4, z5⟩ := hSw; go_simp; done) | (go_simp; done) | (dsimp only at hSw; obtain ⟨hS0, hS1, hS2, hS3, hS4, hS5⟩ := hSw; go_simp; done) | rfl⟩) (by assumption) ?_
  simp only [Act.put, List.getElem_toArray, List.getElem_cons_succ, List.getElem_cons_zero, List.setIfInBounds_toArray, List.set_cons_succ, List.set_cons_zero]
  refine wpAnyH_take (i := 5) (v := .pointer (some ⟨PA, 1, none⟩)) rfl (by kernel_rfl) (by kernel_rfl) (by kernel_rfl) (fun _ _ _ h => h) (Or.inl ⟨by kernel_rfl, fun w hSw => by first | (go_simp; done) | (dsimp only at hSw; obtain ⟨hS0, hS1, hS2, hS3, hS4, hS5⟩ := hSw; go_simp; done) | rfl⟩) (by assumption) ?_
  simp only [Act.put, List.getElem_toArray, List.getElem_cons_succ, List.getElem_cons_zero, List.setIfInBounds_toArray, List.set_cons_succ, List.set_cons_zero]
  refine wpAnyH_take (i := 6) (v := .int .i64 r.dy) rfl (by kernel_rfl) (by kernel_rfl) (by kernel_rfl) (fun _ _ _ h => h) (Or.inl ⟨by kernel_rfl, fun w hSw => by first | (obtain ⟨z0, z1, z2, z3, z4, z5⟩ := hSw; go_simp; done) | (go_simp; done) | (dsimp only at hSw; obtain ⟨hS0, hS1, hS2, hS3, hS4, hS5⟩ := hSw; go_simp; done) | rfl⟩) (by assumption) ?_
  simp only [Act.put, List.getElem_toArray, List.getElem_cons_succ, List.getElem_cons_zero, List.setIfInBounds_toArray, List.set_cons_succ, List.set_cons_zero]
  refine wpAnyH_take (i := 7) (v := .pointer (some ⟨PB, 1, none⟩)) rfl (by kernel_rfl) (by kernel_rfl) (by kernel_rfl) (fun _ _ _ h => h) (Or.inl ⟨by kernel_rfl, fun w hSw => by first | (go_simp; done) | (dsimp only at hSw; obtain ⟨hS0, hS1, hS2, hS3, hS4, hS5⟩ := hSw; go_simp; done) | rfl⟩) (by assumption) ?_
  simp only [Act.put, List.getElem_toArray, List.getElem_cons_succ, List.getElem_cons_zero, List.setIfInBounds_toArray, List.set_cons_succ, List.set_cons_zero]
  refine wpAnyH_take (i := 8) (v := .int .i64 q.dy) rfl (by kernel_rfl) (by kernel_rfl) (by kernel_rfl) (fun _ _ _ h => h) (Or.inl ⟨by kernel_rfl, fun w hSw => by first | (obtain ⟨z0, z1, z2, z3, z4, z5⟩ := hSw; go_simp; done) | (go_simp; done) | (dsimp only at hSw; obtain ⟨hS0, hS1, hS2, hS3, hS4, hS5⟩ := hSw; go_simp; done) | rfl⟩) (by assumption) ?_
  simp only [Act.put, List.getElem_toArray, List.getElem_cons_succ, List.getElem_cons_zero, List.setIfInBounds_toArray, List.set_cons_succ, List.set_cons_zero]
  refine wpAnyH_take (i := 10) (v := .pointer (some ⟨PA, 3, none⟩)) rfl (by kernel_rfl) (by kernel_rfl) (by kernel_rfl) (fun _ _ _ h => h) (Or.inl ⟨by kernel_rfl, fun w hSw => by first | (go_simp; done) | (dsimp only at hSw; obtain ⟨hS0, hS1, hS2, hS3, hS4, hS5⟩ := hSw; go_simp; done) | rfl⟩) (by assumption) ?_
  simp only [Act.put, List.getElem_toArray, List.getElem_cons_succ, List.getElem_cons_zero, List.setIfInBounds_toArray, List.set_cons_succ, List.set_cons_zero]
  refine wpAnyH_take (i := 11) (v := .int .i64 r.to) rfl (by kernel_rfl) (by kernel_rfl) (by kernel_rfl) (fun _ _ _ h => h) (Or.inl ⟨by kernel_rfl, fun w hSw => by first | (obtain ⟨z0, z1, z2, z3, z4, z5⟩ := hSw; go_simp; done) | (go_simp; done) | (dsimp only at hSw; obtain ⟨hS0, hS1, hS2, hS3, hS4, hS5⟩ := hSw; go_simp; done) | rfl⟩) (by assumption) ?_
  simp only [Act.put, List.getElem_toArray, List.getElem_cons_succ, List.getElem_cons_zero, List.setIfInBounds_toArray, List.set_cons_succ, List.set_cons_zero]
  refine wpAnyH_take (i := 12) (v := .pointer (some ⟨PB, 3, none⟩)) rfl (by kernel_rfl) (by kernel_rfl) (by kernel_rfl) (fun _ _ _ h => h) (Or.inl ⟨by kernel_rfl, fun w hSw => by first | (go_simp; done) | (dsimp only at hSw; obtain ⟨hS0, hS1, hS2, hS3, hS4, hS5⟩ := hSw; go_simp; done) | rfl⟩) (by assumption) ?_
  simp only [Act.put, List.getElem_toArray, List.getElem_cons_succ, List.getElem_cons_zero, List.setIfInBounds_toArray, List.set_cons_succ, List.set_cons_zero]
  refine wpAnyH_take (i := 13) (v := .int .i64 q.to) rfl (by kernel_rfl) (by kernel_rfl) (by kernel_rfl) (fun _ _ _ h => h) (Or.inl ⟨by kernel_rfl, fun w hSw => by first | (obtain ⟨z0, z1, z2, z3, z4, z5⟩ := hSw; go_simp; done) | (go_simp; done) | (dsimp only at hSw; obtain ⟨hS0, hS1, hS2, hS3, hS4, hS5⟩ := hSw; go_simp; done) | rfl⟩) (by assumption) ?_
  simp only [Act.put, List.getElem_toArray, List.getElem_cons_succ, List.getElem_cons_zero, List.setIfInBounds_toArray, List.set_cons_succ, List.set_cons_zero]
  refine wpAnyH_ready (rs := [4]) (by kernel_rfl) (by simp) ?_
  refine AllReadyH.cons rfl (fun K hK => ?_) AllReadyH.nil
  go_simp
  go_wp2_with ((go_at_call 80; (with_reducible refine (compare_val r.tr q.tr _).mono ?_); rintro e v1 ⟨rfl, rfl⟩))
  refine hK.out _ _ ?_ (fun hHeld2 => ?_)
  · first | exact hHeld | exact HK.out _ K0 | exact HK.out _ K1
  clear hK K hHeld
  have hHeld := hHeld2
  clear hHeld2
  refine wpAnyH_ready (rs := [9]) (by kernel_rfl) (by simp) ?_
  refine AllReadyH.cons rfl (fun K hK => ?_) AllReadyH.nil
  go_simp
  go_wp2_with ((go_at_call 80; (with_reducible refine (compare_val r.dy q.dy _).mono ?_); rintro e v1 ⟨rfl, rfl⟩))
  refine hK.out _ _ ?_ (fun hHeld2 => ?_)
  · first | exact hHeld | exact HK.out _ K0 | exact HK.out _ K1
  clear hK K hHeld
  have hHeld := hHeld2
  clear hHeld2
  refine wpAnyH_ready (rs := [14]) (by kernel_rfl) (by simp) ?_
  refine AllReadyH.cons rfl (fun K hK => ?_) AllReadyH.nil
  go_simp
  go_wp2_with ((go_at_call 80; (with_reducible refine (compare_val r.to q.to _).mono ?_); rintro e v1 ⟨rfl, rfl⟩))
  refine hK.out _ _ ?_ (fun hHeld2 => ?_)
  · first | exact hHeld | exact HK.out _ K0 | exact HK.out _ K1
  clear hK K hHeld
  have hHeld := hHeld2
  clear hHeld2
  refine wpAnyH_ready (rs := [15]) (by kernel_rfl) (by simp) ?_
  refine AllReadyH.cons rfl (fun K hK => ?_) AllReadyH.nil
  go_simp
  refine hK.out _ _ ?_ (fun hHeld2 => ?_)
  · first | exact hHeld | exact HK.out _ K0 | exact HK.out _ K1
  clear hK K hHeld
  have hHeld := hHeld2
  clear hHeld2
  refine wpAnyH_ready (rs := [16]) (by kernel_rfl) (by simp) ?_
  refine AllReadyH.cons rfl (fun K hK => ?_) AllReadyH.nil
  go_simp
  go_wp2_with ((go_at_call 79; (with_reducible refine HOR.mono ?_); rintro e v1 ⟨rfl, rfl⟩))
  refine hK.out _ _ ?_ (fun hHeld2 => ?_)
  · first | exact hHeld | exact HK.out _ K0 | exact HK.out _ K1
  clear hK K hHeld
  have hHeld := hHeld2
  clear hHeld2
  refine wpAnyH_take (i := 17) (v := .bool (decide (orL [cmpI r.tr q.tr, cmpI r.dy q.dy, cmpI r.to q.to] < 0))) rfl (by kernel_rfl) (by kernel_rfl) (by kernel_rfl) (fun _ _ _ h => h) (Or.inl ⟨by kernel_rfl, fun w hSw => by first | (go_simp; done) | (dsimp only at hSw; obtain ⟨hS0, hS1, hS2, hS3, hS4, hS5⟩ := hSw; go_simp; done) | rfl⟩) (by assumption) ?_
  simp only [Act.put, List.getElem_toArray, List.getElem_cons_succ, List.getElem_cons_zero, List.setIfInBounds_toArray, List.set_cons_succ, List.set_cons_zero]
  refine wpAnyH_ready (rs := [18]) (by kernel_rfl) (by simp) ?_
  refine AllReadyH.cons rfl (fun K hK => ?_) AllReadyH.nil
  go_simp
  refine hK.out _ _ ?_ (fun hHeld2 => ?_)
  · first | exact hHeld | exact HK.out _ K0 | exact HK.out _ K1
  clear hK K hHeld
  have hHeld := hHeld2
  clear hHeld2
  refine wpAnyH_done (by kernel_rfl) ?_ _
  go_wp2
  go_ret
  exact ⟨by rw [HAH.out] <;> rfl, hPA ▸ NW.trans (K1.mono (by have := NW.size; omega))⟩

end Rd
end Go.Proofs.Ytfoccmhmgdengaa

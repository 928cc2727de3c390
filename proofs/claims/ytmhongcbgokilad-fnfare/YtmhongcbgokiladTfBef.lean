/- The model's l07Before and l07Has. -/
import Derived.Test.YtmhongcbgokiladMathDij3
import Derived.Test.YtmhongcbgokiladTfInts
import Derived.Deep.RegionHeld3
namespace Go.Proofs.Ytmhongcbgokilad
namespace Tf
open Go.ChangeShapes Go.WideShapes Go.ChangeAt Go.RowKit
open Pk (new_below join_below cell_at heap_new frozen_at lt_of kept heap_old Drawn info_of)
set_option linter.unusedSimpArgs false
set_option linter.unusedVariables false

/-- A way of the model as a value. -/
def Ws (w : World) (v : Value) (o : Wy) : Prop := ∃ g cap, v = .agg #[.slice (some ⟨g, 0, none⟩) o.s.length cap, .int .i64 o.c] ∧ g < w.heap.size ∧ 0 < o.s.length ∧ ∀ i (h : i < o.s.length), w.cell? ⟨g, i, none⟩ = some (.int .i64 o.s[i])

theorem Ws.on {w w1 : World} {v : Value} {o : Wy} (h : Ws w v o) (L : Below w.heap.size w w1) : Ws w1 v o := by
  obtain ⟨g, cap, rfl, hg, hn, hc⟩ := h
  exact ⟨g, cap, rfl, Nat.lt_of_lt_of_le hg L.size, hn, fun i hi => (L.cell (p := ⟨g, i, none⟩) hg).trans (hc i hi)⟩

theorem has_val (a : Option Addr) (l : List Int) (cap : Nat) (x : Int) (w : World) (hl : l.length ≤ 1048576) (I : Ints w a l) :
    Calls Try.prog 95 #[.slice a l.length cap, .int .i64 x] w fun e w' => e = .returned (.bool (decide (x ∈ l))) ∧ w' = w := by
  go_enter Try.func95, Try.ntmps95
  go_wp2
  go_loop [5] (fun i => ∃ k : Nat, k ≤ l.length ∧ i = .int .i64 k ∧ Hid (∀ i (h : i < l.length), i < k → l[i] ≠ x)) (fun i => l.length - (intOf i).toNat)
  case atStart => exact ⟨0, by omega, rfl, fun i _ h => by omega⟩
  case round =>
    obtain ⟨k, hk, rfl, H⟩ := hrel
    by_cases hkn : k < l.length
    · obtain ⟨b, o, rfl, hlt, c0⟩ := I.at k hkn
      by_cases e : l[k] = x
      · have HE : Hid (decide (x ∈ l) = true) := decide_eq_true (by rw [← e]; exact List.getElem_mem hkn)
        have e2 : (l[k] == x) = true := beq_iff_eq.2 e
        clear e H
        generalize l[k] = y at *
        go_wp2
        go_ret
        exact ⟨by rw [HE.out] <;> rfl, rfl⟩
      · have HE : Hid (∀ i (h : i < l.length), i < k + 1 → l[i] ≠ x) := by
          intro i hi hik
          by_cases h : i = k
          · subst h; exact e
          · exact H.out i hi (by omega)
        have e2 : (l[k] == x) = false := beq_eq_false_iff_ne.2 e
        clear e H
        generalize l[k] = y at *
        go_wp2
        go_round
        case rel => exact ⟨k + 1, by omega, by go_num, HE⟩
        case measure => simp [intOf]; omega
    · have HE : Hid (decide (x ∈ l) = false) := by
        refine decide_eq_false fun h => ?_
        obtain ⟨i, hi, e⟩ := List.getElem_of_mem h
        exact H.out i hi (by omega) e
      clear H
      go_wp2
      go_ret
      exact ⟨by rw [HE.out] <;> rfl, rfl⟩

set_option maxHeartbeats 4000000 in
set_option maxRecDepth 100000 in
theorem before_val (u v : Value) (x y : Wy) (w : World) (hx : x.s.length ≤ 1048576) (hy : y.s.length ≤ 1048576) (I : Ws w u x) (J : Ws w v y) :
    Calls Try.prog 94 #[u, v] w fun e w' => e = .returned (.bool (ahead x y)) ∧ Below w.heap.size w w' := by
  obtain ⟨gx, cx, rfl, hgx, hnx, hcx⟩ := I
  obtain ⟨gy, cy, rfl, hgy, hny, hcy⟩ := J
  have HA : Hid (_) := ahead_is x y
  have N1 := new_below w (.cells #[.slice (some ⟨gx, 0, none⟩) x.s.length cx, .int .i64 x.c] 109)
  have m1 := heap_new w (.cells #[.slice (some ⟨gx, 0, none⟩) x.s.length cx, .int .i64 x.c] 109)
  have e1 : (w.alloc (.cells #[.slice (some ⟨gx, 0, none⟩) x.s.length cx, .int .i64 x.c] 109)).heap.size = w.heap.size + 1 := Array.size_push ..
  generalize hW1 : w.alloc (.cells #[.slice (some ⟨gx, 0, none⟩) x.s.length cx, .int .i64 x.c] 109) = W1 at *
  have N2 := new_below W1 (.cells #[.slice (some ⟨gy, 0, none⟩) y.s.length cy, .int .i64 y.c] 109)
  have m2 := heap_new W1 (.cells #[.slice (some ⟨gy, 0, none⟩) y.s.length cy, .int .i64 y.c] 109)
  generalize hW2 : W1.alloc (.cells #[.slice (some ⟨gy, 0, none⟩) y.s.length cy, .int .i64 y.c] 109) = W at *
  have m1' := kept N2 (lt_of m1) m1
  rw [e1] at m2
  have N := join_below N1 N2
  rw [← hW1] at hW2
  have HCX : Hid (∀ w', Below W.heap.size W w' → ∀ i (h : i < x.s.length), w'.cell? ⟨gx, i, none⟩ = some (.int .i64 x.s[i])) := fun w' L i hi => (L.cell (p := ⟨gx, i, none⟩) (Nat.lt_of_lt_of_le hgx N.size)).trans ((N.cell (p := ⟨gx, i, none⟩) hgx).trans (hcx i hi))
  have HCY : Hid (∀ w', Below W.heap.size W w' → ∀ i (h : i < y.s.length), w'.cell? ⟨gy, i, none⟩ = some (.int .i64 y.s[i])) := fun w' L i hi => (L.cell (p := ⟨gy, i, none⟩) (Nat.lt_of_lt_of_le hgy N.size)).trans ((N.cell (p := ⟨gy, i, none⟩) hgy).trans (hcy i hi))
  have HS : Hid (∀ w', Below W.heap.size W w' → w'.cell? ⟨w.heap.size, 0, none⟩ = some (.slice (some ⟨gx, 0, none⟩) x.s.length cx) ∧ w'.cell? ⟨w.heap.size + 1, 0, none⟩ = some (.slice (some ⟨gy, 0, none⟩) y.s.length cy)) := fun w' L => ⟨cell_at (kept L (lt_of m1') m1') 0, cell_at (kept L (lt_of m2) m2) 0⟩
  have a0 : W.cell? ⟨w.heap.size, 0, none⟩ = some (.slice (some ⟨gx, 0, none⟩) x.s.length cx) := cell_at m1' 0
  have a1 : W.cell? ⟨w.heap.size, 1, none⟩ = some (.int .i64 x.c) := cell_at m1' 1
  have b0 : W.cell? ⟨w.heap.size + 1, 0, none⟩ = some (.slice (some ⟨gy, 0, none⟩) y.s.length cy) := cell_at m2 0
  have b1 : W.cell? ⟨w.heap.size + 1, 1, none⟩ = some (.int .i64 y.c) := cell_at m2 1
  clear m1 m2 m1' N1 N2 e1 hW1 hcx hcy hgx hgy hnx hny
  by_cases h1 : x.c = y.c
  · by_cases h2 : x.s.length = y.s.length
    · have HE : Hid (ahead x y = lexL (x.s.drop 0) (y.s.drop 0)) := by
        show _ = _
        rw [HA.out, if_neg (fun h => h h1), if_neg (fun h => h h2)]
        rfl
      have e1 : (x.c != y.c) = false := by simp [h1]
      have e2 : ((x.s.length : Int) != (y.s.length : Int)) = false := by simp [h2]
      have HL : Hid (x.s.length = y.s.length) := h2
      clear h1 h2 HA
      go_enter Try.func94, Try.ntmps94
      go_wp2
      clear hW2
      go_loopw [5] (fun i wr => ∃ k : Nat, k ≤ x.s.length ∧ i = .int .i64 k ∧ Below W.heap.size W wr ∧ Hid (ahead x y = lexL (x.s.drop k) (y.s.drop k))) (fun i _ => x.s.length - (intOf i).toNat)
      case atStart => exact ⟨0, by omega, rfl, Below.refl _ _, HE⟩
      case round =>
        obtain ⟨k, hk, rfl, L, H⟩ := hrel
        clear a0 a1 b0 b1
        obtain ⟨s0, s1⟩ := HS.out wr L
        by_cases hkn : k < x.s.length
        · have hky : k < y.s.length := by rw [← HL.out]; exact hkn
          have c0 := HCX.out wr L k hkn
          have c1 := HCY.out wr L k hky
          have L2 : Below W.heap.size W wr.drew := L.drew
          have HX1 : Hid (x.s[k] ≠ y.s[k] → ahead x y = decide (x.s[k] < y.s[k])) := fun h => H.out.trans (lex_here hkn hky h)
          have HX2 : Hid (x.s[k] = y.s[k] → ahead x y = lexL (x.s.drop (k + 1)) (y.s.drop (k + 1))) := fun h => H.out.trans (lex_on hkn hky h)
          clear H HE
          generalize x.s[k] = p at *
          generalize y.s[k] = q at *
          by_cases hpq : p = q
          · have HE : Hid (_) := HX2.out hpq
            have e3 : (p != q) = false := by simp [hpq]
            clear hpq HX1 HX2
            go_wp2
            refine wp_region_held_drew (S := (fun w' => w'.cell? ⟨w.heap.size, 0, none⟩ = some (.slice (some ⟨gx, 0, none⟩) x.s.length cx) ∧ w'.cell? ⟨w.heap.size + 1, 0, none⟩ = some (.slice (some ⟨gy, 0, none⟩) y.s.length cy) ∧ w'.cell? ⟨gx, k, none⟩ = some (.int .i64 p) ∧ w'.cell? ⟨gy, k, none⟩ = some (.int .i64 q))) (by kernel_rfl) ?_ (fun hHeld => ?_)
            · exact ⟨s0, s1, c0, c1⟩
            refine wpAnyH_take (i := 0) (v := .pointer (some ⟨w.heap.size, 0, none⟩)) rfl (by kernel_rfl) (by kernel_rfl) (by kernel_rfl) (fun _ _ _ h => h) (Or.inl ⟨by kernel_rfl, fun w hSw => by first | (go_simp; done) | (dsimp only at hSw; obtain ⟨hS0, hS1, hS2, hS3⟩ := hSw; go_simp; done) | rfl⟩) (by assumption) ?_
            simp only [Act.put, List.getElem_toArray, List.getElem_cons_succ, List.getElem_cons_zero, List.setIfInBounds_toArray, List.set_cons_succ, List.set_cons_zero]
            refine wpAnyH_take (i := 1) (v := .slice (some ⟨gx, 0, none⟩) x.s.length cx) rfl (by kernel_rfl) (by kernel_rfl) (by kernel_rfl) (fun _ _ _ h => h) (Or.inl ⟨by kernel_rfl, fun w hSw => by first | (go_simp; done) | (dsimp only at hSw; obtain ⟨hS0, hS1, hS2, hS3⟩ := hSw; go_simp; done) | rfl⟩) (by assumption) ?_
            simp only [Act.put, List.getElem_toArray, List.getElem_cons_succ, List.getElem_cons_zero, List.setIfInBounds_toArray, List.set_cons_succ, List.set_cons_zero]
            refine wpAnyH_take (i := 2) (v := .int .i64 k) rfl (by kernel_rfl) (by kernel_rfl) (by kernel_rfl) (fun _ _ _ h => h) (Or.inl ⟨by kernel_rfl, fun w hSw => by first | (go_simp; done) | (dsimp only at hSw; obtain ⟨hS0, hS1, hS2, hS3⟩ := hSw; go_simp; done) | rfl⟩) (by assumption) ?_
            simp only [Act.put, List.getElem_toArray, List.getElem_cons_succ, List.getElem_cons_zero, List.setIfInBounds_toArray, List.set_cons_succ, List.set_cons_zero]
            refine wpAnyH_take (i := 3) (v := .pointer (some ⟨gx, k, none⟩)) rfl (by kernel_rfl) (by kernel_rfl) (by kernel_rfl) (fun _ _ _ h => h) (Or.inl ⟨by kernel_rfl, fun w hSw => by first | (go_simp; done) | (dsimp only at hSw; obtain ⟨hS0, hS1, hS2, hS3⟩ := hSw; go_simp; done) | rfl⟩) (by assumption) ?_
            simp only [Act.put, List.getElem_toArray, List.getElem_cons_succ, List.getElem_cons_zero, List.setIfInBounds_toArray, List.set_cons_succ, List.set_cons_zero]
            refine wpAnyH_take (i := 4) (v := .int .i64 p) rfl (by kernel_rfl) (by kernel_rfl) (by kernel_rfl) (fun _ _ _ h => h) (Or.inl ⟨by kernel_rfl, fun w hSw => by first | (go_simp; done) | (dsimp only at hSw; obtain ⟨hS0, hS1, hS2, hS3⟩ := hSw; go_simp; done) | rfl⟩) (by assumption) ?_
            simp only [Act.put, List.getElem_toArray, List.getElem_cons_succ, List.getElem_cons_zero, List.setIfInBounds_toArray, List.set_cons_succ, List.set_cons_zero]
            refine wpAnyH_take (i := 5) (v := .pointer (some ⟨w.heap.size + 1, 0, none⟩)) rfl (by kernel_rfl) (by kernel_rfl) (by kernel_rfl) (fun _ _ _ h => h) (Or.inl ⟨by kernel_rfl, fun w hSw => by first | (go_simp; done) | (dsimp only at hSw; obtain ⟨hS0, hS1, hS2, hS3⟩ := hSw; go_simp; done) | rfl⟩) (by assumption) ?_
            simp only [Act.put, List.getElem_toArray, List.getElem_cons_succ, List.getElem_cons_zero, List.setIfInBounds_toArray, List.set_cons_succ, List.set_cons_zero]
            refine wpAnyH_take (i := 6) (v := .slice (some ⟨gy, 0, none⟩) y.s.length cy) rfl (by kernel_rfl) (by kernel_rfl) (by kernel_rfl) (fun _ _ _ h => h) (Or.inl ⟨by kernel_rfl, fun w hSw => by first | (go_simp; done) | (dsimp only at hSw; obtain ⟨hS0, hS1, hS2, hS3⟩ := hSw; go_simp; done) | rfl⟩) (by assumption) ?_
            simp only [Act.put, List.getElem_toArray, List.getElem_cons_succ, List.getElem_cons_zero, List.setIfInBounds_toArray, List.set_cons_succ, List.set_cons_zero]
            refine wpAnyH_take (i := 7) (v := .int .i64 k) rfl (by kernel_rfl) (by kernel_rfl) (by kernel_rfl) (fun _ _ _ h => h) (Or.inl ⟨by kernel_rfl, fun w hSw => by first | (go_simp; done) | (dsimp only at hSw; obtain ⟨hS0, hS1, hS2, hS3⟩ := hSw; go_simp; done) | rfl⟩) (by assumption) ?_
            simp only [Act.put, List.getElem_toArray, List.getElem_cons_succ, List.getElem_cons_zero, List.setIfInBounds_toArray, List.set_cons_succ, List.set_cons_zero]
            refine wpAnyH_take (i := 8) (v := .pointer (some ⟨gy, k, none⟩)) rfl (by kernel_rfl) (by kernel_rfl) (by kernel_rfl) (fun _ _ _ h => h) (Or.inl ⟨by kernel_rfl, fun w hSw => by first | (go_simp; done) | (dsimp only at hSw; obtain ⟨hS0, hS1, hS2, hS3⟩ := hSw; go_simp; done) | rfl⟩) (by assumption) ?_
            simp only [Act.put, List.getElem_toArray, List.getElem_cons_succ, List.getElem_cons_zero, List.setIfInBounds_toArray, List.set_cons_succ, List.set_cons_zero]
            refine wpAnyH_take (i := 9) (v := .int .i64 q) rfl (by kernel_rfl) (by kernel_rfl) (by kernel_rfl) (fun _ _ _ h => h) (Or.inl ⟨by kernel_rfl, fun w hSw => by first | (go_simp; done) | (dsimp only at hSw; obtain ⟨hS0, hS1, hS2, hS3⟩ := hSw; go_simp; done) | rfl⟩) (by assumption) ?_
            simp only [Act.put, List.getElem_toArray, List.getElem_cons_succ, List.getElem_cons_zero, List.setIfInBounds_toArray, List.set_cons_succ, List.set_cons_zero]
            refine wpAnyH_take (i := 10) (v := .bool false) rfl (by kernel_rfl) (by kernel_rfl) (by kernel_rfl) (fun _ _ _ h => h) (Or.inl ⟨by kernel_rfl, fun w hSw => by first | (go_simp; done) | (dsimp only at hSw; obtain ⟨hS0, hS1, hS2, hS3⟩ := hSw; go_simp; done) | rfl⟩) (by assumption) ?_
            simp only [Act.put, List.getElem_toArray, List.getElem_cons_succ, List.getElem_cons_zero, List.setIfInBounds_toArray, List.set_cons_succ, List.set_cons_zero]
            refine wpAnyH_done (by kernel_rfl) ?_ _
            go_wp2
            go_roundw
            case rel => exact ⟨k + 1, by omega, by go_num, L2, HE⟩
            case measure => simp [intOf]; omega
          · have HE : Hid (_) := HX1.out hpq
            have e3 : (p != q) = true := by simp [hpq]
            clear hpq HX1 HX2
            go_wp2
            refine wp_region_held_drew (S := (fun w' => w'.cell? ⟨w.heap.size, 0, none⟩ = some (.slice (some ⟨gx, 0, none⟩) x.s.length cx) ∧ w'.cell? ⟨w.heap.size + 1, 0, none⟩ = some (.slice (some ⟨gy, 0, none⟩) y.s.length cy) ∧ w'.cell? ⟨gx, k, none⟩ = some (.int .i64 p) ∧ w'.cell? ⟨gy, k, none⟩ = some (.int .i64 q))) (by kernel_rfl) ?_ (fun hHeld => ?_)
            · exact ⟨s0, s1, c0, c1⟩
            refine wpAnyH_take (i := 0) (v := .pointer (some ⟨w.heap.size, 0, none⟩)) rfl (by kernel_rfl) (by kernel_rfl) (by kernel_rfl) (fun _ _ _ h => h) (Or.inl ⟨by kernel_rfl, fun w hSw => by first | (go_simp; done) | (dsimp only at hSw; obtain ⟨hS0, hS1, hS2, hS3⟩ := hSw; go_simp; done) | rfl⟩) (by assumption) ?_
            simp only [Act.put, List.getElem_toArray, List.getElem_cons_succ, List.getElem_cons_zero, List.setIfInBounds_toArray, List.set_cons_succ, List.set_cons_zero]
            refine wpAnyH_take (i := 1) (v := .slice (some ⟨gx, 0, none⟩) x.s.length cx) rfl (by kernel_rfl) (by kernel_rfl) (by kernel_rfl) (fun _ _ _ h => h) (Or.inl ⟨by kernel_rfl, fun w hSw => by first | (go_simp; done) | (dsimp only at hSw; obtain ⟨hS0, hS1, hS2, hS3⟩ := hSw; go_simp; done) | rfl⟩) (by assumption) ?_
            simp only [Act.put, List.getElem_toArray, List.getElem_cons_succ, List.getElem_cons_zero, List.setIfInBounds_toArray, List.set_cons_succ, List.set_cons_zero]
            refine wpAnyH_take (i := 2) (v := .int .i64 k) rfl (by kernel_rfl) (by kernel_rfl) (by kernel_rfl) (fun _ _ _ h => h) (Or.inl ⟨by kernel_rfl, fun w hSw => by first | (go_simp; done) | (dsimp only at hSw; obtain ⟨hS0, hS1, hS2, hS3⟩ := hSw; go_simp; done) | rfl⟩) (by assumption) ?_
            simp only [Act.put, List.getElem_toArray, List.getElem_cons_succ, List.getElem_cons_zero, List.setIfInBounds_toArray, List.set_cons_succ, List.set_cons_zero]
            refine wpAnyH_take (i := 3) (v := .pointer (some ⟨gx, k, none⟩)) rfl (by kernel_rfl) (by kernel_rfl) (by kernel_rfl) (fun _ _ _ h => h) (Or.inl ⟨by kernel_rfl, fun w hSw => by first | (go_simp; done) | (dsimp only at hSw; obtain ⟨hS0, hS1, hS2, hS3⟩ := hSw; go_simp; done) | rfl⟩) (by assumption) ?_
            simp only [Act.put, List.getElem_toArray, List.getElem_cons_succ, List.getElem_cons_zero, List.setIfInBounds_toArray, List.set_cons_succ, List.set_cons_zero]
            refine wpAnyH_take (i := 4) (v := .int .i64 p) rfl (by kernel_rfl) (by kernel_rfl) (by kernel_rfl) (fun _ _ _ h => h) (Or.inl ⟨by kernel_rfl, fun w hSw => by first | (go_simp; done) | (dsimp only at hSw; obtain ⟨hS0, hS1, hS2, hS3⟩ := hSw; go_simp; done) | rfl⟩) (by assumption) ?_
            simp only [Act.put, List.getElem_toArray, List.getElem_cons_succ, List.getElem_cons_zero, List.setIfInBounds_toArray, List.set_cons_succ, List.set_cons_zero]
            refine wpAnyH_take (i := 5) (v := .pointer (some ⟨w.heap.size + 1, 0, none⟩)) rfl (by kernel_rfl) (by kernel_rfl) (by kernel_rfl) (fun _ _ _ h => h) (Or.inl ⟨by kernel_rfl, fun w hSw => by first | (go_simp; done) | (dsimp only at hSw; obtain ⟨hS0, hS1, hS2, hS3⟩ := hSw; go_simp; done) | rfl⟩) (by assumption) ?_
            simp only [Act.put, List.getElem_toArray, List.getElem_cons_succ, List.getElem_cons_zero, List.setIfInBounds_toArray, List.set_cons_succ, List.set_cons_zero]
            refine wpAnyH_take (i := 6) (v := .slice (some ⟨gy, 0, none⟩) y.s.length cy) rfl (by kernel_rfl) (by kernel_rfl) (by kernel_rfl) (fun _ _ _ h => h) (Or.inl ⟨by kernel_rfl, fun w hSw => by first | (go_simp; done) | (dsimp only at hSw; obtain ⟨hS0, hS1, hS2, hS3⟩ := hSw; go_simp; done) | rfl⟩) (by assumption) ?_
            simp only [Act.put, List.getElem_toArray, List.getElem_cons_succ, List.getElem_cons_zero, List.setIfInBounds_toArray, List.set_cons_succ, List.set_cons_zero]
            refine wpAnyH_take (i := 7) (v := .int .i64 k) rfl (by kernel_rfl) (by kernel_rfl) (by kernel_rfl) (fun _ _ _ h => h) (Or.inl ⟨by kernel_rfl, fun w hSw => by first | (go_simp; done) | (dsimp only at hSw; obtain ⟨hS0, hS1, hS2, hS3⟩ := hSw; go_simp; done) | rfl⟩) (by assumption) ?_
            simp only [Act.put, List.getElem_toArray, List.getElem_cons_succ, List.getElem_cons_zero, List.setIfInBounds_toArray, List.set_cons_succ, List.set_cons_zero]
            refine wpAnyH_take (i := 8) (v := .pointer (some ⟨gy, k, none⟩)) rfl (by kernel_rfl) (by kernel_rfl) (by kernel_rfl) (fun _ _ _ h => h) (Or.inl ⟨by kernel_rfl, fun w hSw => by first | (go_simp; done) | (dsimp only at hSw; obtain ⟨hS0, hS1, hS2, hS3⟩ := hSw; go_simp; done) | rfl⟩) (by assumption) ?_
            simp only [Act.put, List.getElem_toArray, List.getElem_cons_succ, List.getElem_cons_zero, List.setIfInBounds_toArray, List.set_cons_succ, List.set_cons_zero]
            refine wpAnyH_take (i := 9) (v := .int .i64 q) rfl (by kernel_rfl) (by kernel_rfl) (by kernel_rfl) (fun _ _ _ h => h) (Or.inl ⟨by kernel_rfl, fun w hSw => by first | (go_simp; done) | (dsimp only at hSw; obtain ⟨hS0, hS1, hS2, hS3⟩ := hSw; go_simp; done) | rfl⟩) (by assumption) ?_
            simp only [Act.put, List.getElem_toArray, List.getElem_cons_succ, List.getElem_cons_zero, List.setIfInBounds_toArray, List.set_cons_succ, List.set_cons_zero]
            refine wpAnyH_take (i := 10) (v := .bool true) rfl (by kernel_rfl) (by kernel_rfl) (by kernel_rfl) (fun _ _ _ h => h) (Or.inl ⟨by kernel_rfl, fun w hSw => by first | (go_simp; done) | (dsimp only at hSw; obtain ⟨hS0, hS1, hS2, hS3⟩ := hSw; go_simp; done) | rfl⟩) (by assumption) ?_
            simp only [Act.put, List.getElem_toArray, List.getElem_cons_succ, List.getElem_cons_zero, List.setIfInBounds_toArray, List.set_cons_succ, List.set_cons_zero]
            refine wpAnyH_done (by kernel_rfl) ?_ _
            have s0 : wr.drew.cell? ⟨w.heap.size, 0, none⟩ = some (.slice (some ⟨gx, 0, none⟩) x.s.length cx) := s0
            have s1 : wr.drew.cell? ⟨w.heap.size + 1, 0, none⟩ = some (.slice (some ⟨gy, 0, none⟩) y.s.length cy) := s1
            have c0 : wr.drew.cell? ⟨gx, k, none⟩ = some (.int .i64 p) := c0
            have c1 : wr.drew.cell? ⟨gy, k, none⟩ = some (.int .i64 q) := c1
            clear hHeld
            have L3 : Below W.heap.size W wr.drew.drew := L2.drew
            go_wp2
            refine wp_region_held_drew (S := (fun w' => w'.cell? ⟨w.heap.size, 0, none⟩ = some (.slice (some ⟨gx, 0, none⟩) x.s.length cx) ∧ w'.cell? ⟨w.heap.size + 1, 0, none⟩ = some (.slice (some ⟨gy, 0, none⟩) y.s.length cy) ∧ w'.cell? ⟨gx, k, none⟩ = some (.int .i64 p) ∧ w'.cell? ⟨gy, k, none⟩ = some (.int .i64 q))) (by kernel_rfl) ?_ (fun hHeld => ?_)
            · exact ⟨s0, s1, c0, c1⟩
            refine wpAnyH_take (i := 0) (v := .pointer (some ⟨w.heap.size, 0, none⟩)) rfl (by kernel_rfl) (by kernel_rfl) (by kernel_rfl) (fun _ _ _ h => h) (Or.inl ⟨by kernel_rfl, fun w hSw => by first | (go_simp; done) | (dsimp only at hSw; obtain ⟨hS0, hS1, hS2, hS3⟩ := hSw; go_simp; done) | rfl⟩) (by assumption) ?_
            simp only [Act.put, List.getElem_toArray, List.getElem_cons_succ, List.getElem_cons_zero, List.setIfInBounds_toArray, List.set_cons_succ, List.set_cons_zero]
            refine wpAnyH_take (i := 1) (v := .slice (some ⟨gx, 0, none⟩) x.s.length cx) rfl (by kernel_rfl) (by kernel_rfl) (by kernel_rfl) (fun _ _ _ h => h) (Or.inl ⟨by kernel_rfl, fun w hSw => by first | (go_simp; done) | (dsimp only at hSw; obtain ⟨hS0, hS1, hS2, hS3⟩ := hSw; go_simp; done) | rfl⟩) (by assumption) ?_
            simp only [Act.put, List.getElem_toArray, List.getElem_cons_succ, List.getElem_cons_zero, List.setIfInBounds_toArray, List.set_cons_succ, List.set_cons_zero]
            refine wpAnyH_take (i := 2) (v := .int .i64 k) rfl (by kernel_rfl) (by kernel_rfl) (by kernel_rfl) (fun _ _ _ h => h) (Or.inl ⟨by kernel_rfl, fun w hSw => by first | (go_simp; done) | (dsimp only at hSw; obtain ⟨hS0, hS1, hS2, hS3⟩ := hSw; go_simp; done) | rfl⟩) (by assumption) ?_
            simp only [Act.put, List.getElem_toArray, List.getElem_cons_succ, List.getElem_cons_zero, List.setIfInBounds_toArray, List.set_cons_succ, List.set_cons_zero]
            refine wpAnyH_take (i := 3) (v := .pointer (some ⟨gx, k, none⟩)) rfl (by kernel_rfl) (by kernel_rfl) (by kernel_rfl) (fun _ _ _ h => h) (Or.inl ⟨by kernel_rfl, fun w hSw => by first | (go_simp; done) | (dsimp only at hSw; obtain ⟨hS0, hS1, hS2, hS3⟩ := hSw; go_simp; done) | rfl⟩) (by assumption) ?_
            simp only [Act.put, List.getElem_toArray, List.getElem_cons_succ, List.getElem_cons_zero, List.setIfInBounds_toArray, List.set_cons_succ, List.set_cons_zero]
            refine wpAnyH_take (i := 4) (v := .int .i64 p) rfl (by kernel_rfl) (by kernel_rfl) (by kernel_rfl) (fun _ _ _ h => h) (Or.inl ⟨by kernel_rfl, fun w hSw => by first | (go_simp; done) | (dsimp only at hSw; obtain ⟨hS0, hS1, hS2, hS3⟩ := hSw; go_simp; done) | rfl⟩) (by assumption) ?_
            simp only [Act.put, List.getElem_toArray, List.getElem_cons_succ, List.getElem_cons_zero, List.setIfInBounds_toArray, List.set_cons_succ, List.set_cons_zero]
            refine wpAnyH_take (i := 5) (v := .pointer (some ⟨w.heap.size + 1, 0, none⟩)) rfl (by kernel_rfl) (by kernel_rfl) (by kernel_rfl) (fun _ _ _ h => h) (Or.inl ⟨by kernel_rfl, fun w hSw => by first | (go_simp; done) | (dsimp only at hSw; obtain ⟨hS0, hS1, hS2, hS3⟩ := hSw; go_simp; done) | rfl⟩) (by assumption) ?_
            simp only [Act.put, List.getElem_toArray, List.getElem_cons_succ, List.getElem_cons_zero, List.setIfInBounds_toArray, List.set_cons_succ, List.set_cons_zero]
            refine wpAnyH_take (i := 6) (v := .slice (some ⟨gy, 0, none⟩) y.s.length cy) rfl (by kernel_rfl) (by kernel_rfl) (by kernel_rfl) (fun _ _ _ h => h) (Or.inl ⟨by kernel_rfl, fun w hSw => by first | (go_simp; done) | (dsimp only at hSw; obtain ⟨hS0, hS1, hS2, hS3⟩ := hSw; go_simp; done) | rfl⟩) (by assumption) ?_
            simp only [Act.put, List.getElem_toArray, List.getElem_cons_succ, List.getElem_cons_zero, List.setIfInBounds_toArray, List.set_cons_succ, List.set_cons_zero]
            refine wpAnyH_take (i := 7) (v := .int .i64 k) rfl (by kernel_rfl) (by kernel_rfl) (by kernel_rfl) (fun _ _ _ h => h) (Or.inl ⟨by kernel_rfl, fun w hSw => by first | (go_simp; done) | (dsimp only at hSw; obtain ⟨hS0, hS1, hS2, hS3⟩ := hSw; go_simp; done) | rfl⟩) (by assumption) ?_
            simp only [Act.put, List.getElem_toArray, List.getElem_cons_succ, List.getElem_cons_zero, List.setIfInBounds_toArray, List.set_cons_succ, List.set_cons_zero]
            refine wpAnyH_take (i := 8) (v := .pointer (some ⟨gy, k, none⟩)) rfl (by kernel_rfl) (by kernel_rfl) (by kernel_rfl) (fun _ _ _ h => h) (Or.inl ⟨by kernel_rfl, fun w hSw => by first | (go_simp; done) | (dsimp only at hSw; obtain ⟨hS0, hS1, hS2, hS3⟩ := hSw; go_simp; done) | rfl⟩) (by assumption) ?_
            simp only [Act.put, List.getElem_toArray, List.getElem_cons_succ, List.getElem_cons_zero, List.setIfInBounds_toArray, List.set_cons_succ, List.set_cons_zero]
            refine wpAnyH_take (i := 9) (v := .int .i64 q) rfl (by kernel_rfl) (by kernel_rfl) (by kernel_rfl) (fun _ _ _ h => h) (Or.inl ⟨by kernel_rfl, fun w hSw => by first | (go_simp; done) | (dsimp only at hSw; obtain ⟨hS0, hS1, hS2, hS3⟩ := hSw; go_simp; done) | rfl⟩) (by assumption) ?_
            simp only [Act.put, List.getElem_toArray, List.getElem_cons_succ, List.getElem_cons_zero, List.setIfInBounds_toArray, List.set_cons_succ, List.set_cons_zero]
            refine wpAnyH_take (i := 10) (v := .bool (decide (p < q))) rfl (by kernel_rfl) (by kernel_rfl) (by kernel_rfl) (fun _ _ _ h => h) (Or.inl ⟨by kernel_rfl, fun w hSw => by first | (go_simp; done) | (dsimp only at hSw; obtain ⟨hS0, hS1, hS2, hS3⟩ := hSw; go_simp; done) | rfl⟩) (by assumption) ?_
            simp only [Act.put, List.getElem_toArray, List.getElem_cons_succ, List.getElem_cons_zero, List.setIfInBounds_toArray, List.set_cons_succ, List.set_cons_zero]
            refine wpAnyH_ready (rs := [11]) (by kernel_rfl) (by simp) ?_
            refine AllReadyH.cons rfl (fun K hK => ?_) AllReadyH.nil
            go_simp
            refine hK.out _ _ ?_ (fun hHeld2 => ?_)
            · exact hHeld
            clear hK K hHeld
            have hHeld := hHeld2
            clear hHeld2
            refine wpAnyH_done (by kernel_rfl) ?_ _
            go_wp2
            go_ret
            exact ⟨by rw [HE.out] <;> rfl, N.trans (L3.mono N.size)⟩
        · have HE2 : Hid (ahead x y = false) := H.out.trans (lex_end (by omega) HL.out)
          go_wp2
          go_ret
          exact ⟨by rw [HE2.out] <;> rfl, N.trans (L.mono N.size)⟩
    · have HE : Hid (ahead x y = decide ((x.s.length : Int) < (y.s.length : Int))) := by
        show _ = _
        rw [HA.out, if_neg (fun h => h h1), if_pos h2]
      have e1 : (x.c != y.c) = false := by simp [h1]
      have e2 : ((x.s.length : Int) != (y.s.length : Int)) = true := by simp; omega
      clear h1 h2 HA
      go_enter Try.func94, Try.ntmps94
      go_wp2
      go_ret
      exact ⟨by rw [HE.out] <;> first | rfl | simp, N⟩
  · have HE : Hid (ahead x y = decide (x.c < y.c)) := by
      show _ = _
      rw [HA.out, if_pos h1]
    have e1 : (x.c != y.c) = true := by simp [h1]
    clear h1 HA
    go_enter Try.func94, Try.ntmps94
    go_wp2
    go_ret
    exact ⟨by rw [HE.out] <;> rfl, N⟩

end Tf
end Go.Proofs.Ytmhongcbgokilad

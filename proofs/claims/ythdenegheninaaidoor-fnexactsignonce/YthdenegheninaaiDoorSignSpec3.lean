/- Contracts of the model's functions of chapter 2, further: SignOnce. -/
import Derived.Test.YthdenegheninaaiDoorSignSpec2
namespace Go.Proofs.YthdenegheninaaiDoor
namespace Num
open Go.ChangeShapes Go.WideShapes Go.ChangeAt Go.RowKit

set_option maxHeartbeats 4000000 in
theorem specSignOnce_val (p q g x k : Int) (t : ByteArray) (w : World) (ht : t.size ≤ maxLen) :
    Calls Tryd.prog 10 #[pv p q g, .int .i64 x, .string t, .int .i64 k] w fun e w' => e = .returned (.tuple #[mv (soR p q g x t k) (soS p q g x t k), .bool (soB p q g x t k)]) ∧ Below w.heap.size w w' := by
  unfold maxLen at ht
  have L0 : Below w.heap.size w ((w.alloc (pb p q g)).alloc (mb 0 0)) := ((Below.refl _ _).alloc (Nat.le_refl _) _).alloc (by simp) _
  have b1 : ((w.alloc (pb p q g)).alloc (mb 0 0)).heap[w.heap.size]? = some (pb p q g) := heap_old (heap_new w (pb p q g)) (mb 0 0)
  have b2 : ((w.alloc (pb p q g)).alloc (mb 0 0)).heap[w.heap.size + 1]? = some (mb 0 0) := by have := heap_new (w.alloc (pb p q g)) (mb 0 0); simpa using this
  rcases signB_cases p q g x t with ⟨h1, hs⟩ | ⟨h1, hx, hs⟩ | ⟨h1, hx, h5, hs⟩ | ⟨h1, hx, h5, hs⟩
  · have HE : Hid (_) := so_no k hs
    have H1 : Hid (okP p q g = false) := h1
    clear h1 hs
    go_enter Tryd.func10, Tryd.ntmps10
    go_wp2_with fail
    refine (specParamsOk_is p q g false H1.out _).mono ?_
    rintro e w3 ⟨rfl, L1⟩
    have hb := L1.block _ ((Array.getElem?_eq_some_iff.1 b2).1)
    rw [b2] at hb
    have hc := L1.block _ ((Array.getElem?_eq_some_iff.1 b1).1)
    rw [b1] at hc
    have L2 := L0.trans (L1.mono L0.size)
    have c0 : w3.cell? ⟨w.heap.size, 0, none⟩ = some (.int .i64 p) := cell_at hc 0
    have c1 : w3.cell? ⟨w.heap.size, 1, none⟩ = some (.int .i64 q) := cell_at hc 1
    have c2 : w3.cell? ⟨w.heap.size, 2, none⟩ = some (.int .i64 g) := cell_at hc 2
    have d0 : w3.cell? ⟨w.heap.size + 1, 0, none⟩ = some (.int .i64 0) := cell_at hb 0
    have d1 : w3.cell? ⟨w.heap.size + 1, 1, none⟩ = some (.int .i64 0) := cell_at hb 1
    have f0 : w3.frozen? ⟨w.heap.size + 1, 0, none⟩ = false := frozen_at hb 0
    have f1 : w3.frozen? ⟨w.heap.size + 1, 1, none⟩ = false := frozen_at hb 1
    clear L0 b1 b2 L1 hb hc c0 c1 c2
    go_wp2
    refine bodyPost_ret (v := .tuple #[mv 0 0, .bool false]) (by simp [results, Tryd.results10, go_sem, d0, d1]) rfl ?_
    rw [HE.out.1, HE.out.2.1, HE.out.2.2]
    exact ⟨rfl, (L2.setCell (by simp) _).setCell (by simp) _⟩
  · obtain ⟨-, hq, hq1, -⟩ := okP_facts h1
    have hm3 := hq.2
    have HE : Hid (_) := so_no k hs
    have H1 : Hid (okP p q g = true) := h1
    clear h1 hs hq
    go_enter Tryd.func10, Tryd.ntmps10
    go_wp2_with fail
    refine (specParamsOk_is p q g true H1.out _).mono ?_
    rintro e w3 ⟨rfl, L1⟩
    have hb := L1.block _ ((Array.getElem?_eq_some_iff.1 b2).1)
    rw [b2] at hb
    have hc := L1.block _ ((Array.getElem?_eq_some_iff.1 b1).1)
    rw [b1] at hc
    have L2 := L0.trans (L1.mono L0.size)
    have c0 : w3.cell? ⟨w.heap.size, 0, none⟩ = some (.int .i64 p) := cell_at hc 0
    have c1 : w3.cell? ⟨w.heap.size, 1, none⟩ = some (.int .i64 q) := cell_at hc 1
    have c2 : w3.cell? ⟨w.heap.size, 2, none⟩ = some (.int .i64 g) := cell_at hc 2
    have d0 : w3.cell? ⟨w.heap.size + 1, 0, none⟩ = some (.int .i64 0) := cell_at hb 0
    have d1 : w3.cell? ⟨w.heap.size + 1, 1, none⟩ = some (.int .i64 0) := cell_at hb 1
    have f0 : w3.frozen? ⟨w.heap.size + 1, 0, none⟩ = false := frozen_at hb 0
    have f1 : w3.frozen? ⟨w.heap.size + 1, 1, none⟩ = false := frozen_at hb 1
    clear L0 b1 b2 L1 hb hc c0 c2
    go_wp2_with fail
    refine (specIn_is x 1 (q - 1) false (decide_eq_false hx) _).mono ?_
    rintro e w2 ⟨rfl, rfl⟩
    go_wp2
    refine bodyPost_ret (v := .tuple #[mv 0 0, .bool false]) (by simp [results, Tryd.results10, go_sem, d0, d1]) rfl ?_
    rw [HE.out.1, HE.out.2.1, HE.out.2.2]
    exact ⟨rfl, (L2.setCell (by simp) _).setCell (by simp) _⟩
  · obtain ⟨-, hq, hq1, -⟩ := okP_facts h1
    have hm3 := hq.2
    have HE : Hid (_) := so_no k hs
    have H1 : Hid (okP p q g = true) := h1
    have hd : decide ((5000 : Int) < t.size) = true := by simp; omega
    clear h1 hs hq
    go_enter Tryd.func10, Tryd.ntmps10
    go_wp2_with fail
    refine (specParamsOk_is p q g true H1.out _).mono ?_
    rintro e w3 ⟨rfl, L1⟩
    have hb := L1.block _ ((Array.getElem?_eq_some_iff.1 b2).1)
    rw [b2] at hb
    have hc := L1.block _ ((Array.getElem?_eq_some_iff.1 b1).1)
    rw [b1] at hc
    have L2 := L0.trans (L1.mono L0.size)
    have c0 : w3.cell? ⟨w.heap.size, 0, none⟩ = some (.int .i64 p) := cell_at hc 0
    have c1 : w3.cell? ⟨w.heap.size, 1, none⟩ = some (.int .i64 q) := cell_at hc 1
    have c2 : w3.cell? ⟨w.heap.size, 2, none⟩ = some (.int .i64 g) := cell_at hc 2
    have d0 : w3.cell? ⟨w.heap.size + 1, 0, none⟩ = some (.int .i64 0) := cell_at hb 0
    have d1 : w3.cell? ⟨w.heap.size + 1, 1, none⟩ = some (.int .i64 0) := cell_at hb 1
    have f0 : w3.frozen? ⟨w.heap.size + 1, 0, none⟩ = false := frozen_at hb 0
    have f1 : w3.frozen? ⟨w.heap.size + 1, 1, none⟩ = false := frozen_at hb 1
    clear L0 b1 b2 L1 hb hc c0 c2
    go_wp2_with fail
    refine (specIn_is x 1 (q - 1) true (decide_eq_true hx) _).mono ?_
    rintro e w2 ⟨rfl, rfl⟩
    go_wp2
    refine bodyPost_ret (v := .tuple #[mv 0 0, .bool false]) (by simp [results, Tryd.results10, go_sem, d0, d1]) rfl ?_
    rw [HE.out.1, HE.out.2.1, HE.out.2.2]
    exact ⟨rfl, (L2.setCell (by simp) _).setCell (by simp) _⟩
  · obtain ⟨-, hq, hq1, -⟩ := okP_facts h1
    have hm2 := hq.1
    have hm3 := hq.2
    have HE : Hid (_) := so_yes k hs
    have H1 : Hid (okP p q g = true) := h1
    have hd : decide ((5000 : Int) < t.size) = false := by simp; omega
    obtain ⟨hh0, hh1⟩ := hV_bd t hq
    have HF : Hid (∀ w, Calls Tryd.prog 26 #[.string t, .int .i64 q] w fun e w' => e = .returned (.int .i64 (hV t q)) ∧ w' = w) := fun w => specFold_yes t q w hm2 hm3 h5
    clear h1 hs hq
    generalize hV t q = h at *
    go_enter Tryd.func10, Tryd.ntmps10
    go_wp2_with fail
    refine (specParamsOk_is p q g true H1.out _).mono ?_
    rintro e w3 ⟨rfl, L1⟩
    have hb := L1.block _ ((Array.getElem?_eq_some_iff.1 b2).1)
    rw [b2] at hb
    have hc := L1.block _ ((Array.getElem?_eq_some_iff.1 b1).1)
    rw [b1] at hc
    have L2 := L0.trans (L1.mono L0.size)
    have c0 : w3.cell? ⟨w.heap.size, 0, none⟩ = some (.int .i64 p) := cell_at hc 0
    have c1 : w3.cell? ⟨w.heap.size, 1, none⟩ = some (.int .i64 q) := cell_at hc 1
    have c2 : w3.cell? ⟨w.heap.size, 2, none⟩ = some (.int .i64 g) := cell_at hc 2
    have d0 : w3.cell? ⟨w.heap.size + 1, 0, none⟩ = some (.int .i64 0) := cell_at hb 0
    have d1 : w3.cell? ⟨w.heap.size + 1, 1, none⟩ = some (.int .i64 0) := cell_at hb 1
    have f0 : w3.frozen? ⟨w.heap.size + 1, 0, none⟩ = false := frozen_at hb 0
    have f1 : w3.frozen? ⟨w.heap.size + 1, 1, none⟩ = false := frozen_at hb 1
    clear L0 b1 b2 L1
    go_wp2_with fail
    refine (specIn_is x 1 (q - 1) true (decide_eq_true hx) _).mono ?_
    rintro e w2 ⟨rfl, rfl⟩
    go_wp2
    have hlt : w.heap.size + 1 < w2.heap.size := (Array.getElem?_eq_some_iff.1 hb).1
    clear hb hc
    go_region_with (first
      | (go_at_call 26; refine (HF.out _).mono ?_; rintro e w' ⟨rfl, rfl⟩)
      | (go_at_call 25; refine (specOnce_val p q g x h k _ H1.out ⟨hh0, hh1⟩).mono ?_; rintro e w4 ⟨rfl, L4⟩; have e0 := (L4.cell (p := ⟨w.heap.size + 1, 0, none⟩) hlt).trans d0; have e1 := (L4.cell (p := ⟨w.heap.size + 1, 1, none⟩) hlt).trans d1; have g0 := (L4.frozen (p := ⟨w.heap.size + 1, 0, none⟩) hlt).trans f0; have g1 := (L4.frozen (p := ⟨w.heap.size + 1, 1, none⟩) hlt).trans f1))
    all_goals
      go_wp2
      refine bodyPost_ret (v := .tuple #[mv (onceR p q g x h k) (onceS p q g x h k), .bool (doV p q g x h k)]) (by simp [results, Tryd.results10, go_sem, e0, e1]) rfl ?_
      rw [HE.out.1, HE.out.2.1, HE.out.2.2]
      exact ⟨rfl, ((L2.drew.trans (L4.mono L2.size)).setCell (by simp) _).setCell (by simp) _⟩

end Num
end Go.Proofs.YthdenegheninaaiDoor

/- Contracts of the program's functions of chapter 2: a signer, and SignOnce. -/
import Derived.Test.YtcifgableeeooalGreatDoorSignOnce2
namespace Go.Proofs.YtcifgableeeooalGreatDoor
namespace Num
open Go.ChangeShapes Go.WideShapes Go.ChangeAt Go.RowKit
set_option linter.unusedSimpArgs false
set_option linter.unusedVariables false

theorem markBy_val (p q g x h k : Int) (w : World) (hok : okP p q g = true) (hx : 1 ≤ x ∧ x ≤ q - 1) (hh : 0 ≤ h ∧ h < q) (a : Addr) (hE : w.cell? ⟨0, 0, none⟩ = some (.iface 216 (.pointer (some a)))) (hlt : 0 < w.heap.size) :
    Calls Tryz.prog 47 #[gv p q g x h, .int .i64 k] w fun e w' => e = .returned (.tuple #[mv (onceR p q g x h k) (onceS p q g x h k), errV a (doV p q g x h k)]) ∧ Below w.heap.size w w' := by
  by_cases hk : 1 ≤ k ∧ k ≤ q - 1
  · exact markBy_in p q g x h k w hok hx hh hk a hE hlt
  · have he : doV p q g x h k = false := by unfold doV; rw [decide_eq_false hk]; rfl
    rw [(once_no he).1, (once_no he).2, he]
    exact markBy_out p q g x h k w hk a hE hlt

theorem two (w : World) (a b : Obj) : Below w.heap.size w ((w.alloc a).alloc b) ∧ ((w.alloc a).alloc b).heap[w.heap.size]? = some a ∧ ((w.alloc a).alloc b).heap[w.heap.size + 1]? = some b := by
  refine ⟨join_below (new_below _ _) (new_below _ _), heap_old (heap_new w a) b, ?_⟩
  have := heap_new (w.alloc a) b
  simpa using this

theorem err_lt {g : Nat} {w : World} {v : Value} (h : w.cell? ⟨g, 0, none⟩ = some v) : g < w.heap.size := by
  apply Nat.lt_of_not_le
  intro hle
  unfold World.cell? at h
  rw [Array.getElem?_eq_none hle] at h
  simp at h

set_option maxHeartbeats 1000000 in
theorem signerOf_no (p q g x : Int) (t : ByteArray) (w : World) (ht : t.size ≤ maxLen) (hs : signB p q g x t = false) (E1 : Errs.ErrAt 2 w) (E2 : Errs.ErrAt 5 w) (E3 : Errs.ErrAt 1 w) :
    Calls Tryz.prog 46 #[pv p q g, .int .i64 x, .string t] w fun e w' => (∃ a, e = .returned (.tuple #[gv 0 0 0 0 0, .iface 216 (.pointer (some a))])) ∧ Below w.heap.size w w' := by
  unfold maxLen at ht
  obtain ⟨L0, b1, b2⟩ := two w (pb p q g) (gb 0 0 0 0 0)
  cases hk : keyB p q g x
  · have HK : Hid (keyB p q g x = false) := hk
    clear hk hs
    go_enter Tryz.func46, Tryz.ntmps46
    go_wp2_with fail
    refine (checkSecret_no p q g x _ HK.out (E1.on L0) (E2.on L0)).mono ?_
    rintro e w3 ⟨⟨a, rfl⟩, L1⟩
    have hB := kept_new L1 b2
    have L2 := join_below L0 L1
    have d0 : w3.cell? ⟨w.heap.size + 1, 0, none⟩ = some (.int .i64 0) := cell_at hB 0
    have d1 : w3.cell? ⟨w.heap.size + 1, 1, none⟩ = some (.int .i64 0) := cell_at hB 1
    have d2 : w3.cell? ⟨w.heap.size + 1, 2, none⟩ = some (.int .i64 0) := cell_at hB 2
    have d3 : w3.cell? ⟨w.heap.size + 1, 3, none⟩ = some (.int .i64 0) := cell_at hB 3
    have d4 : w3.cell? ⟨w.heap.size + 1, 4, none⟩ = some (.int .i64 0) := cell_at hB 4
    have f0 := frozen_at hB 0
    have f1 := frozen_at hB 1
    have f2 := frozen_at hB 2
    have f3 := frozen_at hB 3
    have f4 := frozen_at hB 4
    clear L0 b1 b2 L1 hB
    go_wp2
    refine bodyPost_ret (v := .tuple #[gv 0 0 0 0 0, .iface 216 (.pointer (some a))]) (by simp [results, Tryz.results46, go_sem, d0, d1, d2, d3, d4]) rfl ?_
    exact ⟨⟨a, rfl⟩, ((((L2.setCell (by simp) _).setCell (by simp) _).setCell (by simp) _).setCell (by simp) _).setCell (by simp) _⟩
  · have h5 : 5000 < t.size := by
      apply Nat.lt_of_not_le
      intro h
      rw [signB, hk, decide_eq_true h] at hs
      cases hs
    have HK : Hid (keyB p q g x = true) := hk
    have hd : decide ((5000 : Int) < t.size) = true := by simp; omega
    clear hk hs
    go_enter Tryz.func46, Tryz.ntmps46
    go_wp2_with fail
    refine (checkSecret_yes p q g x _ HK.out).mono ?_
    rintro e w3 ⟨rfl, L1⟩
    have hB := kept_new L1 b2
    have L2 := join_below L0 L1
    obtain ⟨a, ha⟩ := err_cell (E3.on L2)
    have hgl := err_lt (err_cell E3).choose_spec
    have hn1 : 1 ≠ w.heap.size + 1 := by omega
    have hn2 : w.heap.size + 1 ≠ 1 := by omega
    have d0 : w3.cell? ⟨w.heap.size + 1, 0, none⟩ = some (.int .i64 0) := cell_at hB 0
    have d1 : w3.cell? ⟨w.heap.size + 1, 1, none⟩ = some (.int .i64 0) := cell_at hB 1
    have d2 : w3.cell? ⟨w.heap.size + 1, 2, none⟩ = some (.int .i64 0) := cell_at hB 2
    have d3 : w3.cell? ⟨w.heap.size + 1, 3, none⟩ = some (.int .i64 0) := cell_at hB 3
    have d4 : w3.cell? ⟨w.heap.size + 1, 4, none⟩ = some (.int .i64 0) := cell_at hB 4
    have f0 := frozen_at hB 0
    have f1 := frozen_at hB 1
    have f2 := frozen_at hB 2
    have f3 := frozen_at hB 3
    have f4 := frozen_at hB 4
    clear L0 b1 b2 L1 hB
    go_wp2
    go_region
    all_goals
      go_wp2
      refine bodyPost_ret (v := .tuple #[gv 0 0 0 0 0, .iface 216 (.pointer (some a))]) (by simp [results, Tryz.results46, go_sem, d0, d1, d2, d3, d4]) rfl ?_
      exact ⟨⟨a, rfl⟩, ((((L2.drew.setCell (by simp) _).setCell (by simp) _).setCell (by simp) _).setCell (by simp) _).setCell (by simp) _⟩

set_option maxHeartbeats 1000000 in
theorem signerOf_yes (p q g x : Int) (t : ByteArray) (w : World) (hs : signB p q g x t = true) :
    Calls Tryz.prog 46 #[pv p q g, .int .i64 x, .string t] w fun e w' => e = .returned (.tuple #[gv p q g x (hV t q), .nilIface]) ∧ Below w.heap.size w w' := by
  obtain ⟨L0, b1, b2⟩ := two w (pb p q g) (gb 0 0 0 0 0)
  obtain ⟨hok, hx, h5⟩ := signB_facts hs
  obtain ⟨-, hq, -⟩ := okP_facts hok
  have HK : Hid (keyB p q g x = true) := by show _ = _; simp [keyB, hok, hx]
  have HF : Hid (∀ w, Calls Tryz.prog 87 #[.string t, .int .i64 q] w fun e w' => e = .returned (.int .i64 (hV t q)) ∧ Drawn w w') := fun w => implFold_yes t q w hq.1 hq.2 h5
  have hd : decide ((5000 : Int) < t.size) = false := by simp; omega
  clear hok hs hq
  generalize hV t q = h at *
  go_enter Tryz.func46, Tryz.ntmps46
  go_wp2_with fail
  refine (checkSecret_yes p q g x _ HK.out).mono ?_
  rintro e w3 ⟨rfl, L1⟩
  have hA := kept_new L1 b1
  have hB := kept_new L1 b2
  have L2 := join_below L0 L1
  have c0 : w3.cell? ⟨w.heap.size, 0, none⟩ = some (.int .i64 p) := cell_at hA 0
  have c1 : w3.cell? ⟨w.heap.size, 1, none⟩ = some (.int .i64 q) := cell_at hA 1
  have c2 : w3.cell? ⟨w.heap.size, 2, none⟩ = some (.int .i64 g) := cell_at hA 2
  clear L0 b1 b2 L1
  go_wp2
  go_region_with ((go_at_call 87; refine (HF.out _).mono ?_; rintro e w4 ⟨rfl, D4⟩; have L4 := L2.drew.trans (drawn_below _ D4); have hA4 := kept_drawn D4 hA; have hB4 := kept_drawn D4 hB; have c0 : w4.cell? ⟨w.heap.size, 0, none⟩ = some (.int .i64 p) := cell_at hA4 0; have c1 : w4.cell? ⟨w.heap.size, 1, none⟩ = some (.int .i64 q) := cell_at hA4 1; have c2 : w4.cell? ⟨w.heap.size, 2, none⟩ = some (.int .i64 g) := cell_at hA4 2; have d0 : w4.cell? ⟨w.heap.size + 1, 0, none⟩ = some (.int .i64 0) := cell_at hB4 0; have d1 : w4.cell? ⟨w.heap.size + 1, 1, none⟩ = some (.int .i64 0) := cell_at hB4 1; have d2 : w4.cell? ⟨w.heap.size + 1, 2, none⟩ = some (.int .i64 0) := cell_at hB4 2; have d3 : w4.cell? ⟨w.heap.size + 1, 3, none⟩ = some (.int .i64 0) := cell_at hB4 3; have d4 : w4.cell? ⟨w.heap.size + 1, 4, none⟩ = some (.int .i64 0) := cell_at hB4 4; have f0 := frozen_at hB4 0; have f1 := frozen_at hB4 1; have f2 := frozen_at hB4 2; have f3 := frozen_at hB4 3; have f4 := frozen_at hB4 4; clear hA4 hB4))
  all_goals
    go_wp2
    refine bodyPost_ret (v := .tuple #[gv p q g x h, .nilIface]) (by simp [results, Tryz.results46, go_sem, d0, d1, d2, d3, d4]) rfl ?_
    exact ⟨rfl, ((((L4.setCell (by simp) _).setCell (by simp) _).setCell (by simp) _).setCell (by simp) _).setCell (by simp) _⟩

end Num
end Go.Proofs.YtcifgableeeooalGreatDoor

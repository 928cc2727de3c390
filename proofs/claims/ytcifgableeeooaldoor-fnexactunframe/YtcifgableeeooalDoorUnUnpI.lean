/- The contract of the program's Unpack. -/
import Derived.Test.YtcifgableeeooalDoorUnBlkI
import Derived.Test.YtcifgableeeooalDoorUnCatch
namespace Go.Proofs.YtcifgableeeooalDoor
namespace Pk
open Go.ChangeShapes Go.WideShapes Go.ChangeAt Go.RowKit
open Math (unpC unpT)
set_option linter.unusedSimpArgs false
set_option linter.unusedVariables false

theorem unp_long {s : ByteArray} (h : 6000 < s.size) : unpC s = 5 ∧ unpT s = ⟨#[]⟩ := by
  have e : unpC s = 5 := by unfold unpC; rw [if_pos h]
  exact ⟨e, Math.unpT_no (by rw [e]; omega)⟩

set_option maxRecDepth 100000 in
set_option maxHeartbeats 400000 in
theorem implUnpack_val (s : ByteArray) (w : World) (R : Runs w) :
    Calls Tryd.prog 21 #[.string s] w fun e w' => e = .returned (.tuple #[.string (unpT s), .int .i64 (unpC s : Nat)]) ∧ Below w.heap.size w w' := by
  have hmf : ∀ (fn : Fn) (first cap : Array Value) (w : World), (Instr.makeFunc fn first cap).run Tryd.prog w = .ok (.func fn first cap) w := fun _ _ _ _ => rfl
  have hrl := R.lt
  by_cases hbig : 6000 < s.size
  · obtain ⟨e1, e2⟩ := unp_long hbig
    rw [e1, e2]
    have hbI : (6000 : Int) < (s.size : Int) := by omega
    go_enter_defers Tryd.func21, Tryd.ntmps21
    go_wp2
    have L : Below w.heap.size w ((w.alloc (.cells #[.string ⟨#[]⟩] 9)).alloc (.cells #[.int .i64 5] 3)) := ((Below.refl _ _).alloc (Nat.le_refl _) _).alloc (by simp) _
    have mA := heap_old (heap_new w (.cells #[.string ⟨#[]⟩] 9)) (.cells #[.int .i64 5] 3)
    have mB : ((w.alloc (.cells #[.string ⟨#[]⟩] 9)).alloc (.cells #[.int .i64 5] 3)).heap[w.heap.size + 1]? = some (.cells #[.int .i64 5] 3) := by have h := heap_new (w.alloc (.cells #[.string ⟨#[]⟩] 9)) (.cells #[.int .i64 5] 3); simp at h ⊢; exact h
    generalize (w.alloc (.cells #[.string ⟨#[]⟩] 9)).alloc (.cells #[.int .i64 5] 3) = W at *
    have cA := cell_at mA 0
    have cB := cell_at mB 0
    simp at cA cB
    simp [bodyPostD, Leaves, settle, results, Tryd.results21, go_sem, cA, cB]
    exact L
  · have hbI : ¬ (6000 : Int) < (s.size : Int) := by omega
    obtain ⟨t, hTT⟩ : ∃ t, unpT s = t := ⟨_, rfl⟩
    obtain ⟨k, hCC⟩ : ∃ k, unpC s = k := ⟨_, rfl⟩
    rw [hTT, hCC]
    have HTT : Hid (unpT s = t) := hTT
    have HCC : Hid (unpC s = k) := hCC
    clear hTT hCC
    have L3 : Below w.heap.size w (((w.alloc (.cells #[.string ⟨#[]⟩] 9)).alloc (.cells #[.int .i64 0] 3)).alloc (.cells #[.string s, .int .i64 0, .slice none 0 0] 61)) := (((Below.refl _ _).alloc (Nat.le_refl _) _).alloc (by simp) _).alloc (by simp; omega) _
    have mA := heap_old (heap_old (heap_new w (.cells #[.string ⟨#[]⟩] 9)) (.cells #[.int .i64 0] 3)) (.cells #[.string s, .int .i64 0, .slice none 0 0] 61)
    have mB := heap_old (heap_new (w.alloc (.cells #[.string ⟨#[]⟩] 9)) (.cells #[.int .i64 0] 3)) (.cells #[.string s, .int .i64 0, .slice none 0 0] 61)
    have mC := heap_new ((w.alloc (.cells #[.string ⟨#[]⟩] 9)).alloc (.cells #[.int .i64 0] 3)) (.cells #[.string s, .int .i64 0, .slice none 0 0] 61)
    have hz1 : (w.alloc (.cells #[.string ⟨#[]⟩] 9)).heap.size = w.heap.size + 1 := by simp
    have hz2 : ((w.alloc (.cells #[.string ⟨#[]⟩] 9)).alloc (.cells #[.int .i64 0] 3)).heap.size = w.heap.size + 1 + 1 := by simp
    have hz3 : (((w.alloc (.cells #[.string ⟨#[]⟩] 9)).alloc (.cells #[.int .i64 0] 3)).alloc (.cells #[.string s, .int .i64 0, .slice none 0 0] 61)).heap.size = w.heap.size + 1 + 1 + 1 := by simp
    rw [hz1] at mB
    rw [hz2] at mC
    have HB : Hid (_) := blkI_val (w.heap.size + 1 + 1) (w.heap.size + 1 + 1) s _ (by omega) (Nat.le_refl _) (by rw [hz3]; omega) (by omega) (R.on L3 hrl) mC
    have HM : Hid (_ ∧ _ ∧ _) := ⟨L3, mA, mB⟩
    clear mA mB mC hz1 hz2 L3
    go_enter_defers Tryd.func21, Tryd.ntmps21
    go_wp2_with fail
    refine Calls.mono HB.out ?_
    rintro e w2 ⟨h1, h0, L⟩
    obtain ⟨L3, mA, mB⟩ := HM.out
    have mA2 := (L.block w.heap.size (by omega)).trans mA
    have mB2 := (L.block (w.heap.size + 1) (by omega)).trans mB
    have L4 : Below w.heap.size w w2 := L3.trans (L.mono (by omega))
    clear HB HM mA mB L3 L hz3
    have hA := (cell_at mA2 0).trans (show _ = some (.string ⟨#[]⟩) from rfl)
    have fA := frozen_at mA2 0
    have hne : w.heap.size + 1 ≠ w.heap.size := by omega
    have hne2 : w.heap.size ≠ w.heap.size + 1 := by omega
    by_cases hu : unpC s = 0
    · obtain ⟨rfl, q, va, vc, out, hT, K⟩ := h0 hu
      obtain rfl : t = ⟨out.toArray⟩ := HTT.out.symm.trans hT
      obtain rfl : k = 0 := HCC.out.symm.trans hu
      have hconv := conv_own K.own
      have c2 := (cell_at K.rd 2).trans (show _ = some (.slice va out.length vc) from rfl)
      have mB3 : ∀ x, (w2.setCell ⟨w.heap.size, 0, none⟩ x).heap[w.heap.size + 1]? = _ := fun x => (Below.heap_setCell w2 ⟨w.heap.size, 0, none⟩ x (w.heap.size + 1) hne).trans mB2
      have hB3 := (cell_at (mB3 (.string ⟨out.toArray⟩)) 0).trans (show _ = some (.int .i64 0) from rfl)
      have fB3 := frozen_at (mB3 (.string ⟨out.toArray⟩)) 0
      have L5 : Below w.heap.size w ((w2.setCell ⟨w.heap.size, 0, none⟩ (.string ⟨out.toArray⟩)).setCell ⟨w.heap.size + 1, 0, none⟩ (.int .i64 0)) := (L4.setCell (Nat.le_refl _) _).setCell (Nat.le_succ _) _
      have mB4 := hp_set (i := 0) (mB3 (.string ⟨out.toArray⟩)) (.int .i64 0)
      have mA4 := (Below.heap_setCell (w2.setCell ⟨w.heap.size, 0, none⟩ (.string ⟨out.toArray⟩)) ⟨w.heap.size + 1, 0, none⟩ (.int .i64 0) w.heap.size hne2).trans (hp_set (i := 0) mA2 (.string ⟨out.toArray⟩))
      have cA := cell_at mA4 0
      have cB := cell_at mB4 0
      have HL5 : Hid (_) := L5
      clear mA2 mB2 mB3 mA4 mB4 L5 L4 K h1 h0 hT
      go_wp2
      refine leaves_cons (f := 29) (args := #[.pointer (some ⟨w.heap.size, 0, none⟩), .pointer (some ⟨w.heap.size + 1, 0, none⟩)]) (by simp) (by simp [go_sem]) ?_
      refine (catch_none ⟨w.heap.size, 0, none⟩ ⟨w.heap.size + 1, 0, none⟩ _).mono ?_
      rintro e u' w4 ⟨rfl, rfl, rfl⟩
      generalize (w2.setCell ⟨w.heap.size, 0, none⟩ (.string ⟨out.toArray⟩)).setCell ⟨w.heap.size + 1, 0, none⟩ (.int .i64 0) = W at *
      simp at cA cB
      simp [Leaves, settle, results, Tryd.results21, go_sem, cA, cB]
      exact HL5.out
    · have he := h1 hu
      rw [HCC.out] at he
      subst he
      obtain rfl : t = ⟨#[]⟩ := HTT.out.symm.trans (Math.unpT_no hu)
      have mB3 : ∀ x, (w2.setCell ⟨w.heap.size, 0, none⟩ x).heap[w.heap.size + 1]? = _ := fun x => (Below.heap_setCell w2 ⟨w.heap.size, 0, none⟩ x (w.heap.size + 1) hne).trans mB2
      have hB3 := (cell_at (mB3 (.string ⟨#[]⟩)) 0).trans (show _ = some (.int .i64 0) from rfl)
      have fB3 := frozen_at (mB3 (.string ⟨#[]⟩)) 0
      refine leaves_cons (f := 29) (args := #[.pointer (some ⟨w.heap.size, 0, none⟩), .pointer (some ⟨w.heap.size + 1, 0, none⟩)]) (by simp) (by simp [go_sem]) ?_
      refine (catch_fault ⟨w.heap.size, 0, none⟩ ⟨w.heap.size + 1, 0, none⟩ _ _ _ w2 hA fA hB3 fB3).mono ?_
      rintro e u' w4 ⟨rfl, rfl, rfl⟩
      have L5 : Below w.heap.size w ((w2.setCell ⟨w.heap.size, 0, none⟩ (.string ⟨#[]⟩)).setCell ⟨w.heap.size + 1, 0, none⟩ (.int .i64 (k : Nat))) := (L4.setCell (Nat.le_refl _) _).setCell (Nat.le_succ _) _
      have mB4 := hp_set (i := 0) (mB3 (.string ⟨#[]⟩)) (.int .i64 (k : Nat))
      have mA4 := (Below.heap_setCell (w2.setCell ⟨w.heap.size, 0, none⟩ (.string ⟨#[]⟩)) ⟨w.heap.size + 1, 0, none⟩ (.int .i64 (k : Nat)) w.heap.size hne2).trans (hp_set (i := 0) mA2 (.string ⟨#[]⟩))
      have cA := cell_at mA4 0
      have cB := cell_at mB4 0
      generalize (w2.setCell ⟨w.heap.size, 0, none⟩ (.string ⟨#[]⟩)).setCell ⟨w.heap.size + 1, 0, none⟩ (.int .i64 (k : Nat)) = W at *
      simp at cA cB
      simp [Leaves, settle, results, Tryd.results21, go_sem, cA, cB]
      exact L5

end Pk
end Go.Proofs.YtcifgableeeooalDoor

/- Contracts of the program's functions of chapter 2: a mark by one draw, further. -/
import Derived.Test.YtcifgableeeooalGreatDoorSignOnce
namespace Go.Proofs.YtcifgableeeooalGreatDoor
namespace Num
open Go.ChangeShapes Go.WideShapes Go.ChangeAt Go.RowKit
set_option linter.unusedSimpArgs false
set_option linter.unusedVariables false

set_option maxHeartbeats 1000000 in
theorem markBy_in (p q g x h k : Int) (w : World) (hok : okP p q g = true) (hx : 1 ≤ x ∧ x ≤ q - 1) (hh : 0 ≤ h ∧ h < q) (hk : 1 ≤ k ∧ k ≤ q - 1) (a : Addr) (hE : w.cell? ⟨0, 0, none⟩ = some (.iface 216 (.pointer (some a)))) (hlt : 0 < w.heap.size) :
    Calls Tryz.prog 47 #[gv p q g x h, .int .i64 k] w fun e w' => e = .returned (.tuple #[mv (onceR p q g x h k) (onceS p q g x h k), errV a (doV p q g x h k)]) ∧ Below w.heap.size w w' := by
  obtain ⟨hp, hq, hq1, hq2, hd', hg1, hg2, hpow, hpr, -⟩ := okP_facts hok
  have hm1 := hp.1
  have hm2 := hp.2
  have hm3 := hq.2
  have hd : decide (1 ≤ k ∧ k < q) = true := decide_eq_true (by omega)
  have HR : Hid (rV p q g k = modV (powV g k p) q) := rfl
  have HS : Hid (mulV (invI k q) (h + x * rV p q g k) q = sV p q g x h k) := sV_impl p q g x h k hq
  have HD : Hid (doV p q g x h k = (!(rV p q g k == 0) && !(sV p q g x h k == 0))) := by show _ = _; simp [doV, hk]
  have HO : Hid (∀ b, doV p q g x h k = b → onceR p q g x h k = (if b = true then rV p q g k else 0) ∧ onceS p q g x h k = (if b = true then sV p q g x h k else 0)) := by
    intro b hb
    subst hb
    exact ⟨rfl, rfl⟩
  have rb := rV_bd (p := p) (g := g) (k := k) hq
  have hmul := Math.mul_bd' x (rV p q g k) (by omega) rb.1 (by omega) (by omega)
  obtain ⟨rb1, rb2⟩ := rb
  obtain ⟨hmul1, hmul2⟩ := hmul
  clear hd' hpow hpr hp hq hok
  obtain ⟨L0, b1, b2, b3⟩ := three w (gb p q g x h) (mb 0 0) (pb p q g)
  go_enter Tryz.func47, Tryz.ntmps47
  go_wp2_with fail
  refine (belowQ_val p q g k _ true hd).mono ?_
  rintro e w3 ⟨rfl, L1⟩
  have hA := kept_new L1 b1
  have hB := kept_new L1 b2
  have hC := kept_new L1 b3
  have L2 := join_below L0 L1
  have c0 : w3.cell? ⟨w.heap.size + 2, 0, none⟩ = some (.int .i64 p) := cell_at hC 0
  have c1 : w3.cell? ⟨w.heap.size + 2, 1, none⟩ = some (.int .i64 q) := cell_at hC 1
  have c2 : w3.cell? ⟨w.heap.size + 2, 2, none⟩ = some (.int .i64 g) := cell_at hC 2
  clear L0 b1 b2 b3 L1
  go_wp2
  go_quiet (first | (go_at_call 90; exact Calls.quiet_of_same (implPowMod_val _ _ _ _)) | (go_at_call 89; exact Calls.quiet_of_same (implMod_val _ _ _)))
  rw [← HR.out]
  clear c0 c1 c2
  have D1 : Drawn w3 (w3.drewN nq) := ⟨nq, rfl⟩
  generalize w3.drewN nq = w4 at *
  have cq : w4.cell? ⟨w.heap.size + 2, 1, none⟩ = some (.int .i64 q) := cell_at (kept_drawn D1 hC) 1
  go_wp2_with fail
  refine (implInverse_is k q _).mono ?_
  rintro e w5 ⟨rfl, D2⟩
  have hA5 := kept_drawn D2 (kept_drawn D1 hA)
  have hB5 := kept_drawn D2 (kept_drawn D1 hB)
  have hC5 := kept_drawn D2 (kept_drawn D1 hC)
  have L5 := L2.trans ((drawn_below _ D1).trans (drawn_below _ D2))
  have hE5 := (L5.cell (p := ⟨0, 0, none⟩) hlt).trans hE
  have hl5 : w.heap.size + 2 < w5.heap.size := (Array.getElem?_eq_some_iff.1 hC5).1
  clear hA hB hC L2 D1 D2 cq hE
  have x0 : w5.cell? ⟨w.heap.size, 3, none⟩ = some (.int .i64 x) := cell_at hA5 3
  have x1 : w5.cell? ⟨w.heap.size, 4, none⟩ = some (.int .i64 h) := cell_at hA5 4
  have d0 : w5.cell? ⟨w.heap.size + 1, 0, none⟩ = some (.int .i64 0) := cell_at hB5 0
  have d1 : w5.cell? ⟨w.heap.size + 1, 1, none⟩ = some (.int .i64 0) := cell_at hB5 1
  have f0 : w5.frozen? ⟨w.heap.size + 1, 0, none⟩ = false := frozen_at hB5 0
  have f1 : w5.frozen? ⟨w.heap.size + 1, 1, none⟩ = false := frozen_at hB5 1
  have cq : w5.cell? ⟨w.heap.size + 2, 1, none⟩ = some (.int .i64 q) := cell_at hC5 1
  have glt : 0 < w5.heap.size := Nat.lt_of_lt_of_le hlt L5.size
  clear hA5 hC5
  generalize rV p q g k = r at *
  go_wp2_with fail
  refine (implMulMod_val (invI k q) (h + x * r) q _).mono ?_
  rw [HS.out]
  rintro e w6 ⟨rfl, rfl⟩
  generalize sV p q g x h k = s at *
  clear HR HS
  have hB6 := heap_old hB5 (mb r s)
  have y0 : (w6.alloc (mb r s)).cell? ⟨w.heap.size + 1, 0, none⟩ = some (.int .i64 0) := cell_at hB6 0
  have y1 : (w6.alloc (mb r s)).cell? ⟨w.heap.size + 1, 1, none⟩ = some (.int .i64 0) := cell_at hB6 1
  have z0 : (w6.alloc (mb r s)).frozen? ⟨w.heap.size + 1, 0, none⟩ = false := frozen_at hB6 0
  have z1 : (w6.alloc (mb r s)).frozen? ⟨w.heap.size + 1, 1, none⟩ = false := frozen_at hB6 1
  have hE6 : (w6.alloc (mb r s)).cell? ⟨0, 0, none⟩ = some (.iface 216 (.pointer (some a))) := ((new_below w6 _).cell (p := ⟨0, 0, none⟩) glt).trans hE5
  have hn1 : 0 ≠ w.heap.size + 1 := by omega
  have hn2 : w.heap.size + 1 ≠ 0 := by omega
  clear hB5 hB6 d0 d1 f0 f1
  cases hr : r == 0
  · cases hs : s == 0
    · have he := HD.out
      rw [hr, hs] at he
      have ho := HO.out _ he
      have HE : Hid (_ ∧ _ ∧ _) := ⟨he, ho.1, ho.2⟩
      clear he ho HO HD
      go_wp2
      refine bodyPost_ret (v := .tuple #[mv r s, .nilIface]) (by simp [results, Tryz.results47, go_sem, y0, y1]) rfl ?_
      rw [HE.out.1, HE.out.2.1, HE.out.2.2]
      exact ⟨rfl, ((L5.alloc L5.size _).setCell (by simp) _).setCell (by simp) _⟩
    · have he := HD.out
      rw [hr, hs] at he
      have ho := HO.out _ he
      have HE : Hid (_ ∧ _ ∧ _) := ⟨he, ho.1, ho.2⟩
      clear he ho HO HD
      go_wp2
      go_region
      all_goals
        go_wp2
        refine bodyPost_ret (v := .tuple #[mv 0 0, .iface 216 (.pointer (some a))]) (by simp [results, Tryz.results47, go_sem, y0, y1]) rfl ?_
        rw [HE.out.1, HE.out.2.1, HE.out.2.2]
        exact ⟨rfl, ((L5.alloc L5.size _).drew.setCell (by simp) _).setCell (by simp) _⟩
  · have he := HD.out
    rw [hr, Bool.not_true, Bool.false_and] at he
    have ho := HO.out _ he
    have HE : Hid (_ ∧ _ ∧ _) := ⟨he, ho.1, ho.2⟩
    clear he ho HO HD
    go_wp2
    go_region
    all_goals
      go_wp2
      refine bodyPost_ret (v := .tuple #[mv 0 0, .iface 216 (.pointer (some a))]) (by simp [results, Tryz.results47, go_sem, y0, y1]) rfl ?_
      rw [HE.out.1, HE.out.2.1, HE.out.2.2]
      exact ⟨rfl, ((L5.alloc L5.size _).drew.setCell (by simp) _).setCell (by simp) _⟩

end Num
end Go.Proofs.YtcifgableeeooalGreatDoor

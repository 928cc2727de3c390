/- HandOk of program and model. -/
import Derived.Test.YtlgolnddhfadeabHnHand
namespace Go.Proofs.Ytlgolnddhfadeab
namespace Hn
open Go.ChangeShapes Go.WideShapes Go.ChangeAt Go.RowKit
open Pk (new_below join_below cell_at heap_new frozen_at lt_of kept heap_old Drawn info_of Room)
set_option linter.unusedSimpArgs false
set_option linter.unusedVariables false

theorem hand_no0 {o : Hnd} (h : inB o.dv 1 9999 = false) : handB o = false := by unfold handB; rw [h]; rfl
theorem hand_no1 {o : Hnd} (h : inB o.is 0 9999 = false) : handB o = false := by unfold handB; rw [h, Bool.false_and, Bool.and_false]
theorem hand_no2 {o : Hnd} (h : ¬ 0 ≤ o.ve) : handB o = false := by unfold handB; rw [decide_eq_false h, Bool.false_and, Bool.and_false, Bool.and_false]
theorem hand_no3 {o : Hnd} (h : offB o.ol = false) : handB o = false := by unfold handB; rw [h, Bool.false_and, Bool.and_false, Bool.and_false, Bool.and_false]
theorem hand_is {o : Hnd} (h0 : inB o.dv 1 9999 = true) (h1 : inB o.is 0 9999 = true) (h2 : 0 ≤ o.ve) (h3 : offB o.ol = true) : handB o = seenB o.dv o.sl := by
  unfold handB
  rw [h0, h1, decide_eq_true h2, h3, Bool.true_and, Bool.true_and, Bool.true_and, Bool.true_and]

set_option maxRecDepth 100000 in
set_option maxHeartbeats 4000000 in
theorem implHand_val (x : Pl) (o : Hnd) (w : World) (hz : o.ol.length ≤ 1048576) (hz2 : o.sl.length ≤ 1048576) (I : In w x o) :
    Calls Try.prog 23 #[hnV x o] w fun e w' => e = .returned (.bool (handB o)) ∧ Below w.heap.size w w' := by
  have N := new_below w (hnB x o 32)
  have m := heap_new w (hnB x o 32)
  have IN := I.on N
  have HF : Hid (∀ W : World, _) := fun W => btw_val o.dv 1 9999 W
  have HG : Hid (∀ W : World, _) := fun W => btw_val o.is 0 9999 W
  have HO : Hid (∀ W : World, Ints W x.a o.ol → _) := fun W h => implOff_val x.a o.ol x.c W hz h
  have HS : Hid (∀ W : World, Controls W x.b o.sl → _) := fun W h => implSeen_val x.b o.sl x.d o.dv W hz2 h
  cases h0 : inB o.dv 1 9999
  · have HV : Hid (handB o = false) := hand_no0 h0
    rw [h0] at HF
    clear h0 HG HO HS m I
    go_enter Try.func23, Try.ntmps23
    go_wp2_with fail
    refine (HF.out _).mono ?_
    rintro e w1 ⟨rfl, rfl⟩
    go_wp2
    go_ret
    exact ⟨by rw [HV.out] <;> rfl, N⟩
  cases h1 : inB o.is 0 9999
  · have HV : Hid (handB o = false) := hand_no1 h1
    rw [h0] at HF
    rw [h1] at HG
    clear h0 h1 HO HS m I
    go_enter Try.func23, Try.ntmps23
    go_wp2_with fail
    refine (HF.out _).mono ?_
    rintro e w1 ⟨rfl, rfl⟩
    go_wp2_with fail
    refine (HG.out _).mono ?_
    rintro e w1 ⟨rfl, rfl⟩
    go_wp2
    go_ret
    exact ⟨by rw [HV.out] <;> rfl, N⟩
  by_cases h2 : 0 ≤ o.ve
  · have d2 : decide (o.ve < 0) = false := decide_eq_false (by omega)
    rw [h0] at HF
    rw [h1] at HG
    cases h3 : offB o.ol
    · have HV : Hid (handB o = false) := hand_no3 h3
      rw [h3] at HO
      clear h0 h1 h2 h3 HS m I
      go_enter Try.func23, Try.ntmps23
      go_wp2_with fail
      refine (HF.out _).mono ?_
      rintro e w1 ⟨rfl, rfl⟩
      go_wp2_with fail
      refine (HG.out _).mono ?_
      rintro e w1 ⟨rfl, rfl⟩
      go_wp2_with fail
      refine (HO.out _ IN.off).mono ?_
      rintro e w1 ⟨rfl, rfl⟩
      go_wp2
      go_ret
      exact ⟨by rw [HV.out] <;> rfl, N⟩
    · have HV : Hid (handB o = seenB o.dv o.sl) := hand_is h0 h1 h2 h3
      rw [h3] at HO
      clear h0 h1 h2 h3 m I
      go_enter Try.func23, Try.ntmps23
      go_wp2_with fail
      refine (HF.out _).mono ?_
      rintro e w1 ⟨rfl, rfl⟩
      go_wp2_with fail
      refine (HG.out _).mono ?_
      rintro e w1 ⟨rfl, rfl⟩
      go_wp2_with fail
      refine (HO.out _ IN.off).mono ?_
      rintro e w1 ⟨rfl, rfl⟩
      go_wp2_with fail
      refine (HS.out _ IN.seen).mono ?_
      rintro e w2 ⟨rfl, L2⟩
      have K2 := join_below N L2
      go_wp2
      go_ret
      exact ⟨by rw [HV.out] <;> rfl, K2⟩
  · have d2 : decide (o.ve < 0) = true := decide_eq_true (by omega)
    have HV : Hid (handB o = false) := hand_no2 h2
    rw [h0] at HF
    rw [h1] at HG
    clear h0 h1 h2 HO HS m I
    go_enter Try.func23, Try.ntmps23
    go_wp2_with fail
    refine (HF.out _).mono ?_
    rintro e w1 ⟨rfl, rfl⟩
    go_wp2_with fail
    refine (HG.out _).mono ?_
    rintro e w1 ⟨rfl, rfl⟩
    go_wp2
    go_ret
    exact ⟨by rw [HV.out] <;> rfl, N⟩

end Hn
end Go.Proofs.Ytlgolnddhfadeab

/- HandOk of the model. -/
import Derived.Test.YtlgolnddhfadeabHnOk
namespace Go.Proofs.Ytlgolnddhfadeab
namespace Hn
open Go.ChangeShapes Go.WideShapes Go.ChangeAt Go.RowKit
open Pk (new_below join_below cell_at heap_new frozen_at lt_of kept heap_old Drawn info_of Room)
set_option linter.unusedSimpArgs false
set_option linter.unusedVariables false

theorem seen_long {dv : Int} {l : List Ct} (h : ¬ l.length ≤ 300) : seenB dv l = false := by unfold seenB; rw [decide_eq_false h, Bool.false_and]
theorem seen_short {dv : Int} {l : List Ct} (h : l.length ≤ 300) : seenB dv l = seenF dv 0 l := by unfold seenB; rw [decide_eq_true h, Bool.true_and]

set_option maxRecDepth 100000 in
set_option maxHeartbeats 4000000 in
theorem specHand_val (x : Pl) (o : Hnd) (w : World) (hz : o.ol.length ≤ 1048576) (hz2 : o.sl.length ≤ 1048576) (I : In w x o) :
    Calls Try.prog 17 #[hnV x o] w fun e w' => e = .returned (.bool (handB o)) ∧ Below w.heap.size w w' := by
  have N := new_below w (hnB x o 32)
  have m := heap_new w (hnB x o 32)
  have IN := I.on N
  have HF : Hid (∀ W : World, _) := fun W => ins_val o.dv 1 9999 W
  have HG : Hid (∀ W : World, _) := fun W => ins_val o.is 0 9999 W
  have HO : Hid (∀ W : World, Ints W x.a o.ol → _) := fun W h => specOff_val x.a o.ol x.c W hz h
  cases h0 : inB o.dv 1 9999
  · have HV : Hid (handB o = false) := hand_no0 h0
    rw [h0] at HF
    clear h0 HG HO m I
    go_enter Try.func17, Try.ntmps17
    go_wp2_with fail
    refine (HF.out _).mono ?_
    rintro e w1 ⟨rfl, rfl⟩
    go_wp2
    go_ret
    exact ⟨by rw [HV.out] <;> rfl, N⟩
  cases h1 : inB o.is 0 9999
  · have HV : Hid (handB o = false) := hand_no1 h1
    rw [h0] at HF
    rw [h1] at HG
    clear h0 h1 HO m I
    go_enter Try.func17, Try.ntmps17
    go_wp2_with fail
    refine (HF.out _).mono ?_
    rintro e w1 ⟨rfl, rfl⟩
    go_wp2_with fail
    refine (HG.out _).mono ?_
    rintro e w1 ⟨rfl, rfl⟩
    go_wp2
    go_ret
    exact ⟨by rw [HV.out] <;> rfl, N⟩
  by_cases h2 : 0 ≤ o.ve
  · have d2 : decide (o.ve < 0) = false := decide_eq_false (by omega)
    rw [h0] at HF
    rw [h1] at HG
    cases h3 : offB o.ol
    · have HV : Hid (handB o = false) := hand_no3 h3
      rw [h3] at HO
      clear h0 h1 h2 h3 m I
      go_enter Try.func17, Try.ntmps17
      go_wp2_with fail
      refine (HF.out _).mono ?_
      rintro e w1 ⟨rfl, rfl⟩
      go_wp2_with fail
      refine (HG.out _).mono ?_
      rintro e w1 ⟨rfl, rfl⟩
      go_wp2_with fail
      refine (HO.out _ IN.off).mono ?_
      rintro e w1 ⟨rfl, D1⟩
      have K1 := join_below N (D1.below _)
      go_wp2
      go_ret
      exact ⟨by rw [HV.out] <;> rfl, K1⟩
    · have HV : Hid (handB o = seenB o.dv o.sl) := hand_is h0 h1 h2 h3
      rw [h3] at HO
      clear h0 h1 h2 h3
      by_cases h4 : o.sl.length ≤ 300
      · have d4 : decide ((300 : Int) < (o.sl.length : Int)) = false := decide_eq_false (by omega)
        have HW : Hid (handB o = seenF o.dv 0 o.sl) := HV.out.trans (seen_short h4)
        clear h4 HV
        go_enter Try.func17, Try.ntmps17
        go_wp2_with fail
        refine (HF.out _).mono ?_
        rintro e w1 ⟨rfl, rfl⟩
        go_wp2_with fail
        refine (HG.out _).mono ?_
        rintro e w1 ⟨rfl, rfl⟩
        go_wp2_with fail
        refine (HO.out _ IN.off).mono ?_
        rintro e w1 ⟨rfl, D1⟩
        have LW := D1.below (w.alloc (hnB x o 32)).heap.size
        have K1 := join_below N LW
        have m1 := kept LW (lt_of m) m
        have I1 := IN.seen.on LW
        have c8 : w1.cell? ⟨w.heap.size, 8, none⟩ = some (.slice x.b o.sl.length x.d) := cell_at m1 8
        clear D1 LW m N IN HO HF HG
        go_wp2
        go_loopw [3] (fun i wr => ∃ (k : Nat), k ≤ o.sl.length ∧ i = .int .i64 k ∧ Drawn w1 wr ∧ Hid (seenF o.dv k (o.sl.drop k) = seenF o.dv 0 o.sl)) (fun i _ => o.sl.length - (intOf i).toNat)
        case atStart => exact ⟨0, by omega, rfl, Drawn.refl _, rfl⟩
        case round =>
          obtain ⟨k, hk, rfl, hD, HP⟩ := hrel
          have LD := hD.below w1.heap.size
          have m2 := kept LD (lt_of m1) m1
          have r0 : wr.cell? ⟨w.heap.size, 0, none⟩ = some (.int .i64 o.dv) := cell_at m2 0
          have r8 : wr.cell? ⟨w.heap.size, 8, none⟩ = some (.slice x.b o.sl.length x.d) := cell_at m2 8
          have K2 := join_below K1 LD
          by_cases hkn : k < o.sl.length
          · obtain ⟨b, u, eb, hlt, hc0, hc1, hc2, hc3, hc4, hc5⟩ := (I1.on LD).at k hkn
            rw [eb] at r8
            have HS : Hid (_ = _) := (seen_step (dv := o.dv) hkn).symm.trans HP.out
            clear HP m2 LD
            generalize o.sl[k] = y at *
            generalize o.dv = dv at *
            by_cases h5 : y.dv = dv
            · have d5 : (y.dv != dv) = false := by simp [h5]
              by_cases h6 : y.no = (k : Int) + 1
              · have d6 : (y.no != (k : Int) + 1) = false := by simp [h6]
                have HN : Hid (seenF dv (k + 1) (o.sl.drop (k + 1)) = seenF dv 0 o.sl) := seen_yes HS.out h5 h6
                clear h5 h6 HS
                go_wp2
                go_quiet (fail)
                go_wp2
                go_roundw
                case rel => exact ⟨k + 1, by omega, by go_num, hD.more _, HN⟩
                case measure => simp [intOf]; omega
              · have d6 : (y.no != (k : Int) + 1) = true := by simp [h6]
                have HN : Hid (handB o = false) := HW.out.trans (seen_no HS.out fun h => h6 h.2)
                clear h5 h6 HS
                go_wp2
                go_quiet (fail)
                go_wp2
                go_ret
                exact ⟨by rw [HN.out] <;> rfl, join_below K1 ((hD.more _).below _)⟩
            · have d5 : (y.dv != dv) = true := by simp [h5]
              have HN : Hid (handB o = false) := HW.out.trans (seen_no HS.out fun h => h5 h.1)
              clear h5 HS
              go_wp2
              go_quiet (fail)
              go_wp2
              go_ret
              exact ⟨by rw [HN.out] <;> rfl, join_below K1 ((hD.more _).below _)⟩
          · obtain rfl : k = o.sl.length := by omega
            have HN : Hid (handB o = true) := HW.out.trans (HP.out.symm.trans (seen_end o.dv _ o.sl))
            go_wp2
            go_ret
            exact ⟨by rw [HN.out] <;> rfl, K2⟩
      · have d4 : decide ((300 : Int) < (o.sl.length : Int)) = true := decide_eq_true (by omega)
        have HW : Hid (handB o = false) := HV.out.trans (seen_long h4)
        have k8 : ∀ W : World, Drawn (w.alloc (hnB x o 32)) W → W.cell? ⟨w.heap.size, 8, none⟩ = some (.slice x.b o.sl.length x.d) := fun W D => cell_at (kept (D.below _) (lt_of m) m) 8
        clear h4 HV
        go_enter Try.func17, Try.ntmps17
        go_wp2_with fail
        refine (HF.out _).mono ?_
        rintro e w1 ⟨rfl, rfl⟩
        go_wp2_with fail
        refine (HG.out _).mono ?_
        rintro e w1 ⟨rfl, rfl⟩
        go_wp2_with fail
        refine (HO.out _ IN.off).mono ?_
        rintro e w1 ⟨rfl, D1⟩
        have c8 := k8 _ D1
        have K1 := join_below N (D1.below _)
        go_wp2
        go_ret
        exact ⟨by rw [HW.out] <;> rfl, K1⟩
  · have d2 : decide (o.ve < 0) = true := decide_eq_true (by omega)
    have HV : Hid (handB o = false) := hand_no2 h2
    rw [h0] at HF
    rw [h1] at HG
    clear h0 h1 h2 HO m I
    go_enter Try.func17, Try.ntmps17
    go_wp2_with fail
    refine (HF.out _).mono ?_
    rintro e w1 ⟨rfl, rfl⟩
    go_wp2_with fail
    refine (HG.out _).mono ?_
    rintro e w1 ⟨rfl, rfl⟩
    go_wp2
    go_ret
    exact ⟨by rw [HV.out] <;> rfl, N⟩

end Hn
end Go.Proofs.Ytlgolnddhfadeab

/- The contract of the model's TariffOk. -/
import Derived.Test.YtehmlnojjfeheaaGreatTfOk
namespace Go.Proofs.YtehmlnojjfeheaaGreat
namespace Tf
open Go.ChangeShapes Go.WideShapes Go.ChangeAt Go.RowKit
open Pk (new_below join_below cell_at heap_new frozen_at lt_of kept heap_old Drawn)
set_option linter.unusedSimpArgs false
set_option linter.unusedVariables false

set_option maxHeartbeats 4000000 in
set_option maxRecDepth 100000 in
theorem specTariff_val (a : Option Addr) (l : List Ed) (cap : Nat) (w : World) (hl : l.length ≤ maxLen) (I : Edges w a l) :
    Calls Tryz.prog 41 #[.slice a l.length cap] w fun e w' => e = .returned (.bool (tarB l)) ∧ Below w.heap.size w w' := by
  unfold maxLen at hl
  go_enter Tryz.func41, Tryz.ntmps41
  go_wp2
  go_loopw [3] (fun i wr => ∃ k : Nat, k ≤ l.length ∧ i = .int .i64 k ∧ Below w.heap.size w wr ∧ Hid (∀ i (hi : i < l.length), i < k → edB l[i] = true)) (fun i _ => l.length - (intOf i).toNat)
  case atStart => exact ⟨0, by omega, rfl, Below.refl _ _, fun i _ h => by omega⟩
  case round =>
    obtain ⟨k, hk, rfl, L, H⟩ := hrel
    by_cases hkn : k < l.length
    · obtain ⟨b, o, rfl, hlt, c0, c1, c2⟩ := (I.on L).at k hkn
      have N := join_below L (new_below wr (edO l[k] 94))
      have HE : Hid (edB l[k] = false → tarB l = false) := by
        intro e
        unfold tarB
        have : l.all edB = false := List.all_eq_false.2 ⟨l[k], List.getElem_mem hkn, by simp [e]⟩
        rw [this]
        simp
      have HG : Hid (edB l[k] = true → Hid (∀ i (hi : i < l.length), i < k + 1 → edB l[i] = true)) := by
        intro e i hi hik
        by_cases h : i = k
        · subst h; exact e
        · exact H.out i hi (by omega)
      clear H
      generalize l[k] = p at *
      obtain ⟨ea, eb, co⟩ := p
      have HB : Hid (edB ⟨ea, eb, co⟩ = (inB ea 1 9999 && (inB eb 1 9999 && (!(ea == eb) && inB co 0 1000000)))) := rfl
      have H1 : Hid (∀ w, _) := fun w => station_val ea w
      have H2 : Hid (∀ w, _) := fun w => station_val eb w
      have H3 : Hid (∀ w, _) := fun w => in_val co 0 1000000 w
      dsimp only at *
      generalize inB ea 1 9999 = b1 at *
      generalize inB eb 1 9999 = b2 at *
      generalize inB co 0 1000000 = b3 at *
      go_wp2_with fail
      refine (H1.out _).mono ?_
      rintro e w1 ⟨rfl, rfl⟩
      cases b1
      · go_wp2
        go_ret
        exact ⟨by rw [HE.out HB.out] <;> rfl, N⟩
      go_wp2_with fail
      refine (H2.out _).mono ?_
      rintro e w2 ⟨rfl, rfl⟩
      cases b2
      · go_wp2
        go_ret
        exact ⟨by rw [HE.out HB.out] <;> rfl, N⟩
      by_cases he : ea = eb
      · have e2 : (ea == eb) = true := beq_iff_eq.2 he
        rw [e2] at HB
        clear he
        go_wp2
        go_ret
        exact ⟨by rw [HE.out HB.out] <;> rfl, N⟩
      have e2 : (ea == eb) = false := beq_eq_false_iff_ne.2 he
      rw [e2] at HB
      clear he
      go_wp2_with fail
      refine (H3.out _).mono ?_
      rintro e w3 ⟨rfl, rfl⟩
      cases b3
      · go_wp2
        go_ret
        exact ⟨by rw [HE.out HB.out] <;> rfl, N⟩
      · go_wp2
        go_roundw
        case rel => exact ⟨k + 1, by omega, by go_num, N, HG.out HB.out⟩
        case measure => simp [intOf]; omega
    · have HA : Hid (tarB l = decide (l.length ≤ 200)) := by
        show _ = _
        have : l.all edB = true := by
          rw [List.all_eq_true]
          intro x hx
          obtain ⟨i, hi, rfl⟩ := List.getElem_of_mem hx
          exact H.out i hi (by omega)
        unfold tarB
        rw [this]
        simp
      clear H
      by_cases hb : l.length ≤ 200
      · have hb1 : decide ((l.length : Int) ≤ 200) = true := decide_eq_true (by omega)
        go_wp2
        go_ret
        exact ⟨by rw [HA.out, decide_eq_true hb] <;> rfl, L⟩
      · have hb1 : decide ((l.length : Int) ≤ 200) = false := decide_eq_false (by omega)
        go_wp2
        go_ret
        exact ⟨by rw [HA.out, decide_eq_false hb] <;> rfl, L⟩

end Tf
end Go.Proofs.YtehmlnojjfeheaaGreat

/- Contracts of TariffOk and of what it calls, of the program and of its model. -/
import Derived.Test.YtehmlnojjfeheaaGreatMathTf
namespace Go.Proofs.YtehmlnojjfeheaaGreat
namespace Tf
open Go.ChangeShapes Go.WideShapes Go.ChangeAt Go.RowKit
open Pk (new_below join_below cell_at heap_new frozen_at lt_of kept heap_old)
set_option linter.unusedSimpArgs false
set_option linter.unusedVariables false

abbrev edO (p : Ed) (ty : TypeId) : Obj := .cells #[.int .i64 p.ea, .int .i64 p.eb, .int .i64 p.co] ty

theorem between_val (x a b : Int) (w : World) :
    Calls Tryz.prog 85 #[.int .i64 x, .int .i64 a, .int .i64 b] w fun e w' => e = .returned (.bool (inB x a b)) ∧ w' = w := by
  by_cases h1 : a ≤ x <;> by_cases h2 : x ≤ b
  all_goals
    go_enter Tryz.func85, Tryz.ntmps85
    go_wp2
    go_ret
    exact ⟨by simp [inB, h1, h2], rfl⟩

theorem in_val (x a b : Int) (w : World) :
    Calls Tryz.prog 43 #[.int .i64 x, .int .i64 a, .int .i64 b] w fun e w' => e = .returned (.bool (inB x a b)) ∧ w' = w := by
  by_cases h1 : a ≤ x <;> by_cases h2 : x ≤ b
  all_goals
    go_enter Tryz.func43, Tryz.ntmps43
    go_wp2
    go_ret
    exact ⟨by simp [inB, h1, h2], rfl⟩

theorem stationOk_val (x : Int) (w : World) :
    Calls Tryz.prog 99 #[.int .i64 x] w fun e w' => e = .returned (.bool (inB x 1 9999)) ∧ w' = w := by
  go_enter Tryz.func99, Tryz.ntmps99
  go_wp2_with fail
  refine (between_val x 1 9999 w).mono ?_
  rintro e w1 ⟨rfl, rfl⟩
  go_wp2
  go_ret
  exact ⟨rfl, rfl⟩

theorem station_val (x : Int) (w : World) :
    Calls Tryz.prog 74 #[.int .i64 x] w fun e w' => e = .returned (.bool (inB x 1 9999)) ∧ w' = w := by
  go_enter Tryz.func74, Tryz.ntmps74
  go_wp2_with fail
  refine (in_val x 1 9999 w).mono ?_
  rintro e w1 ⟨rfl, rfl⟩
  go_wp2
  go_ret
  exact ⟨rfl, rfl⟩

theorem edgeOk_val (p : Ed) (w : World) :
    Calls Tryz.prog 81 #[lgV p] w fun e w' => e = .returned (.bool (edB p)) ∧ Below w.heap.size w w' := by
  obtain ⟨ea, eb, co⟩ := p
  unfold edB
  dsimp only
  have H1 : Hid (∀ w, _) := fun w => stationOk_val ea w
  have H2 : Hid (∀ w, _) := fun w => stationOk_val eb w
  have H3 : Hid (∀ w, _) := fun w => between_val co 0 1000000 w
  generalize inB ea 1 9999 = b1 at *
  generalize inB eb 1 9999 = b2 at *
  generalize inB co 0 1000000 = b3 at *
  have N := new_below w (edO ⟨ea, eb, co⟩ 94)
  go_enter Tryz.func81, Tryz.ntmps81
  go_wp2_with fail
  refine (H1.out _).mono ?_
  rintro e w1 ⟨rfl, rfl⟩
  cases b1
  · go_wp2
    go_ret
    exact ⟨rfl, N⟩
  go_wp2_with fail
  refine (H2.out _).mono ?_
  rintro e w1 ⟨rfl, rfl⟩
  cases b2
  · go_wp2
    go_ret
    exact ⟨rfl, N⟩
  by_cases he : ea = eb
  · have e2 : (ea == eb) = true := beq_iff_eq.2 he
    subst he
    go_wp2
    go_ret
    exact ⟨by simp, N⟩
  have e2 : (ea == eb) = false := beq_eq_false_iff_ne.2 he
  have e3 : (ea != eb) = true := by simp [bne, e2]
  clear he
  go_wp2_with fail
  refine (H3.out _).mono ?_
  rintro e w1 ⟨rfl, rfl⟩
  go_wp2
  go_ret
  exact ⟨by rw [e2]; rfl, N⟩

set_option maxHeartbeats 1000000 in
theorem implTariff_val (a : Option Addr) (l : List Ed) (cap : Nat) (w : World) (hl : l.length ≤ maxLen) (I : Edges w a l) :
    Calls Tryz.prog 51 #[.slice a l.length cap] w fun e w' => e = .returned (.bool (tarB l)) ∧ Below w.heap.size w w' := by
  unfold maxLen at hl
  by_cases hb : l.length ≤ 200
  · have HT : Hid (tarB l = l.all edB) := by show _ = _; unfold tarB; simp [hb]
    have hb1 : decide (200 < (l.length : Int)) = false := decide_eq_false (by omega)
    go_enter Tryz.func51, Tryz.ntmps51
    go_wp2
    go_loopw [10] (fun i wr => ∃ k : Nat, k ≤ l.length ∧ i = .int .i64 k ∧ Below w.heap.size w wr ∧ Hid (∀ i (hi : i < l.length), i < k → edB l[i] = true)) (fun i _ => l.length - (intOf i).toNat)
    case atStart => exact ⟨0, by omega, rfl, Below.refl _ _, fun i _ h => by omega⟩
    case round =>
      obtain ⟨k, hk, rfl, L, H⟩ := hrel
      by_cases hkn : k < l.length
      · obtain ⟨b, o, rfl, hlt, c0, c1, c2⟩ := (I.on L).at k hkn
        have HC : Hid (∀ w, _) := fun w => edgeOk_val l[k] w
        by_cases e : edB l[k] = true
        · have HE : Hid (∀ i (hi : i < l.length), i < k + 1 → edB l[i] = true) := by
            intro i hi hik
            by_cases h : i = k
            · subst h; exact e
            · exact H.out i hi (by omega)
          rw [e] at HC
          clear e H
          go_wp2_with fail
          refine (HC.out _).mono ?_
          rintro e w1 ⟨rfl, L1⟩
          have L2 := join_below (join_below L (new_below wr (edO l[k] 94))) L1
          go_wp2
          go_roundw
          case rel => exact ⟨k + 1, by omega, by go_num, L2, HE⟩
          case measure => simp [intOf]; omega
        · have e' : edB l[k] = false := by simpa using e
          have HE : Hid (tarB l = false) := by
            show _ = _
            rw [HT.out, List.all_eq_false]
            exact ⟨l[k], List.getElem_mem hkn, by simp [e']⟩
          rw [e'] at HC
          clear e e' H
          go_wp2_with fail
          refine (HC.out _).mono ?_
          rintro e w1 ⟨rfl, L1⟩
          have L2 := join_below (join_below L (new_below wr (edO l[k] 94))) L1
          go_wp2
          go_ret
          exact ⟨by rw [HE.out] <;> rfl, L2⟩
      · have HE : Hid (tarB l = true) := by
          show _ = _
          rw [HT.out, List.all_eq_true]
          intro x hx
          obtain ⟨i, hi, rfl⟩ := List.getElem_of_mem hx
          exact H.out i hi (by omega)
        clear H
        go_wp2
        go_ret
        exact ⟨by rw [HE.out] <;> rfl, L⟩
  · have HT : Hid (tarB l = false) := by show _ = _; unfold tarB; simp; omega
    have hb1 : decide ((200 : Int) < (l.length : Int)) = true := decide_eq_true (by omega)
    clear hb
    go_enter Tryz.func51, Tryz.ntmps51
    go_wp2
    go_ret
    exact ⟨by rw [HT.out] <;> rfl, Below.refl _ _⟩

end Tf
end Go.Proofs.YtehmlnojjfeheaaGreat

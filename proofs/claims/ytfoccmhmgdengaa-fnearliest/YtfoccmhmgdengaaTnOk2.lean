/- Contracts of TrainOk, of the program and of its model. -/
import Derived.Test.YtfoccmhmgdengaaTnOk
namespace Go.Proofs.Ytfoccmhmgdengaa
namespace Tn
open Go.ChangeShapes Go.WideShapes Go.ChangeAt Go.RowKit
open Pk (new_below join_below cell_at heap_new frozen_at lt_of kept heap_old)
set_option linter.unusedSimpArgs false
set_option linter.unusedVariables false

theorem stepB_at (l : List St) (k : Nat) (h : k < l.length) : stepB l k = (stB l[k] && decide (idx l l[k].st 0 = k) && gapB l k) := by
  unfold stepB
  rw [getD_at l k h]

theorem gapB_0 (l : List St) : gapB l 0 = true := rfl

theorem gapB_pos (l : List St) (k j : Nat) (h : k < l.length) (hj : k = j + 1) : gapB l k = decide ((l[j]'(by omega)).dp < l[k].ar) := by
  subst hj
  unfold gapB
  rw [getD_at l (j + 1) h, show j + 1 - 1 = j from rfl, getD_at l j (by omega), decide_eq_false (by omega), Bool.false_or]

set_option maxHeartbeats 4000000 in
theorem stopsOk_val (t : Hd) (a : Option Addr) (l : List St) (cap : Nat) (w : World) (hl : l.length ≤ maxLen) (I : Stops w a l) :
    Calls Try.prog 60 #[trV t a l.length cap] w fun e w' => e = .returned (.bool (stopsB l)) ∧ Below w.heap.size w w' := by
  have HL : Hid (l.length ≤ maxLen) := hl
  unfold maxLen at hl
  have HB : Hid (∀ w, _) := fun w => between_val (l.length : Int) 2 20 w
  have N := new_below w (trB t a l.length cap 33)
  have m0 := heap_new w (trB t a l.length cap 33)
  have I0 := I.on N
  by_cases hb : inB (l.length : Int) 2 20 = true
  · have hR : stopsB l = stepsFrom l 0 := by unfold stopsB; rw [hb, Bool.true_and]
    rw [hR]
    rw [hb] at HB
    clear hR hb
    have c4 : (w.alloc (trB t a l.length cap 33)).cell? ⟨w.heap.size, 4, none⟩ = some (.slice a l.length cap) := cell_at m0 4
    go_enter Try.func60, Try.ntmps60
    go_wp2_with fail
    refine (HB.out _).mono ?_
    rintro e w1 ⟨rfl, rfl⟩
    clear HB
    go_wp2
    clear c4
    generalize w.alloc (trB t a l.length cap 33) = W at *
    go_loopw [13] (fun i wr => ∃ k : Nat, k ≤ l.length ∧ i = .int .i64 k ∧ Below W.heap.size W wr ∧ Hid (stepsFrom l 0 = stepsFrom l k)) (fun i _ => l.length - (intOf i).toNat)
    case atStart => exact ⟨0, by omega, rfl, Below.refl _ _, rfl⟩
    case round =>
      obtain ⟨k, hk, rfl, L, H⟩ := hrel
      by_cases hkn : k < l.length
      · obtain ⟨b, o, rfl, hlt, c0, c1, c2⟩ := (I0.on L).at k hkn
        have HS : Hid (_) := (stepsFrom_step l k hkn)
        have HT : Hid (_) := stepB_at l k hkn
        have m := kept L (lt_of m0) m0
        have NB := new_below wr (.cells #[.int .i64 l[k].st, .int .i64 l[k].ar, .int .i64 l[k].dp] 42)
        have x := heap_new wr (.cells #[.int .i64 l[k].st, .int .i64 l[k].ar, .int .i64 l[k].dp] 42)
        have m1 := kept NB (lt_of m) m
        have L1 := join_below L NB
        have HK : Hid (∀ w, _) := fun w => stopOk_val l[k] w
        have HA : Hid (∀ w, _ → _) := fun w h => stopAt_val t l[k].st (some ⟨b, o, none⟩) l cap w HL.out h
        have hp : ∀ j : Nat, k = j + 1 → ∃ hj : j < l.length, gapB l k = decide (l[j].dp < l[k].ar) := fun j e => ⟨by omega, gapB_pos l k j hkn e⟩
        have HP : Hid (_) := hp
        clear hp
        generalize stB l[k] = bs at *
        generalize hx : idx l l[k].st 0 = ix at *
        generalize l[k] = s at *
        clear hx
        go_wp2_with fail
        refine (HK.out _).mono ?_
        rintro e w1 ⟨rfl, L2⟩
        have m2 := kept L2 (lt_of m1) m1
        have x2 := kept L2 (lt_of x) x
        have L3 := join_below L1 L2
        clear m m1 x NB L L1 L2 c0 c1 c2
        cases bs
        · have HE : Hid (stepsFrom l 0 = false) := by show _ = _; rw [H.out, HS.out, HT.out]; rfl
          go_wp2
          go_ret
          exact ⟨by rw [HE.out] <;> rfl, join_below N L3⟩
        have c0 : w1.cell? ⟨w.heap.size, 0, none⟩ = some (.int .i64 t.id) := cell_at m2 0
        have c1 : w1.cell? ⟨w.heap.size, 1, none⟩ = some (.int .i64 t.dy) := cell_at m2 1
        have c2 : w1.cell? ⟨w.heap.size, 2, none⟩ = some (.int .i64 t.co) := cell_at m2 2
        have c3 : w1.cell? ⟨w.heap.size, 3, none⟩ = some (.int .i64 t.se) := cell_at m2 3
        have c4 : w1.cell? ⟨w.heap.size, 4, none⟩ = some (.slice (some ⟨b, o, none⟩) l.length cap) := cell_at m2 4
        have d0 : w1.cell? ⟨wr.heap.size, 0, none⟩ = some (.int .i64 s.st) := cell_at x2 0
        go_wp2_with fail
        refine (HA.out _ (I0.on L3)).mono ?_
        rintro e w2 ⟨rfl, L4⟩
        have m3 := kept L4 (lt_of m2) m2
        have x3 := kept L4 (lt_of x2) x2
        have L5 := join_below L3 L4
        clear m2 x2 L3 L4 c0 c1 c2 c3 c4 d0 HK HA
        by_cases e : ix = (k : Int)
        · have e1 : (ix != (k : Int)) = false := by rw [e]; simp
          rw [decide_eq_true e] at HT
          clear e
          have c4 : w2.cell? ⟨w.heap.size, 4, none⟩ = some (.slice (some ⟨b, o, none⟩) l.length cap) := cell_at m3 4
          have d1 : w2.cell? ⟨wr.heap.size, 1, none⟩ = some (.int .i64 s.ar) := cell_at x3 1
          by_cases h0 : k = 0
          · subst h0
            have HE : Hid (stepsFrom l 0 = stepsFrom l 1) := by show _ = _; rw [HS.out, HT.out]; rfl
            have hd : decide ((0 : Int) < ((0 : Nat) : Int)) = false := rfl
            go_wp2
            go_quiet (fail)
            go_wp2
            go_roundw
            case rel => exact ⟨1, by omega, rfl, L5.trans (Pk.Drawn.below _ ⟨_, rfl⟩), HE⟩
            case measure => simp [intOf]; omega
          · obtain ⟨j, hj⟩ : ∃ j, k = j + 1 := ⟨k - 1, by omega⟩
            obtain ⟨hjl, hgap⟩ := HP.out j hj
            obtain ⟨b', o', he, hlt', -, -, q2⟩ := (I0.on L5).at j hjl
            simp only [Option.some.injEq, Addr.mk.injEq, and_true] at he
            obtain ⟨rfl, rfl⟩ := he
            have hd : decide ((0 : Int) < (k : Int)) = true := decide_eq_true (by omega)
            have hd2 : decide (0 < k) = true := decide_eq_true (by omega)
            have hji : (k : Int) - 1 = (j : Int) := by omega
            generalize l[j] = u at *
            by_cases hu : u.dp < s.ar
            · have hu2 : decide (s.ar ≤ u.dp) = false := decide_eq_false (by omega)
              rw [decide_eq_true hu] at hgap
              have HE : Hid (stepsFrom l 0 = stepsFrom l (k + 1)) := by show _ = _; rw [H.out, HS.out, HT.out, hgap]; rfl
              have HJ : Hid (_) := hj
              clear hgap hj h0 H HS HT HP m3 x3 m0
              go_wp2
              go_quiet (fail)
              go_wp2
              go_roundw
              case rel => exact ⟨k + 1, by omega, by go_num, L5.trans (Pk.Drawn.below _ ⟨_, rfl⟩), HE⟩
              case measure => simp [intOf]; omega
            · have hu2 : decide (s.ar ≤ u.dp) = true := decide_eq_true (by omega)
              rw [decide_eq_false hu] at hgap
              have HE : Hid (stepsFrom l 0 = false) := by show _ = _; rw [H.out, HS.out, HT.out, hgap]; rfl
              have HJ : Hid (_) := hj
              clear hgap hj h0 H HS HT HP m3 x3 m0
              go_wp2
              go_quiet (fail)
              go_wp2
              go_ret
              exact ⟨by rw [HE.out] <;> rfl, join_below N (L5.trans (Pk.Drawn.below _ ⟨_, rfl⟩))⟩
        · have e1 : (ix != (k : Int)) = true := bne_iff_ne.2 e
          rw [decide_eq_false e] at HT
          have HE : Hid (stepsFrom l 0 = false) := by show _ = _; rw [H.out, HS.out, HT.out]; rfl
          clear e
          go_wp2
          go_ret
          exact ⟨by rw [HE.out] <;> rfl, join_below N L5⟩
      · have HE : Hid (stepsFrom l 0 = true) := by show _ = _; rw [H.out, stepsFrom_end l k hkn]
        go_wp2
        go_ret
        exact ⟨by rw [HE.out] <;> rfl, join_below N L⟩
  · have hb : inB (l.length : Int) 2 20 = false := by simpa using hb
    have hR : stopsB l = false := by unfold stopsB; rw [hb]; rfl
    rw [hR]
    rw [hb] at HB
    have c4 : (w.alloc (trB t a l.length cap 33)).cell? ⟨w.heap.size, 4, none⟩ = some (.slice a l.length cap) := cell_at m0 4
    go_enter Try.func60, Try.ntmps60
    go_wp2_with fail
    refine (HB.out _).mono ?_
    rintro e w1 ⟨rfl, rfl⟩
    go_wp2
    go_ret
    exact ⟨rfl, N⟩

theorem implOk_val (t : Hd) (a : Option Addr) (l : List St) (cap : Nat) (w : World) (hl : l.length ≤ maxLen) (I : Stops w a l) :
    Calls Try.prog 35 #[trV t a l.length cap] w fun e w' => e = .returned (.bool (okB t l)) ∧ Below w.heap.size w w' := by
  have N := new_below w (trB t a l.length cap 33)
  have m0 := heap_new w (trB t a l.length cap 33)
  have HS : Hid (∀ w, _ → _) := fun w h => stopsOk_val t a l cap w hl h
  have HH : Hid (∀ w, _) := fun w => headOk_val t a l.length cap w
  unfold okB
  generalize headB t = b1 at *
  generalize stopsB l = b2 at *
  go_enter Try.func35, Try.ntmps35
  go_wp2_with fail
  refine (HH.out _).mono ?_
  rintro e w1 ⟨rfl, L1⟩
  have m1 := kept L1 (lt_of m0) m0
  have L2 := join_below N L1
  cases b1
  · go_wp2
    go_ret
    exact ⟨rfl, L2⟩
  have c0 : w1.cell? ⟨w.heap.size, 0, none⟩ = some (.int .i64 t.id) := cell_at m1 0
  have c1 : w1.cell? ⟨w.heap.size, 1, none⟩ = some (.int .i64 t.dy) := cell_at m1 1
  have c2 : w1.cell? ⟨w.heap.size, 2, none⟩ = some (.int .i64 t.co) := cell_at m1 2
  have c3 : w1.cell? ⟨w.heap.size, 3, none⟩ = some (.int .i64 t.se) := cell_at m1 3
  have c4 : w1.cell? ⟨w.heap.size, 4, none⟩ = some (.slice a l.length cap) := cell_at m1 4
  go_wp2_with fail
  refine (HS.out _ (I.on L2)).mono ?_
  rintro e w2 ⟨rfl, L3⟩
  go_wp2
  go_ret
  exact ⟨rfl, join_below L2 L3⟩

end Tn
end Go.Proofs.Ytfoccmhmgdengaa

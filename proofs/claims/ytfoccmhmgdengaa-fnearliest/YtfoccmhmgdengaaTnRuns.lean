/- Contracts of Runs, of the program and of its model. -/
import Derived.Test.YtfoccmhmgdengaaTnSpec
import Derived.Test.YtfoccmhmgdengaaMathBit
namespace Go.Proofs.Ytfoccmhmgdengaa
namespace Tn
open Go.ChangeShapes Go.WideShapes Go.ChangeAt Go.RowKit
open Pk (new_below join_below cell_at heap_new frozen_at lt_of kept heap_old ret_int)
set_option linter.unusedSimpArgs false
set_option linter.unusedVariables false

/-- A power of two. -/
def p2 (n : Nat) : Nat := 2 ^ n

theorem p2_succ (n : Nat) : p2 (n + 1) = 2 * p2 n := by unfold p2; rw [Nat.pow_succ, Nat.mul_comm]

theorem p2_bd (n : Nat) (h : n ≤ 40) : p2 n ≤ 1099511627776 := Nat.pow_le_pow_right (by omega) h

theorem pow2_val (n : Nat) (w : World) (hn : n ≤ 40) :
    Calls Try.prog 42 #[.int .i64 n] w fun e w' => e = .returned (.int .i64 (p2 n)) ∧ w' = w := by
  go_enter Try.func42, Try.ntmps42
  go_wp2
  go_loop [3, 4] (fun x i => ∃ (k y : Nat), k ≤ n ∧ y ≤ 1099511627776 ∧ x = .int .i64 y ∧ i = .int .i64 k ∧ Hid (y = p2 k)) (fun _ i => n - (intOf i).toNat)
  case atStart => exact ⟨0, 1, by omega, by omega, rfl, rfl, rfl⟩
  case round =>
    obtain ⟨k, y, hk, hy, rfl, rfl, H⟩ := hrel
    by_cases hlt : k < n
    · have HN : Hid (2 * y = p2 (k + 1)) := by show _ = _; rw [p2_succ, H.out]
      have hy2 : 2 * y ≤ 1099511627776 := by
        rw [HN.out]
        exact p2_bd _ (by omega)
      go_wp2
      go_round
      case rel => exact ⟨k + 1, 2 * y, by omega, by omega, by go_num, by go_num, HN⟩
      case measure => simp [intOf]; omega
    · obtain rfl : k = n := by omega
      go_wp2
      go_ret
      exact ⟨ret_int (by rw [← H.out]), rfl⟩

/-- The bit of a day. -/
def dayBit (dy day : Int) : Nat := dy.toNat / 2 ^ (day % 7).toNat % 2

def runsB (t : Hd) (l : List St) (day : Int) : Bool := okB t l && (inB day 0 99999 && ((dayBit t.dy day : Int) == 1))

theorem ok_days {t : Hd} {l : List St} (h : okB t l = true) : 1 ≤ t.dy ∧ t.dy ≤ 127 := by
  unfold okB headB at h
  simp only [Bool.and_eq_true] at h
  exact inB_yes h.1.1.2

theorem bit_day (d r : Nat) (hn : d ≤ 127) : bits BinOp.and IntKind.i64 ((d : Int) / 2 ^ r) 1 = ((d / 2 ^ r % 2 : Nat) : Int) := by
  have e : (d : Int) / 2 ^ r = ((d / 2 ^ r : Nat) : Int) := by simp
  rw [e]
  exact Math.and_one_i64 _ (Nat.lt_of_le_of_lt (Nat.div_le_self _ _) (by omega))

set_option maxHeartbeats 1000000 in
theorem implRuns_val (t : Hd) (day : Int) (a : Option Addr) (l : List St) (cap : Nat) (w : World) (hl : l.length ≤ maxLen) (I : Stops w a l) :
    Calls Try.prog 50 #[trV t a l.length cap, .int .i64 day] w fun e w' => e = .returned (.bool (runsB t l day)) ∧ Below w.heap.size w w' := by
  have N := new_below w (trB t a l.length cap 33)
  have m0 := heap_new w (trB t a l.length cap 33)
  have HK : Hid (∀ w, _ → _) := fun w h => implOk_val t a l cap w hl h
  have HI : Hid (∀ w, _) := fun w => between_val day 0 99999 w
  have HB : Hid (okB t l = true → 1 ≤ t.dy ∧ t.dy ≤ 127) := ok_days
  have HD : Hid (inB day 0 99999 = true → 0 ≤ day ∧ day ≤ 99999) := inB_yes
  unfold runsB
  generalize okB t l = b1 at *
  generalize inB day 0 99999 = b2 at *
  have I0 := I.on N
  go_enter Try.func50, Try.ntmps50
  go_wp2_with fail
  refine (HK.out _ I0).mono ?_
  rintro e w1 ⟨rfl, L1⟩
  have m1 := kept L1 (lt_of m0) m0
  have L2 := join_below N L1
  have c1 : w1.cell? ⟨w.heap.size, 1, none⟩ = some (.int .i64 t.dy) := cell_at m1 1
  cases b1
  · go_wp2
    go_ret
    exact ⟨rfl, L2⟩
  go_wp2_with fail
  refine (HI.out _).mono ?_
  rintro e w2 ⟨rfl, rfl⟩
  cases b2
  · go_wp2
    go_ret
    exact ⟨rfl, L2⟩
  obtain ⟨hd1, hd2⟩ := HB.out (by simp)
  obtain ⟨hn1, hn2⟩ := HD.out (by simp)
  obtain ⟨d, hd⟩ : ∃ d : Nat, t.dy = d := ⟨t.dy.toNat, by omega⟩
  obtain ⟨n, rfl⟩ : ∃ n : Nat, day = n := ⟨day.toNat, by omega⟩
  obtain ⟨r, hr⟩ : ∃ r, n % 7 = r := ⟨_, rfl⟩
  have hr1 : r ≤ 6 := by omega
  have hr2 : (n : Int) % 7 = (r : Int) := by omega
  have hr3 : Int.tmod (n : Int) 7 = (r : Int) := by rw [Int.tmod_eq_emod_of_nonneg (by omega)]; exact hr2
  have HQ : Hid (dayBit t.dy n = d / 2 ^ r % 2) := by
    show _ = _
    unfold dayBit
    rw [hd, hr2]
    rfl
  rw [hd] at c1 hd1 hd2
  have hb := bit_day d r (by omega)
  generalize hq : d / 2 ^ r % 2 = q at *
  clear hq hr hd m1 HB HD HK HI
  go_wp2
  go_ret
  exact ⟨by rw [HQ.out]; simp, L2⟩

set_option maxHeartbeats 1000000 in
theorem specRuns_val (t : Hd) (day : Int) (a : Option Addr) (l : List St) (cap : Nat) (w : World) (hl : l.length ≤ maxLen) (I : Stops w a l) :
    Calls Try.prog 15 #[trV t a l.length cap, .int .i64 day] w fun e w' => e = .returned (.bool (runsB t l day)) ∧ Below w.heap.size w w' := by
  have N := new_below w (trB t a l.length cap 33)
  have m0 := heap_new w (trB t a l.length cap 33)
  have HK : Hid (∀ w, _ → _) := fun w h => specOk_val t a l cap w hl h
  have HI : Hid (∀ w, _) := fun w => in_val day 0 99999 w
  have HB : Hid (okB t l = true → 1 ≤ t.dy ∧ t.dy ≤ 127) := ok_days
  have HD : Hid (inB day 0 99999 = true → 0 ≤ day ∧ day ≤ 99999) := inB_yes
  unfold runsB
  generalize okB t l = b1 at *
  generalize inB day 0 99999 = b2 at *
  have I0 := I.on N
  cases b1
  · go_enter Try.func15, Try.ntmps15
    go_wp2
    first
      | go_region_with (go_at_call 40; refine (HK.out _ ?_).mono ?_; (first | exact I0 | exact I0.on ((Below.refl _ _).drew)); rintro e w1 ⟨rfl, L1⟩)
      | fail
    all_goals
      go_wp2
      go_ret
      exact ⟨rfl, N.trans ((show Below _ _ w1 from (by first | exact L1 | exact ((Below.refl _ _).drew).trans L1)).mono N.size)⟩
  cases b2
  · go_enter Try.func15, Try.ntmps15
    go_wp2
    first
      | go_region_with (first
          | (go_at_call 40; refine (HK.out _ ?_).mono ?_; (first | exact I0 | exact I0.on ((Below.refl _ _).drew)); rintro e w1 ⟨rfl, L1⟩)
          | (go_at_call 33; (with_reducible refine (HI.out _).mono ?_); rintro e w2 ⟨rfl, rfl⟩))
      | fail
    all_goals
      go_wp2
      go_ret
      exact ⟨rfl, N.trans ((show Below _ _ w2 from (by first | exact L1 | exact ((Below.refl _ _).drew).trans L1)).mono N.size)⟩
  · obtain ⟨hd1, hd2⟩ := HB.out rfl
    obtain ⟨hn1, hn2⟩ := HD.out rfl
    obtain ⟨d, hd⟩ : ∃ d : Nat, t.dy = d := ⟨t.dy.toNat, by omega⟩
    obtain ⟨n, rfl⟩ : ∃ n : Nat, day = n := ⟨day.toNat, by omega⟩
    obtain ⟨r, hr⟩ : ∃ r, n % 7 = r := ⟨_, rfl⟩
    have hr1 : r ≤ 6 := by omega
    have hr2 : (n : Int) % 7 = (r : Int) := by omega
    have hr3 : Int.tmod (n : Int) 7 = (r : Int) := by rw [Int.tmod_eq_emod_of_nonneg (by omega)]; exact hr2
    have HQ : Hid (dayBit t.dy n = d / 2 ^ r % 2) := by
      show _ = _
      unfold dayBit
      rw [hd, hr2]
      rfl
    have HP : Hid (∀ w, _) := fun w => pow2_val r w (by omega)
    have hp1 : 1 ≤ p2 r := Nat.one_le_two_pow
    have hp2 := p2_bd r (by omega)
    have hq0 : (d : Int) / (p2 r : Int) = ((d / 2 ^ r : Nat) : Int) := by unfold p2; simp
    have hz : d / 2 ^ r ≤ d := Nat.div_le_self _ _
    generalize d / 2 ^ r = z at *
    generalize p2 r = Q at *
    have hq1 : Int.tdiv (d : Int) (Q : Int) = (z : Int) := by rw [Int.tdiv_eq_ediv_of_nonneg (by omega)]; exact hq0
    have hq2 : (z : Int) % 2 = ((z % 2 : Nat) : Int) := by omega
    have hq3 : Int.tmod (z : Int) 2 = ((z % 2 : Nat) : Int) := by rw [Int.tmod_eq_emod_of_nonneg (by omega)]; exact hq2
    generalize z % 2 = q at *
    have hQ0 : (Q : Int) ≠ 0 := by omega
    have hQ1 : ((Q : Int) == 0) = false := beq_eq_false_iff_ne.2 hQ0
    have hQ2 : Q ≠ 0 := by omega
    have hQ3 : (Q == 0) = false := beq_eq_false_iff_ne.2 hQ2
    have hd9 : d ≤ 127 := by omega
    have hz9 : z ≤ 127 := by omega
    have hw9 : IntKind.i64.wrap (z : Int) = (z : Int) := by rw [IntKind.wrap_i64]; omega
    clear hr HB HD
    obtain ⟨id, dy, co, se⟩ := t
    dsimp only at hd HQ hd1 hd2
    subst hd
    go_enter Try.func15, Try.ntmps15
    go_wp2
    first
      | go_region_with (first
          | (go_at_call 40; refine (HK.out _ ?_).mono ?_; (first | exact I0 | exact I0.on ((Below.refl _ _).drew)); rintro e w1 ⟨rfl, L1⟩; have L2 : Below _ _ w1 := (by first | exact L1 | exact ((Below.refl _ _).drew).trans L1); have m1 := kept L2 (lt_of m0) m0; have c1 : w1.cell? ⟨w.heap.size, 1, none⟩ = some (.int .i64 d) := cell_at m1 1)
          | (go_at_call 33; (with_reducible refine (HI.out _).mono ?_); rintro e w2 ⟨rfl, rfl⟩)
          | (go_at_call 42; (with_reducible refine (HP.out _).mono ?_); rintro e w3 ⟨rfl, rfl⟩))
      | fail
    all_goals
      go_wp2
      go_ret
      exact ⟨by rw [HQ.out] <;> rfl, (by first | exact N.trans (L2.mono N.size) | exact N.drew.trans (L2.mono N.size))⟩

end Tn
end Go.Proofs.Ytfoccmhmgdengaa

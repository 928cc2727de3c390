/- Contracts of FixedCode, of the program and of its model. -/
import Derived.Test.YtcifgableeeooabDoorPkRuns
import Derived.Test.YtcifgableeeooabDoorPkCode
import Derived.Test.YtcifgableeeooabDoorMathBit
namespace Go.Proofs.YtcifgableeeooabDoor
namespace Pk
open Go.ChangeShapes Go.WideShapes Go.ChangeAt Go.RowKit
open Math (highL highP)
set_option linter.unusedSimpArgs false
set_option linter.unusedVariables false

/-- What FixedCode answers. -/
def fixL (s : Int) : List Nat :=
  if 0 ≤ s ∧ s ≤ 143 then highL (48 + s).toNat 8
  else if 144 ≤ s ∧ s ≤ 255 then highL (400 + s - 144).toNat 9
  else if 256 ≤ s ∧ s ≤ 279 then highL (s - 256).toNat 7
  else if 280 ≤ s ∧ s ≤ 285 then highL (192 + s - 280).toNat 8
  else []

/-- One run's part. -/
def seg (a b n c : Int) (s : Int) : List Nat := if a ≤ s ∧ s ≤ b then highL (c + s - a).toNat n.toNat else []

/-- What the first k runs tell. -/
def fixAt (s : Int) : Nat → List Nat
  | 0 => []
  | k + 1 => fixAt s k ++ seg (runVals.getD (4 * k) 0) (runVals.getD (4 * k + 1) 0) (runVals.getD (4 * k + 2) 0) (runVals.getD (4 * k + 3) 0) s

theorem fixAt_all (s : Int) (h : s ≤ 285) : fixAt s 4 = fixL s := by
  have e : fixAt s 4 = seg 256 279 7 0 s ++ seg 0 143 8 48 s ++ seg 280 287 8 192 s ++ seg 144 255 9 400 s := by simp [fixAt, runVals]
  rw [e]
  unfold fixL
  by_cases h1 : 0 ≤ s ∧ s ≤ 143
  · rw [if_pos h1, seg, seg, seg, seg, if_neg (by omega), if_pos h1, if_neg (by omega), if_neg (by omega)]
    simp
  · rw [if_neg h1]
    by_cases h2 : 144 ≤ s ∧ s ≤ 255
    · rw [if_pos h2, seg, seg, seg, seg, if_neg (by omega), if_neg h1, if_neg (by omega), if_pos h2]
      simp
    · rw [if_neg h2]
      by_cases h3 : 256 ≤ s ∧ s ≤ 279
      · rw [if_pos h3, seg, seg, seg, seg, if_pos h3, if_neg h1, if_neg (by omega), if_neg h2]
        simp
      · rw [if_neg h3]
        by_cases h4 : 280 ≤ s ∧ s ≤ 285
        · rw [if_pos h4, seg, seg, seg, seg, if_neg h3, if_neg h1, if_pos (by omega), if_neg h2]
          simp
        · rw [if_neg h4, seg, seg, seg, seg, if_neg h3, if_neg h1, if_neg (by omega), if_neg h2]
          rfl

theorem seg_length (a b n c s : Int) (hn : n ≤ 9) : (seg a b n c s).length ≤ 9 := by
  unfold seg
  split
  · rw [Math.highL_length]; omega
  · simp

theorem own_new (w : World) (t : TypeId) : (w.alloc (.cells #[] t)).ownsRow w.heap.size t 1 (.slice (some ⟨w.heap.size, 0, none⟩) 0 0) 0 [] :=
  ⟨rfl, Or.inr ⟨w.heap.size, 0, #[], rfl, Nat.le_refl _, heap_new w _, by omega, by unfold maxLen; omega, rfl, rfl⟩⟩

theorem div_p2 (x i : Nat) : (x : Int) / (p2 i : Int) = ((x / 2 ^ i : Nat) : Int) := by
  unfold p2
  simp

set_option maxHeartbeats 1000000 in
theorem high_made (x n : Nat) (w : World) (hx : x < 1099511627776) (hn : n ≤ 40) :
    Calls Tryd.prog 71 #[.int .i64 x, .int .i64 n] w fun e w' => ∃ v, e = .returned v ∧ w'.ownsRow w.heap.size 3 1 v n (icells (highL x n)) ∧ Below w.heap.size w w' := by
  obtain ⟨i0, hi, hz0, hz1, hz2⟩ := info_of info_int
  go_enter Tryd.func71, Tryd.ntmps71
  go_wp2
  go_loopw [5, 6] (fun v i wr => ∃ (j : Nat), j ≤ n ∧ i = .int .i64 ((n : Int) - 1 - j) ∧ wr.ownsRow w.heap.size 3 1 v j (icells (highP x n j)) ∧ Below w.heap.size w wr) (fun _ i _ => (intOf i + 1).toNat)
  case atStart => exact ⟨0, by omega, by simp, own_new w _, new_below _ _⟩
  case round =>
    obtain ⟨j, hj, rfl, hown, L⟩ := hrel
    by_cases hjn : j < n
    · have e1 : (n : Int) - 1 - j = ((n - 1 - j : Nat) : Int) := by omega
      have HS : Hid (_) := Math.highP_succ x n j
      have HQ : Hid ((n - 1 - j : Nat) + 1 + j = n) := by show _ = _; omega
      have hq : (n - 1 - j : Nat) ≤ 40 := by omega
      have hdiv := div_p2 x (n - 1 - j)
      have hb1 : x / 2 ^ (n - 1 - j) % 2 ≤ 1 := by omega
      have hzb : x / 2 ^ (n - 1 - j) ≤ x := Nat.div_le_self _ _
      have hP := p2_pos (n - 1 - j)
      have hP2 := p2_bd (n - 1 - j) hq
      rw [e1]
      clear e1
      generalize x / 2 ^ (n - 1 - j) = z at *
      have hzm : (z : Int) % 2 = ((z % 2 : Nat) : Int) := by omega
      generalize z % 2 = b at *
      have HP : Hid (∀ w, _) := fun w => pow2_val (n - 1 - j) w hq
      generalize n - 1 - j = q at *
      generalize p2 q = Q at *
      have hBr : w.heap.size ≤ wr.heap.size := L.size
      go_wp2_with fail
      refine (HP.out _).mono ?_
      rintro e w2 ⟨rfl, rfl⟩
      go_wp2_with (at_builtin; refine wpList_append_own _ rfl _ _ 42 rfl w.heap.size 3 i0 (.int .i64 0) 1 8 Tryd.underlying42 hi hz0 hz1 hz2 rfl (by decide) _ _ _ rfl (hown.alloc _) ⟨w2.heap.size, 0, none⟩ 1 1 [.int .i64 b] rfl rfl ?c1 ?c2 ?c3 ?c4 ?c5 ?_)
      case c1 => exact cell_one_new _ _ _
      case c2 => intro u hu; simp at hu; subst hu; rfl
      case c3 => unfold maxLen; omega
      case c4 => omega
      case c5 => simp; omega
      · intro v' w3 hown3 hgrow _
        have L3 : Below w.heap.size w w3 := (L.alloc hBr _).grown hgrow (by simp; omega) (fun m h => own_ge hown m h)
        rw [icells_snoc, ← HS.out] at hown3
        clear hown hgrow
        go_wp2
        go_roundw
        case rel => exact ⟨j + 1, by omega, by have := HQ.out; go_num, hown3, L3⟩
        case measure => simp [intOf] <;> omega
    · obtain rfl : j = n := by omega
      rw [Math.highP_all] at hown
      have e1 : (j : Int) - 1 - j = -1 := by omega
      rw [e1]
      go_wp2
      go_ret
      exact ⟨_, rfl, hown, L⟩

set_option maxHeartbeats 1000000 in
theorem specFix_val (s : Int) (w : World) :
    Calls Tryd.prog 31 #[.int .i64 s] w fun e w' => ∃ v, e = .returned v ∧ w'.ownsRow w.heap.size 3 1 v (fixL s).length (icells (fixL s)) ∧ Below w.heap.size w w' := by
  by_cases h1 : 0 ≤ s ∧ s ≤ 143
  · have HI : Hid (_) := decide_eq_true h1
    have e : fixL s = highL (48 + s).toNat 8 := if_pos h1
    rw [e, Math.highL_length]
    obtain ⟨k, rfl⟩ := Int.eq_ofNat_of_zero_le h1.1
    have e2 : (48 + (k : Int)).toNat = 48 + k := by omega
    rw [e2]
    have e3 : (48 : Int) + (k : Int) = ((48 + k : Nat) : Int) := by omega
    have hk : 48 + k < 1000 := by omega
    clear h1 e e2
    generalize 48 + k = x at *
    go_enter Tryd.func31, Tryd.ntmps31
    go_wp2_with fail
    refine (in_is _ 0 143 true HI.out _).mono ?_
    rintro e w1 ⟨rfl, rfl⟩
    go_wp2_with fail
    refine (high_made x 8 _ (by omega) (by omega)).mono ?_
    rintro e w2 ⟨v, rfl, hown, L⟩
    go_wp2
    go_ret
    exact ⟨_, rfl, hown, L⟩
  by_cases h2 : 144 ≤ s ∧ s ≤ 255
  · have HI1 : Hid (_) := decide_eq_false h1
    have HI : Hid (_) := decide_eq_true h2
    have e : fixL s = highL (400 + s - 144).toNat 9 := by unfold fixL; rw [if_neg h1, if_pos h2]
    rw [e, Math.highL_length]
    obtain ⟨k, rfl⟩ := Int.eq_ofNat_of_zero_le (show 0 ≤ s by omega)
    have e2 : (400 + (k : Int) - 144).toNat = 400 + k - 144 := by omega
    rw [e2]
    have e3 : (400 : Int) + (k : Int) - 144 = ((400 + k - 144 : Nat) : Int) := by omega
    have hk : 400 + k - 144 < 1000 := by omega
    clear h1 h2 e e2
    generalize 400 + k - 144 = x at *
    go_enter Tryd.func31, Tryd.ntmps31
    go_wp2_with fail
    refine (in_is _ 0 143 false HI1.out _).mono ?_
    rintro e w1 ⟨rfl, rfl⟩
    go_wp2_with fail
    refine (in_is _ 144 255 true HI.out _).mono ?_
    rintro e w1 ⟨rfl, rfl⟩
    go_wp2_with fail
    refine (high_made x 9 _ (by omega) (by omega)).mono ?_
    rintro e w2 ⟨v, rfl, hown, L⟩
    go_wp2
    go_ret
    exact ⟨_, rfl, hown, L⟩
  by_cases h3 : 256 ≤ s ∧ s ≤ 279
  · have HI1 : Hid (_) := decide_eq_false h1
    have HI2 : Hid (_) := decide_eq_false h2
    have HI : Hid (_) := decide_eq_true h3
    have e : fixL s = highL (s - 256).toNat 7 := by unfold fixL; rw [if_neg h1, if_neg h2, if_pos h3]
    rw [e, Math.highL_length]
    obtain ⟨k, rfl⟩ := Int.eq_ofNat_of_zero_le (show 0 ≤ s by omega)
    have e2 : ((k : Int) - 256).toNat = k - 256 := by omega
    rw [e2]
    have e3 : (k : Int) - 256 = ((k - 256 : Nat) : Int) := by omega
    have hk : k - 256 < 1000 := by omega
    clear h1 h2 h3 e e2
    generalize k - 256 = x at *
    go_enter Tryd.func31, Tryd.ntmps31
    go_wp2_with fail
    refine (in_is _ 0 143 false HI1.out _).mono ?_
    rintro e w1 ⟨rfl, rfl⟩
    go_wp2_with fail
    refine (in_is _ 144 255 false HI2.out _).mono ?_
    rintro e w1 ⟨rfl, rfl⟩
    go_wp2_with fail
    refine (in_is _ 256 279 true HI.out _).mono ?_
    rintro e w1 ⟨rfl, rfl⟩
    go_wp2_with fail
    refine (high_made x 7 _ (by omega) (by omega)).mono ?_
    rintro e w2 ⟨v, rfl, hown, L⟩
    go_wp2
    go_ret
    exact ⟨_, rfl, hown, L⟩
  by_cases h4 : 280 ≤ s ∧ s ≤ 285
  · have HI1 : Hid (_) := decide_eq_false h1
    have HI2 : Hid (_) := decide_eq_false h2
    have HI3 : Hid (_) := decide_eq_false h3
    have HI : Hid (_) := decide_eq_true h4
    have e : fixL s = highL (192 + s - 280).toNat 8 := by unfold fixL; rw [if_neg h1, if_neg h2, if_neg h3, if_pos h4]
    rw [e, Math.highL_length]
    obtain ⟨k, rfl⟩ := Int.eq_ofNat_of_zero_le (show 0 ≤ s by omega)
    have e2 : (192 + (k : Int) - 280).toNat = 192 + k - 280 := by omega
    rw [e2]
    have e3 : 192 + (k : Int) - 280 = ((192 + k - 280 : Nat) : Int) := by omega
    have hk : 192 + k - 280 < 1000 := by omega
    clear h1 h2 h3 h4 e e2
    generalize 192 + k - 280 = x at *
    go_enter Tryd.func31, Tryd.ntmps31
    go_wp2_with fail
    refine (in_is _ 0 143 false HI1.out _).mono ?_
    rintro e w1 ⟨rfl, rfl⟩
    go_wp2_with fail
    refine (in_is _ 144 255 false HI2.out _).mono ?_
    rintro e w1 ⟨rfl, rfl⟩
    go_wp2_with fail
    refine (in_is _ 256 279 false HI3.out _).mono ?_
    rintro e w1 ⟨rfl, rfl⟩
    go_wp2_with fail
    refine (in_is _ 280 285 true HI.out _).mono ?_
    rintro e w1 ⟨rfl, rfl⟩
    go_wp2_with fail
    refine (high_made x 8 _ (by omega) (by omega)).mono ?_
    rintro e w2 ⟨v, rfl, hown, L⟩
    go_wp2
    go_ret
    exact ⟨_, rfl, hown, L⟩
  · have HI1 : Hid (_) := decide_eq_false h1
    have HI2 : Hid (_) := decide_eq_false h2
    have HI3 : Hid (_) := decide_eq_false h3
    have HI4 : Hid (_) := decide_eq_false h4
    have e : fixL s = [] := by unfold fixL; rw [if_neg h1, if_neg h2, if_neg h3, if_neg h4]
    rw [e]
    clear h1 h2 h3 h4 e
    go_enter Tryd.func31, Tryd.ntmps31
    go_wp2_with fail
    refine (in_is _ 0 143 false HI1.out _).mono ?_
    rintro e w1 ⟨rfl, rfl⟩
    go_wp2_with fail
    refine (in_is _ 144 255 false HI2.out _).mono ?_
    rintro e w1 ⟨rfl, rfl⟩
    go_wp2_with fail
    refine (in_is _ 256 279 false HI3.out _).mono ?_
    rintro e w1 ⟨rfl, rfl⟩
    go_wp2_with fail
    refine (in_is _ 280 285 false HI4.out _).mono ?_
    rintro e w1 ⟨rfl, rfl⟩
    go_wp2
    go_ret
    exact ⟨_, rfl, own_new _ _, new_below _ _⟩

theorem bit_shift' (n i : Nat) (hn : n < 4294967296) : bits BinOp.and IntKind.i64 ((n : Int) / 2 ^ i) 1 = ((n / 2 ^ i % 2 : Nat) : Int) := by
  have e : (n : Int) / 2 ^ i = ((n / 2 ^ i : Nat) : Int) := by simp
  rw [e]
  exact Math.and_one_i64 _ (Nat.lt_of_le_of_lt (Nat.div_le_self _ _) (by omega))

/-- The table as a value. -/
abbrev runsV : Value := .agg #[.int .i64 256, .int .i64 279, .int .i64 7, .int .i64 0, .int .i64 0, .int .i64 143, .int .i64 8, .int .i64 48, .int .i64 280, .int .i64 287, .int .i64 8, .int .i64 192, .int .i64 144, .int .i64 255, .int .i64 9, .int .i64 400]

theorem run_at0 (w : World) : (Instr.index 104 runsV (.int .i64 0)).run Tryd.prog w = .ok (.agg #[.int .i64 256, .int .i64 279, .int .i64 7, .int .i64 0]) w := by
  simp [Instr.index, run_underlying Tryd.underlying104, asIntOf, part, go_sem]

theorem run_at1 (w : World) : (Instr.index 104 runsV (.int .i64 1)).run Tryd.prog w = .ok (.agg #[.int .i64 0, .int .i64 143, .int .i64 8, .int .i64 48]) w := by
  simp [Instr.index, run_underlying Tryd.underlying104, asIntOf, part, go_sem]

theorem run_at2 (w : World) : (Instr.index 104 runsV (.int .i64 2)).run Tryd.prog w = .ok (.agg #[.int .i64 280, .int .i64 287, .int .i64 8, .int .i64 192]) w := by
  simp [Instr.index, run_underlying Tryd.underlying104, asIntOf, part, go_sem]

theorem run_at3 (w : World) : (Instr.index 104 runsV (.int .i64 3)).run Tryd.prog w = .ok (.agg #[.int .i64 144, .int .i64 255, .int .i64 9, .int .i64 400]) w := by
  simp [Instr.index, run_underlying Tryd.underlying104, asIntOf, part, go_sem]

set_option maxHeartbeats 2000000 in
set_option maxRecDepth 100000 in
theorem implFix_val (s : Int) (w : World) (R : Runs w) :
    Calls Tryd.prog 30 #[.int .i64 s] w fun e w' => ∃ v, e = .returned v ∧ w'.ownsRow w.heap.size 3 1 v (fixL s).length (icells (fixL s)) ∧ Below w.heap.size w w' := by
  obtain ⟨i0, hi, hz0, hz1, hz2⟩ := info_of info_int
  by_cases hs : s ≤ 285
  · have r0 := R 0 (by omega); have r1 := R 1 (by omega); have r2 := R 2 (by omega); have r3 := R 3 (by omega)
    have r4 := R 4 (by omega); have r5 := R 5 (by omega); have r6 := R 6 (by omega); have r7 := R 7 (by omega)
    have r8 := R 8 (by omega); have r9 := R 9 (by omega); have r10 := R 10 (by omega); have r11 := R 11 (by omega)
    have r12 := R 12 (by omega); have r13 := R 13 (by omega); have r14 := R 14 (by omega); have r15 := R 15 (by omega)
    have hg := R.lt
    simp [runVals] at r0 r1 r2 r3 r4 r5 r6 r7 r8 r9 r10 r11 r12 r13 r14 r15
    have hgz : 0 ≠ w.heap.size := by omega
    have HA : Hid (_) := fixAt_all s hs
    have h285 : decide (285 < s) = false := decide_eq_false (by omega)
    go_enter Tryd.func30, Tryd.ntmps30
    go_wp2
    clear r0 r1 r2 r3 r4 r5 r6 r7 r8 r9 r10 r11 r12 r13 r14 r15
    go_loopw [3, 13] (fun v i wr => ∃ (k : Nat) (l : List Nat), k ≤ 4 ∧ i = .int .i64 k ∧ l.length ≤ 9 * k ∧ wr.ownsRow w.heap.size 3 1 v l.length (icells l) ∧ Below w.heap.size w wr ∧ Hid (l = fixAt s k)) (fun _ i _ => 4 - (intOf i).toNat)
    case atStart => exact ⟨0, [], by omega, rfl, by simp, own_new w _, new_below _ _, rfl⟩
    case round =>
      obtain ⟨k, l, hk, rfl, hl, hown, L, H⟩ := hrel
      have hBr : w.heap.size ≤ wr.heap.size := L.size
      have HS : Hid (fixAt s (k + 1) = l ++ seg (runVals.getD (4 * k) 0) (runVals.getD (4 * k + 1) 0) (runVals.getD (4 * k + 2) 0) (runVals.getD (4 * k + 3) 0) s) := by
        show _ = _
        rw [H.out]
        rfl
      have hk5 : k = 0 ∨ k = 1 ∨ k = 2 ∨ k = 3 ∨ k = 4 := by omega
      rcases hk5 with rfl | rfl | rfl | rfl | rfl
      · rw [show ((0 : Nat) : Int) = 0 from rfl]
        have hix := run_at0 wr
        have e4 : fixAt s 1 = l ++ seg 256 279 7 0 s := HS.out
        have L1 : Below w.heap.size w (wr.alloc (.cells #[.int .i64 256, .int .i64 279, .int .i64 7, .int .i64 0] 103)) := L.alloc hBr _
        have hown1 := hown.alloc (.cells #[.int .i64 256, .int .i64 279, .int .i64 7, .int .i64 0] 103)
        by_cases hm : 256 ≤ s ∧ s ≤ 279
        · obtain ⟨x, hx⟩ := Int.eq_ofNat_of_zero_le (show 0 ≤ s - 256 by omega)
          have hxb : x < 4294967296 := by omega
          have e5 : (0 + s - 256).toNat = x := by omega
          have e6 : seg 256 279 7 0 s = highL x 7 := by unfold seg; rw [if_pos hm, e5]; rfl
          rw [e6] at e4
          have H4 : Hid (_) := e4
          obtain ⟨hm1, hm2⟩ := hm
          have hm3 := decide_eq_true hm1
          have hm4 := decide_eq_true hm2
          clear e4 e5 e6 HS H
          go_wp2
          clear hown L hix
          generalize wr.alloc (.cells #[.int .i64 256, .int .i64 279, .int .i64 7, .int .i64 0] 103) = w1 at *
          go_loopw [3, 7] (fun v i w2 => ∃ (j : Nat), j ≤ 7 ∧ i = .int .i64 (6 - (j : Int)) ∧ w2.ownsRow w.heap.size 3 1 v (l.length + j) (icells (l ++ highP x 7 j)) ∧ Below w.heap.size w w2) (fun _ i _ => (intOf i + 1).toNat)
          case atStart => exact ⟨0, by omega, rfl, by rw [show highP x 7 0 = [] from rfl, List.append_nil]; exact hown1, L1⟩
          case round =>
            obtain ⟨j, hj, rfl, hownj, Lj⟩ := hrel
            have hBj : w.heap.size ≤ wr.heap.size := Lj.size
            by_cases hjn : j < 7
            · have e1 : (6 : Int) - (j : Int) = ((7 - 1 - j : Nat) : Int) := by omega
              have HP : Hid (_) := Math.highP_succ x 7 j
              have hsh := bit_shift' x (7 - 1 - j) hxb
              have HQ : Hid ((7 - 1 - j : Nat) + 1 + j = 7) := by show _ = _; omega
              have hq : (7 - 1 - j : Nat) ≤ 20 := by omega
              rw [e1]
              clear e1
              generalize x / 2 ^ (7 - 1 - j) % 2 = y at *
              generalize 7 - 1 - j = q at *
              go_wp2_with (at_builtin; refine wpList_append_own _ rfl _ _ 42 rfl w.heap.size 3 i0 (.int .i64 0) 1 8 Tryd.underlying42 hi hz0 hz1 hz2 rfl (by decide) _ _ _ rfl (hownj.alloc _) ⟨wr.heap.size, 0, none⟩ 1 1 [.int .i64 y] rfl rfl ?c1 ?c2 ?c3 ?c4 ?c5 ?_)
              case c1 => exact cell_one_new _ _ _
              case c2 => intro u hu; simp at hu; subst hu; rfl
              case c3 => unfold maxLen; omega
              case c4 => omega
              case c5 => simp; omega
              · intro v' w3 hown3 hgrow _
                have L3 : Below w.heap.size w w3 := (Lj.alloc hBj _).grown hgrow (by simp; omega) (fun m h => own_ge hownj m h)
                rw [icells_snoc, List.append_assoc, ← HP.out] at hown3
                clear hownj hgrow
                go_wp2
                go_roundw
                case rel => exact ⟨j + 1, by omega, by have := HQ.out; go_num, hown3, L3⟩
                case measure => simp [intOf] <;> omega
            · obtain rfl : j = 7 := by omega
              rw [Math.highP_all] at hownj
              have HL : Hid ((l ++ highL x 7).length = l.length + 7) := by show _ = _; rw [List.length_append, Math.highL_length]
              go_wp2
              go_roundw
              case rel => exact ⟨1, l ++ highL x 7, by omega, by go_num, by rw [HL.out]; omega, by rw [HL.out]; exact hownj, Lj, H4.out.symm⟩
              case measure => simp [intOf]
        · have e6 : seg 256 279 7 0 s = [] := by unfold seg; rw [if_neg hm]
          rw [e6, List.append_nil] at e4
          have H4 : Hid (_) := e4
          clear e4 e6 HS H
          by_cases hm1 : 256 ≤ s
          · have hm2 : 279 < s := by omega
            clear hm
            first
              | (exfalso; omega)
              | (go_wp2
                 go_roundw
                 case rel => exact ⟨1, l, by omega, by go_num, by omega, hown1, L1, H4.out.symm⟩
                 case measure => simp [intOf])
          · clear hm
            go_wp2
            go_roundw
            case rel => exact ⟨1, l, by omega, by go_num, by omega, hown1, L1, H4.out.symm⟩
            case measure => simp [intOf]
      · rw [show ((1 : Nat) : Int) = 1 from rfl]
        have hix := run_at1 wr
        have e4 : fixAt s 2 = l ++ seg 0 143 8 48 s := HS.out
        have L1 : Below w.heap.size w (wr.alloc (.cells #[.int .i64 0, .int .i64 143, .int .i64 8, .int .i64 48] 103)) := L.alloc hBr _
        have hown1 := hown.alloc (.cells #[.int .i64 0, .int .i64 143, .int .i64 8, .int .i64 48] 103)
        by_cases hm : 0 ≤ s ∧ s ≤ 143
        · obtain ⟨x, hx⟩ := Int.eq_ofNat_of_zero_le (show 0 ≤ 48 + s by omega)
          have hxb : x < 4294967296 := by omega
          have e5 : (48 + s - 0).toNat = x := by omega
          have e6 : seg 0 143 8 48 s = highL x 8 := by unfold seg; rw [if_pos hm, e5]; rfl
          rw [e6] at e4
          have H4 : Hid (_) := e4
          obtain ⟨hm1, hm2⟩ := hm
          have hm3 := decide_eq_true hm1
          have hm4 := decide_eq_true hm2
          clear e4 e5 e6 HS H
          go_wp2
          clear hown L hix
          generalize wr.alloc (.cells #[.int .i64 0, .int .i64 143, .int .i64 8, .int .i64 48] 103) = w1 at *
          go_loopw [3, 7] (fun v i w2 => ∃ (j : Nat), j ≤ 8 ∧ i = .int .i64 (7 - (j : Int)) ∧ w2.ownsRow w.heap.size 3 1 v (l.length + j) (icells (l ++ highP x 8 j)) ∧ Below w.heap.size w w2) (fun _ i _ => (intOf i + 1).toNat)
          case atStart => exact ⟨0, by omega, rfl, by rw [show highP x 8 0 = [] from rfl, List.append_nil]; exact hown1, L1⟩
          case round =>
            obtain ⟨j, hj, rfl, hownj, Lj⟩ := hrel
            have hBj : w.heap.size ≤ wr.heap.size := Lj.size
            by_cases hjn : j < 8
            · have e1 : (7 : Int) - (j : Int) = ((8 - 1 - j : Nat) : Int) := by omega
              have HP : Hid (_) := Math.highP_succ x 8 j
              have hsh := bit_shift' x (8 - 1 - j) hxb
              have HQ : Hid ((8 - 1 - j : Nat) + 1 + j = 8) := by show _ = _; omega
              have hq : (8 - 1 - j : Nat) ≤ 20 := by omega
              rw [e1]
              clear e1
              generalize x / 2 ^ (8 - 1 - j) % 2 = y at *
              generalize 8 - 1 - j = q at *
              go_wp2_with (at_builtin; refine wpList_append_own _ rfl _ _ 42 rfl w.heap.size 3 i0 (.int .i64 0) 1 8 Tryd.underlying42 hi hz0 hz1 hz2 rfl (by decide) _ _ _ rfl (hownj.alloc _) ⟨wr.heap.size, 0, none⟩ 1 1 [.int .i64 y] rfl rfl ?c1 ?c2 ?c3 ?c4 ?c5 ?_)
              case c1 => exact cell_one_new _ _ _
              case c2 => intro u hu; simp at hu; subst hu; rfl
              case c3 => unfold maxLen; omega
              case c4 => omega
              case c5 => simp; omega
              · intro v' w3 hown3 hgrow _
                have L3 : Below w.heap.size w w3 := (Lj.alloc hBj _).grown hgrow (by simp; omega) (fun m h => own_ge hownj m h)
                rw [icells_snoc, List.append_assoc, ← HP.out] at hown3
                clear hownj hgrow
                go_wp2
                go_roundw
                case rel => exact ⟨j + 1, by omega, by have := HQ.out; go_num, hown3, L3⟩
                case measure => simp [intOf] <;> omega
            · obtain rfl : j = 8 := by omega
              rw [Math.highP_all] at hownj
              have HL : Hid ((l ++ highL x 8).length = l.length + 8) := by show _ = _; rw [List.length_append, Math.highL_length]
              go_wp2
              go_roundw
              case rel => exact ⟨2, l ++ highL x 8, by omega, by go_num, by rw [HL.out]; omega, by rw [HL.out]; exact hownj, Lj, H4.out.symm⟩
              case measure => simp [intOf]
        · have e6 : seg 0 143 8 48 s = [] := by unfold seg; rw [if_neg hm]
          rw [e6, List.append_nil] at e4
          have H4 : Hid (_) := e4
          clear e4 e6 HS H
          by_cases hm1 : 0 ≤ s
          · have hm2 : 143 < s := by omega
            clear hm
            first
              | (exfalso; omega)
              | (go_wp2
                 go_roundw
                 case rel => exact ⟨2, l, by omega, by go_num, by omega, hown1, L1, H4.out.symm⟩
                 case measure => simp [intOf])
          · clear hm
            go_wp2
            go_roundw
            case rel => exact ⟨2, l, by omega, by go_num, by omega, hown1, L1, H4.out.symm⟩
            case measure => simp [intOf]
      · rw [show ((2 : Nat) : Int) = 2 from rfl]
        have hix := run_at2 wr
        have e4 : fixAt s 3 = l ++ seg 280 287 8 192 s := HS.out
        have L1 : Below w.heap.size w (wr.alloc (.cells #[.int .i64 280, .int .i64 287, .int .i64 8, .int .i64 192] 103)) := L.alloc hBr _
        have hown1 := hown.alloc (.cells #[.int .i64 280, .int .i64 287, .int .i64 8, .int .i64 192] 103)
        by_cases hm : 280 ≤ s ∧ s ≤ 287
        · obtain ⟨x, hx⟩ := Int.eq_ofNat_of_zero_le (show 0 ≤ 192 + s - 280 by omega)
          have hxb : x < 4294967296 := by omega
          have e5 : (192 + s - 280).toNat = x := by omega
          have e6 : seg 280 287 8 192 s = highL x 8 := by unfold seg; rw [if_pos hm, e5]; rfl
          rw [e6] at e4
          have H4 : Hid (_) := e4
          obtain ⟨hm1, hm2⟩ := hm
          have hm3 := decide_eq_true hm1
          have hm4 := decide_eq_true hm2
          clear e4 e5 e6 HS H
          go_wp2
          clear hown L hix
          generalize wr.alloc (.cells #[.int .i64 280, .int .i64 287, .int .i64 8, .int .i64 192] 103) = w1 at *
          go_loopw [3, 7] (fun v i w2 => ∃ (j : Nat), j ≤ 8 ∧ i = .int .i64 (7 - (j : Int)) ∧ w2.ownsRow w.heap.size 3 1 v (l.length + j) (icells (l ++ highP x 8 j)) ∧ Below w.heap.size w w2) (fun _ i _ => (intOf i + 1).toNat)
          case atStart => exact ⟨0, by omega, rfl, by rw [show highP x 8 0 = [] from rfl, List.append_nil]; exact hown1, L1⟩
          case round =>
            obtain ⟨j, hj, rfl, hownj, Lj⟩ := hrel
            have hBj : w.heap.size ≤ wr.heap.size := Lj.size
            by_cases hjn : j < 8
            · have e1 : (7 : Int) - (j : Int) = ((8 - 1 - j : Nat) : Int) := by omega
              have HP : Hid (_) := Math.highP_succ x 8 j
              have hsh := bit_shift' x (8 - 1 - j) hxb
              have HQ : Hid ((8 - 1 - j : Nat) + 1 + j = 8) := by show _ = _; omega
              have hq : (8 - 1 - j : Nat) ≤ 20 := by omega
              rw [e1]
              clear e1
              generalize x / 2 ^ (8 - 1 - j) % 2 = y at *
              generalize 8 - 1 - j = q at *
              go_wp2_with (at_builtin; refine wpList_append_own _ rfl _ _ 42 rfl w.heap.size 3 i0 (.int .i64 0) 1 8 Tryd.underlying42 hi hz0 hz1 hz2 rfl (by decide) _ _ _ rfl (hownj.alloc _) ⟨wr.heap.size, 0, none⟩ 1 1 [.int .i64 y] rfl rfl ?c1 ?c2 ?c3 ?c4 ?c5 ?_)
              case c1 => exact cell_one_new _ _ _
              case c2 => intro u hu; simp at hu; subst hu; rfl
              case c3 => unfold maxLen; omega
              case c4 => omega
              case c5 => simp; omega
              · intro v' w3 hown3 hgrow _
                have L3 : Below w.heap.size w w3 := (Lj.alloc hBj _).grown hgrow (by simp; omega) (fun m h => own_ge hownj m h)
                rw [icells_snoc, List.append_assoc, ← HP.out] at hown3
                clear hownj hgrow
                go_wp2
                go_roundw
                case rel => exact ⟨j + 1, by omega, by have := HQ.out; go_num, hown3, L3⟩
                case measure => simp [intOf] <;> omega
            · obtain rfl : j = 8 := by omega
              rw [Math.highP_all] at hownj
              have HL : Hid ((l ++ highL x 8).length = l.length + 8) := by show _ = _; rw [List.length_append, Math.highL_length]
              go_wp2
              go_roundw
              case rel => exact ⟨3, l ++ highL x 8, by omega, by go_num, by rw [HL.out]; omega, by rw [HL.out]; exact hownj, Lj, H4.out.symm⟩
              case measure => simp [intOf]
        · have e6 : seg 280 287 8 192 s = [] := by unfold seg; rw [if_neg hm]
          rw [e6, List.append_nil] at e4
          have H4 : Hid (_) := e4
          clear e4 e6 HS H
          by_cases hm1 : 280 ≤ s
          · have hm2 : 287 < s := by omega
            clear hm
            first
              | (exfalso; omega)
              | (go_wp2
                 go_roundw
                 case rel => exact ⟨3, l, by omega, by go_num, by omega, hown1, L1, H4.out.symm⟩
                 case measure => simp [intOf])
          · clear hm
            go_wp2
            go_roundw
            case rel => exact ⟨3, l, by omega, by go_num, by omega, hown1, L1, H4.out.symm⟩
            case measure => simp [intOf]
      · rw [show ((3 : Nat) : Int) = 3 from rfl]
        have hix := run_at3 wr
        have e4 : fixAt s 4 = l ++ seg 144 255 9 400 s := HS.out
        have L1 : Below w.heap.size w (wr.alloc (.cells #[.int .i64 144, .int .i64 255, .int .i64 9, .int .i64 400] 103)) := L.alloc hBr _
        have hown1 := hown.alloc (.cells #[.int .i64 144, .int .i64 255, .int .i64 9, .int .i64 400] 103)
        by_cases hm : 144 ≤ s ∧ s ≤ 255
        · obtain ⟨x, hx⟩ := Int.eq_ofNat_of_zero_le (show 0 ≤ 400 + s - 144 by omega)
          have hxb : x < 4294967296 := by omega
          have e5 : (400 + s - 144).toNat = x := by omega
          have e6 : seg 144 255 9 400 s = highL x 9 := by unfold seg; rw [if_pos hm, e5]; rfl
          rw [e6] at e4
          have H4 : Hid (_) := e4
          obtain ⟨hm1, hm2⟩ := hm
          have hm3 := decide_eq_true hm1
          have hm4 := decide_eq_true hm2
          clear e4 e5 e6 HS H
          go_wp2
          clear hown L hix
          generalize wr.alloc (.cells #[.int .i64 144, .int .i64 255, .int .i64 9, .int .i64 400] 103) = w1 at *
          go_loopw [3, 7] (fun v i w2 => ∃ (j : Nat), j ≤ 9 ∧ i = .int .i64 (8 - (j : Int)) ∧ w2.ownsRow w.heap.size 3 1 v (l.length + j) (icells (l ++ highP x 9 j)) ∧ Below w.heap.size w w2) (fun _ i _ => (intOf i + 1).toNat)
          case atStart => exact ⟨0, by omega, rfl, by rw [show highP x 9 0 = [] from rfl, List.append_nil]; exact hown1, L1⟩
          case round =>
            obtain ⟨j, hj, rfl, hownj, Lj⟩ := hrel
            have hBj : w.heap.size ≤ wr.heap.size := Lj.size
            by_cases hjn : j < 9
            · have e1 : (8 : Int) - (j : Int) = ((9 - 1 - j : Nat) : Int) := by omega
              have HP : Hid (_) := Math.highP_succ x 9 j
              have hsh := bit_shift' x (9 - 1 - j) hxb
              have HQ : Hid ((9 - 1 - j : Nat) + 1 + j = 9) := by show _ = _; omega
              have hq : (9 - 1 - j : Nat) ≤ 20 := by omega
              rw [e1]
              clear e1
              generalize x / 2 ^ (9 - 1 - j) % 2 = y at *
              generalize 9 - 1 - j = q at *
              go_wp2_with (at_builtin; refine wpList_append_own _ rfl _ _ 42 rfl w.heap.size 3 i0 (.int .i64 0) 1 8 Tryd.underlying42 hi hz0 hz1 hz2 rfl (by decide) _ _ _ rfl (hownj.alloc _) ⟨wr.heap.size, 0, none⟩ 1 1 [.int .i64 y] rfl rfl ?c1 ?c2 ?c3 ?c4 ?c5 ?_)
              case c1 => exact cell_one_new _ _ _
              case c2 => intro u hu; simp at hu; subst hu; rfl
              case c3 => unfold maxLen; omega
              case c4 => omega
              case c5 => simp; omega
              · intro v' w3 hown3 hgrow _
                have L3 : Below w.heap.size w w3 := (Lj.alloc hBj _).grown hgrow (by simp; omega) (fun m h => own_ge hownj m h)
                rw [icells_snoc, List.append_assoc, ← HP.out] at hown3
                clear hownj hgrow
                go_wp2
                go_roundw
                case rel => exact ⟨j + 1, by omega, by have := HQ.out; go_num, hown3, L3⟩
                case measure => simp [intOf] <;> omega
            · obtain rfl : j = 9 := by omega
              rw [Math.highP_all] at hownj
              have HL : Hid ((l ++ highL x 9).length = l.length + 9) := by show _ = _; rw [List.length_append, Math.highL_length]
              go_wp2
              go_roundw
              case rel => exact ⟨4, l ++ highL x 9, by omega, by go_num, by rw [HL.out]; omega, by rw [HL.out]; exact hownj, Lj, H4.out.symm⟩
              case measure => simp [intOf]
        · have e6 : seg 144 255 9 400 s = [] := by unfold seg; rw [if_neg hm]
          rw [e6, List.append_nil] at e4
          have H4 : Hid (_) := e4
          clear e4 e6 HS H
          by_cases hm1 : 144 ≤ s
          · have hm2 : 255 < s := by omega
            clear hm
            first
              | (exfalso; omega)
              | (go_wp2
                 go_roundw
                 case rel => exact ⟨4, l, by omega, by go_num, by omega, hown1, L1, H4.out.symm⟩
                 case measure => simp [intOf])
          · clear hm
            go_wp2
            go_roundw
            case rel => exact ⟨4, l, by omega, by go_num, by omega, hown1, L1, H4.out.symm⟩
            case measure => simp [intOf]
      · rw [H.out, HA.out] at hown
        go_wp2
        go_ret
        exact ⟨_, rfl, hown, L⟩
  · have e : fixL s = [] := by unfold fixL; rw [if_neg (by omega), if_neg (by omega), if_neg (by omega), if_neg (by omega)]
    rw [e]
    clear e
    go_enter Tryd.func30, Tryd.ntmps30
    go_wp2
    go_ret
    exact ⟨_, rfl, own_new _ _, new_below _ _⟩

end Pk
end Go.Proofs.YtcifgableeeooabDoor

/- Contracts of FixedCode, of the program and of its model. -/
import Derived.Test.YtkhibgicejcmlamPkRuns
import Derived.Test.YtkhibgicejcmlamPkCode
import Derived.Test.YtkhibgicejcmlamMathBit
namespace Go.Proofs.Ytkhibgicejcmlam
namespace Pk
open Go.ChangeShapes Go.WideShapes Go.ChangeAt Go.RowKit
open Math (highL highP)
set_option linter.unusedSimpArgs false
set_option linter.unusedVariables false

/-- What FixedCode answers. -/
def fixL (s : Int) : List Nat :=
  if 0 ≤ s ∧ s ≤ 143 then highL (48 + s).toNat 8
  else if 144 ≤ s ∧ s ≤ 255 then highL (400 + s - 144).toNat 9
  else if 256 ≤ s ∧ s ≤ 279 then highL (s - 256).toNat 7
  else if 280 ≤ s ∧ s ≤ 285 then highL (192 + s - 280).toNat 8
  else []

/-- One run's part. -/
def seg (a b n c : Int) (s : Int) : List Nat := if a ≤ s ∧ s ≤ b then highL (c + s - a).toNat n.toNat else []

/-- What the first k runs tell. -/
def fixAt (s : Int) : Nat → List Nat
  | 0 => []
  | k + 1 => fixAt s k ++ seg (runVals.getD (4 * k) 0) (runVals.getD (4 * k + 1) 0) (runVals.getD (4 * k + 2) 0) (runVals.getD (4 * k + 3) 0) s

theorem fixAt_all (s : Int) (h : s ≤ 285) : fixAt s 4 = fixL s := by
  have e : fixAt s 4 = seg 256 279 7 0 s ++ seg 0 143 8 48 s ++ seg 280 287 8 192 s ++ seg 144 255 9 400 s := by simp [fixAt, runVals]
  rw [e]
  unfold fixL
  by_cases h1 : 0 ≤ s ∧ s ≤ 143
  · rw [if_pos h1, seg, seg, seg, seg, if_neg (by omega), if_pos h1, if_neg (by omega), if_neg (by omega)]
    simp
  · rw [if_neg h1]
    by_cases h2 : 144 ≤ s ∧ s ≤ 255
    · rw [if_pos h2, seg, seg, seg, seg, if_neg (by omega), if_neg h1, if_neg (by omega), if_pos h2]
      simp
    · rw [if_neg h2]
      by_cases h3 : 256 ≤ s ∧ s ≤ 279
      · rw [if_pos h3, seg, seg, seg, seg, if_pos h3, if_neg h1, if_neg (by omega), if_neg h2]
        simp
      · rw [if_neg h3]
        by_cases h4 : 280 ≤ s ∧ s ≤ 285
        · rw [if_pos h4, seg, seg, seg, seg, if_neg h3, if_neg h1, if_pos (by omega), if_neg h2]
          simp
        · rw [if_neg h4, seg, seg, seg, seg, if_neg h3, if_neg h1, if_neg (by omega), if_neg h2]
          rfl

theorem seg_length (a b n c s : Int) (hn : n ≤ 9) : (seg a b n c s).length ≤ 9 := by
  unfold seg
  split
  · rw [Math.highL_length]; omega
  · simp

theorem own_new (w : World) (t : TypeId) : (w.alloc (.cells #[] t)).ownsRow w.heap.size t 1 (.slice (some ⟨w.heap.size, 0, none⟩) 0 0) 0 [] :=
  ⟨rfl, Or.inr ⟨w.heap.size, 0, #[], rfl, Nat.le_refl _, heap_new w _, by omega, by unfold maxLen; omega, rfl, rfl⟩⟩

theorem div_p2 (x i : Nat) : (x : Int) / (p2 i : Int) = ((x / 2 ^ i : Nat) : Int) := by
  unfold p2
  simp

set_option maxHeartbeats 1000000 in
theorem high_made (x n : Nat) (w : World) (hx : x < 1099511627776) (hn : n ≤ 40) :
    Calls Try.prog 64 #[.int .i64 x, .int .i64 n] w fun e w' => ∃ v, e = .returned v ∧ w'.ownsRow w.heap.size 3 1 v n (icells (highL x n)) ∧ Below w.heap.size w w' := by
  obtain ⟨i0, hi, hz0, hz1, hz2⟩ := info_of info_int
  go_enter Try.func64, Try.ntmps64
  go_wp2
  go_loopw [5, 6] (fun v i wr => ∃ (j : Nat), j ≤ n ∧ i = .int .i64 ((n : Int) - 1 - j) ∧ wr.ownsRow w.heap.size 3 1 v j (icells (highP x n j)) ∧ Below w.heap.size w wr) (fun _ i _ => (intOf i + 1).toNat)
  case atStart => exact ⟨0, by omega, by simp, own_new w _, new_below _ _⟩
  case round =>
    obtain ⟨j, hj, rfl, hown, L⟩ := hrel
    by_cases hjn : j < n
    · have e1 : (n : Int) - 1 - j = ((n - 1 - j : Nat) : Int) := by omega
      have HS : Hid (_) := Math.highP_succ x n j
      have HQ : Hid ((n - 1 - j : Nat) + 1 + j = n) := by show _ = _; omega
      have hq : (n - 1 - j : Nat) ≤ 40 := by omega
      have hdiv := div_p2 x (n - 1 - j)
      have hb1 : x / 2 ^ (n - 1 - j) % 2 ≤ 1 := by omega
      have hzb : x / 2 ^ (n - 1 - j) ≤ x := Nat.div_le_self _ _
      have hP := p2_pos (n - 1 - j)
      have hP2 := p2_bd (n - 1 - j) hq
      rw [e1]
      clear e1
      generalize x / 2 ^ (n - 1 - j) = z at *
      have hzm : (z : Int) % 2 = ((z % 2 : Nat) : Int) := by omega
      generalize z % 2 = b at *
      have HP : Hid (∀ w, _) := fun w => pow2_val (n - 1 - j) w hq
      generalize n - 1 - j = q at *
      generalize p2 q = Q at *
      have hBr : w.heap.size ≤ wr.heap.size := L.size
      go_wp2_with fail
      refine (HP.out _).mono ?_
      rintro e w2 ⟨rfl, rfl⟩
      go_wp2_with (at_builtin; refine wpList_append_own _ rfl _ _ 60 rfl w.heap.size 3 i0 (.int .i64 0) 1 8 Try.underlying60 hi hz0 hz1 hz2 rfl (by decide) _ _ _ rfl (hown.alloc _) ⟨w2.heap.size, 0, none⟩ 1 1 [.int .i64 b] rfl rfl ?c1 ?c2 ?c3 ?c4 ?c5 ?_)
      case c1 => exact cell_one_new _ _ _
      case c2 => intro u hu; simp at hu; subst hu; rfl
      case c3 => unfold maxLen; omega
      case c4 => omega
      case c5 => simp; omega
      · intro v' w3 hown3 hgrow _
        have L3 : Below w.heap.size w w3 := (L.alloc hBr _).grown hgrow (by simp; omega) (fun m h => own_ge hown m h)
        rw [icells_snoc, ← HS.out] at hown3
        clear hown hgrow
        go_wp2
        go_roundw
        case rel => exact ⟨j + 1, by omega, by have := HQ.out; go_num, hown3, L3⟩
        case measure => simp [intOf] <;> omega
    · obtain rfl : j = n := by omega
      rw [Math.highP_all] at hown
      have e1 : (j : Int) - 1 - j = -1 := by omega
      rw [e1]
      go_wp2
      go_ret
      exact ⟨_, rfl, hown, L⟩

theorem bit_shift' (n i : Nat) (hn : n < 4294967296) : bits BinOp.and IntKind.i64 ((n : Int) / 2 ^ i) 1 = ((n / 2 ^ i % 2 : Nat) : Int) := by
  have e : (n : Int) / 2 ^ i = ((n / 2 ^ i : Nat) : Int) := by simp
  rw [e]
  exact Math.and_one_i64 _ (Nat.lt_of_le_of_lt (Nat.div_le_self _ _) (by omega))

/-- The table as a value. -/
abbrev runsV : Value := .agg #[.int .i64 256, .int .i64 279, .int .i64 7, .int .i64 0, .int .i64 0, .int .i64 143, .int .i64 8, .int .i64 48, .int .i64 280, .int .i64 287, .int .i64 8, .int .i64 192, .int .i64 144, .int .i64 255, .int .i64 9, .int .i64 400]

end Pk
end Go.Proofs.Ytkhibgicejcmlam

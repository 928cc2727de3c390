/- Contracts of the codes of lengths and of ways back, of the program and of its model. -/
import Derived.Test.YtkhibgicejcmlamPkRow
import Derived.Test.YtkhibgicejcmlamMathPack
import Derived.Test.YtkhibgicejcmlamMathBit
import Derived.Lib.BitFns
import Derived.Test.YtkhibgicejcmlamShelf
namespace Go.Proofs.Ytkhibgicejcmlam
namespace Pk
open Go.ChangeShapes Go.WideShapes Go.ChangeAt Go.RowKit
set_option linter.unusedSimpArgs false
set_option linter.unusedVariables false

theorem in_is (x a b : Int) (c : Bool) (h : decide (a ≤ x ∧ x ≤ b) = c) (w : World) :
    Calls Try.prog 50 #[.int .i64 x, .int .i64 a, .int .i64 b] w fun e w' => e = .returned (.bool c) ∧ w' = w := by
  subst h
  by_cases h1 : a ≤ x <;> by_cases h2 : x ≤ b
  all_goals
    go_enter Try.func50, Try.ntmps50
    go_wp2
    go_ret
    exact ⟨by simp [h1, h2], rfl⟩

/-- A power of two. -/
def p2 (n : Nat) : Nat := 2 ^ n

theorem p2_pos (n : Nat) : 0 < p2 n := Nat.two_pow_pos n

theorem p2_succ (n : Nat) : p2 (n + 1) = 2 * p2 n := by unfold p2; rw [Nat.pow_succ, Nat.mul_comm]

theorem p2_le (n m : Nat) (h : n ≤ m) : p2 n ≤ p2 m := Nat.pow_le_pow_right (by omega) h

theorem p2_bd (n : Nat) (h : n ≤ 40) : p2 n ≤ 1099511627776 := p2_le n 40 h

theorem pow2_val (n : Nat) (w : World) (hn : n ≤ 40) :
    Calls Try.prog 74 #[.int .i64 n] w fun e w' => e = .returned (.int .i64 (p2 n)) ∧ w' = w := by
  go_enter Try.func74, Try.ntmps74
  go_wp2
  go_loop [3, 4] (fun x i => ∃ (k y : Nat), k ≤ n ∧ y ≤ 1099511627776 ∧ x = .int .i64 y ∧ i = .int .i64 k ∧ Hid (y = p2 k)) (fun _ i => n - (intOf i).toNat)
  case atStart => exact ⟨0, 1, by omega, by omega, rfl, rfl, rfl⟩
  case round =>
    obtain ⟨k, y, hk, hy, rfl, rfl, H⟩ := hrel
    by_cases hlt : k < n
    · have HN : Hid (2 * y = p2 (k + 1)) := by show _ = _; rw [p2_succ, H.out]
      have hy2 : 2 * y ≤ 1099511627776 := by
        rw [HN.out]
        exact p2_bd _ (by omega)
      go_wp2
      go_round
      case rel => exact ⟨k + 1, 2 * y, by omega, by omega, by go_num, by go_num, HN⟩
      case measure => simp [intOf]; omega
    · obtain rfl : k = n := by omega
      go_wp2
      go_ret
      exact ⟨ret_int (by rw [← H.out]), rfl⟩

theorem blen_half (n : Nat) (h : n ≠ 0) : Math.blen n = 1 + Math.blen (n / 2) := by
  unfold Math.blen
  rw [if_neg h]
  by_cases h2 : n / 2 = 0
  · rw [if_pos h2, show n = 1 by omega]
    rfl
  · rw [if_neg h2, show n.log2 = (n / 2).log2 + 1 from ?_]
    · omega
    · rw [Nat.log2_def, if_pos (by omega)]

theorem bitLen_is (x : Nat) (h : x < 2 ^ 64) : Lib.bitLen x = Math.blen x := by
  induction x using Nat.strongRecOn with
  | ind x ih =>
    by_cases h0 : x = 0
    · subst h0; rfl
    · rw [Lib.bitLen_half x h0 h, blen_half x h0, ih (x / 2) (by omega) (by omega)]

theorem blen_bd (n k : Nat) (h : n < 2 ^ k) : Math.blen n ≤ k := by
  unfold Math.blen
  by_cases h0 : n = 0
  · rw [if_pos h0]; omega
  · rw [if_neg h0]
    have := (Nat.log2_lt h0).2 h
    omega

theorem wrap_sum (a c : Nat) (ha : a ≤ 100) (hc : c < 32768) : wrap64 (wrap64 (a : Int) + (c : Int)) = ((a + c : Nat) : Int) := by
  unfold wrap64
  omega

theorem wrap_mask (a : Nat) (ha : a ≤ 16384) : wrap64 (wrap64 (a : Int) - 1) = (a : Int) - 1 := by
  unfold wrap64
  omega

theorem cast_mul_pow (m r : Nat) : (m : Int) * 2 ^ r = ((m * 2 ^ r : Nat) : Int) := by simp

theorem cast_div_pow (n m : Nat) : (n : Int) / 2 ^ m = ((n / 2 ^ m : Nat) : Int) := by simp

theorem cast_pow (m : Nat) : (2 : Int) ^ m = ((2 ^ m : Nat) : Int) := by simp

theorem mul_pow_bd (m r : Nat) (hr : r ≤ 2) (hm : m ≤ 14) : m * 2 ^ r ≤ 100 := by
  have h1 : 2 ^ r ≤ 2 ^ 2 := Nat.pow_le_pow_right (by omega) hr
  have h2 : m * 2 ^ r ≤ m * 4 := Nat.mul_le_mul_left _ h1
  omega

theorem code_num (n r m : Nat) (hn : n < 32768) (hr : r ≤ 2) (hm : m ≤ 14) (h : Math.nbits r n = m) : wrap64 (wrap64 ((m : Int) * 2 ^ r) + (n : Int) / 2 ^ m) = (Math.codeC r n : Int) := by
  rw [cast_mul_pow, cast_div_pow, wrap_sum _ _ (mul_pow_bd m r hr hm) (Nat.lt_of_le_of_lt (Nat.div_le_self _ _) hn)]
  unfold Math.codeC
  rw [h]

theorem code_told (n r m : Nat) (hn : n < 32768) (hm : m ≤ 14) (h : Math.nbits r n = m) : bits .and .i64 (n : Int) (wrap64 (wrap64 (2 ^ m) - 1)) = (Math.codeX r n : Int) := by
  have e2 : wrap64 (wrap64 ((2 : Int) ^ m) - 1) = (2 : Int) ^ m - 1 := by
    rw [cast_pow, wrap_mask _ (show 2 ^ m ≤ 2 ^ 14 from Nat.pow_le_pow_right (by omega) hm)]
  unfold Math.codeX
  rw [h, e2, Math.and_mask_i64 n m (by omega) (by omega)]

/-- What LenCode and BackCode answer. -/
def lenC (n : Int) : Int := if 3 ≤ n ∧ n ≤ 258 then if n = 258 then 285 else 257 + (Math.codeC 2 (n - 3).toNat : Int) else -1
def lenB (n : Int) : Int := if 3 ≤ n ∧ n ≤ 257 then (Math.nbits 2 (n - 3).toNat : Int) else 0
def lenX (n : Int) : Int := if 3 ≤ n ∧ n ≤ 257 then (Math.codeX 2 (n - 3).toNat : Int) else 0
def backC (d : Int) : Int := if 1 ≤ d ∧ d ≤ 32768 then (Math.codeC 1 (d - 1).toNat : Int) else -1
def backB (d : Int) : Int := if 1 ≤ d ∧ d ≤ 32768 then (Math.nbits 1 (d - 1).toNat : Int) else 0
def backX (d : Int) : Int := if 1 ≤ d ∧ d ≤ 32768 then (Math.codeX 1 (d - 1).toNat : Int) else 0

theorem len_no (n : Int) (h : ¬ (3 ≤ n ∧ n ≤ 258)) : lenC n = -1 ∧ lenB n = 0 ∧ lenX n = 0 := by
  unfold lenC lenB lenX
  rw [if_neg h, if_neg (by omega), if_neg (by omega)]
  exact ⟨rfl, rfl, rfl⟩

theorem len_top : lenC 258 = 285 ∧ lenB 258 = 0 ∧ lenX 258 = 0 := by
  unfold lenC lenB lenX
  simp

theorem len_yes (k : Nat) (h : k ≤ 254) : lenC ((k : Int) + 3) = 257 + (Math.codeC 2 k : Int) ∧ lenB ((k : Int) + 3) = (Math.nbits 2 k : Int) ∧ lenX ((k : Int) + 3) = (Math.codeX 2 k : Int) := by
  unfold lenC lenB lenX
  have e : ((k : Int) + 3 - 3).toNat = k := by omega
  rw [if_pos (by omega), if_neg (by omega), if_pos (by omega), if_pos (by omega), e]
  exact ⟨rfl, rfl, rfl⟩

theorem back_no (d : Int) (h : ¬ (1 ≤ d ∧ d ≤ 32768)) : backC d = -1 ∧ backB d = 0 ∧ backX d = 0 := by
  unfold backC backB backX
  rw [if_neg h, if_neg h, if_neg h]
  exact ⟨rfl, rfl, rfl⟩

theorem back_yes (k : Nat) (h : k ≤ 32767) : backC ((k : Int) + 1) = (Math.codeC 1 k : Int) ∧ backB ((k : Int) + 1) = (Math.nbits 1 k : Int) ∧ backX ((k : Int) + 1) = (Math.codeX 1 k : Int) := by
  unfold backC backB backX
  have e : ((k : Int) + 1 - 1).toNat = k := by omega
  rw [if_pos (by omega), if_pos (by omega), if_pos (by omega), e]
  exact ⟨rfl, rfl, rfl⟩

/-- Three numbers as a result. -/
abbrev t3 (a b c : Int) : Value := .tuple #[.int .i64 a, .int .i64 b, .int .i64 c]

end Pk
end Go.Proofs.Ytkhibgicejcmlam

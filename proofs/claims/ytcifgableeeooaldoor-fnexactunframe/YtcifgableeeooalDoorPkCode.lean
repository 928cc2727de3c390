/- Contracts of the codes of lengths and of ways back, of the program and of its model. -/
import Derived.Test.YtcifgableeeooalDoorPkRow
import Derived.Test.YtcifgableeeooalDoorMathPack
import Derived.Test.YtcifgableeeooalDoorMathBit
import Derived.Lib.BitFns
import Derived.Test.YtcifgableeeooalDoorShelf
namespace Go.Proofs.YtcifgableeeooalDoor
namespace Pk
open Go.ChangeShapes Go.WideShapes Go.ChangeAt Go.RowKit
set_option linter.unusedSimpArgs false
set_option linter.unusedVariables false

theorem in_is (x a b : Int) (c : Bool) (h : decide (a ≤ x ∧ x ≤ b) = c) (w : World) :
    Calls Tryd.prog 12 #[.int .i64 x, .int .i64 a, .int .i64 b] w fun e w' => e = .returned (.bool c) ∧ w' = w := by
  subst h
  by_cases h1 : a ≤ x <;> by_cases h2 : x ≤ b
  all_goals
    go_enter Tryd.func12, Tryd.ntmps12
    go_wp2
    go_ret
    exact ⟨by simp [h1, h2], rfl⟩

/-- A power of two. -/
def p2 (n : Nat) : Nat := 2 ^ n

theorem p2_pos (n : Nat) : 0 < p2 n := Nat.two_pow_pos n

theorem p2_succ (n : Nat) : p2 (n + 1) = 2 * p2 n := by unfold p2; rw [Nat.pow_succ, Nat.mul_comm]

theorem p2_le (n m : Nat) (h : n ≤ m) : p2 n ≤ p2 m := Nat.pow_le_pow_right (by omega) h

theorem p2_bd (n : Nat) (h : n ≤ 40) : p2 n ≤ 1099511627776 := p2_le n 40 h

theorem pow2_val (n : Nat) (w : World) (hn : n ≤ 40) :
    Calls Tryd.prog 22 #[.int .i64 n] w fun e w' => e = .returned (.int .i64 (p2 n)) ∧ w' = w := by
  go_enter Tryd.func22, Tryd.ntmps22
  go_wp2
  go_loop [3, 4] (fun x i => ∃ (k y : Nat), k ≤ n ∧ y ≤ 1099511627776 ∧ x = .int .i64 y ∧ i = .int .i64 k ∧ Hid (y = p2 k)) (fun _ i => n - (intOf i).toNat)
  case atStart => exact ⟨0, 1, by omega, by omega, rfl, rfl, rfl⟩
  case round =>
    obtain ⟨k, y, hk, hy, rfl, rfl, H⟩ := hrel
    by_cases hlt : k < n
    · have HN : Hid (2 * y = p2 (k + 1)) := by show _ = _; rw [p2_succ, H.out]
      have hy2 : 2 * y ≤ 1099511627776 := by
        rw [HN.out]
        exact p2_bd _ (by omega)
      go_wp2
      go_round
      case rel => exact ⟨k + 1, 2 * y, by omega, by omega, by go_num, by go_num, HN⟩
      case measure => simp [intOf]; omega
    · obtain rfl : k = n := by omega
      go_wp2
      go_ret
      exact ⟨ret_int (by rw [← H.out]), rfl⟩

theorem blen_half (n : Nat) (h : n ≠ 0) : Math.blen n = 1 + Math.blen (n / 2) := by
  unfold Math.blen
  rw [if_neg h]
  by_cases h2 : n / 2 = 0
  · rw [if_pos h2, show n = 1 by omega]
    rfl
  · rw [if_neg h2, show n.log2 = (n / 2).log2 + 1 from ?_]
    · omega
    · rw [Nat.log2_def, if_pos (by omega)]

theorem bitLen_is (x : Nat) (h : x < 2 ^ 64) : Lib.bitLen x = Math.blen x := by
  induction x using Nat.strongRecOn with
  | ind x ih =>
    by_cases h0 : x = 0
    · subst h0; rfl
    · rw [Lib.bitLen_half x h0 h, blen_half x h0, ih (x / 2) (by omega) (by omega)]

theorem blen_bd (n k : Nat) (h : n < 2 ^ k) : Math.blen n ≤ k := by
  unfold Math.blen
  by_cases h0 : n = 0
  · rw [if_pos h0]; omega
  · rw [if_neg h0]
    have := (Nat.log2_lt h0).2 h
    omega

theorem wrap_sum (a c : Nat) (ha : a ≤ 100) (hc : c < 32768) : wrap64 (wrap64 (a : Int) + (c : Int)) = ((a + c : Nat) : Int) := by
  unfold wrap64
  omega

theorem wrap_mask (a : Nat) (ha : a ≤ 16384) : wrap64 (wrap64 (a : Int) - 1) = (a : Int) - 1 := by
  unfold wrap64
  omega

theorem cast_mul_pow (m r : Nat) : (m : Int) * 2 ^ r = ((m * 2 ^ r : Nat) : Int) := by simp

theorem cast_div_pow (n m : Nat) : (n : Int) / 2 ^ m = ((n / 2 ^ m : Nat) : Int) := by simp

theorem cast_pow (m : Nat) : (2 : Int) ^ m = ((2 ^ m : Nat) : Int) := by simp

theorem mul_pow_bd (m r : Nat) (hr : r ≤ 2) (hm : m ≤ 14) : m * 2 ^ r ≤ 100 := by
  have h1 : 2 ^ r ≤ 2 ^ 2 := Nat.pow_le_pow_right (by omega) hr
  have h2 : m * 2 ^ r ≤ m * 4 := Nat.mul_le_mul_left _ h1
  omega

theorem code_num (n r m : Nat) (hn : n < 32768) (hr : r ≤ 2) (hm : m ≤ 14) (h : Math.nbits r n = m) : wrap64 (wrap64 ((m : Int) * 2 ^ r) + (n : Int) / 2 ^ m) = (Math.codeC r n : Int) := by
  rw [cast_mul_pow, cast_div_pow, wrap_sum _ _ (mul_pow_bd m r hr hm) (Nat.lt_of_le_of_lt (Nat.div_le_self _ _) hn)]
  unfold Math.codeC
  rw [h]

theorem code_told (n r m : Nat) (hn : n < 32768) (hm : m ≤ 14) (h : Math.nbits r n = m) : bits .and .i64 (n : Int) (wrap64 (wrap64 (2 ^ m) - 1)) = (Math.codeX r n : Int) := by
  have e2 : wrap64 (wrap64 ((2 : Int) ^ m) - 1) = (2 : Int) ^ m - 1 := by
    rw [cast_pow, wrap_mask _ (show 2 ^ m ≤ 2 ^ 14 from Nat.pow_le_pow_right (by omega) hm)]
  unfold Math.codeX
  rw [h, e2, Math.and_mask_i64 n m (by omega) (by omega)]

/-- What LenCode and BackCode answer. -/
def lenC (n : Int) : Int := if 3 ≤ n ∧ n ≤ 258 then if n = 258 then 285 else 257 + (Math.codeC 2 (n - 3).toNat : Int) else -1
def lenB (n : Int) : Int := if 3 ≤ n ∧ n ≤ 257 then (Math.nbits 2 (n - 3).toNat : Int) else 0
def lenX (n : Int) : Int := if 3 ≤ n ∧ n ≤ 257 then (Math.codeX 2 (n - 3).toNat : Int) else 0
def backC (d : Int) : Int := if 1 ≤ d ∧ d ≤ 32768 then (Math.codeC 1 (d - 1).toNat : Int) else -1
def backB (d : Int) : Int := if 1 ≤ d ∧ d ≤ 32768 then (Math.nbits 1 (d - 1).toNat : Int) else 0
def backX (d : Int) : Int := if 1 ≤ d ∧ d ≤ 32768 then (Math.codeX 1 (d - 1).toNat : Int) else 0

theorem len_no (n : Int) (h : ¬ (3 ≤ n ∧ n ≤ 258)) : lenC n = -1 ∧ lenB n = 0 ∧ lenX n = 0 := by
  unfold lenC lenB lenX
  rw [if_neg h, if_neg (by omega), if_neg (by omega)]
  exact ⟨rfl, rfl, rfl⟩

theorem len_top : lenC 258 = 285 ∧ lenB 258 = 0 ∧ lenX 258 = 0 := by
  unfold lenC lenB lenX
  simp

theorem len_yes (k : Nat) (h : k ≤ 254) : lenC ((k : Int) + 3) = 257 + (Math.codeC 2 k : Int) ∧ lenB ((k : Int) + 3) = (Math.nbits 2 k : Int) ∧ lenX ((k : Int) + 3) = (Math.codeX 2 k : Int) := by
  unfold lenC lenB lenX
  have e : ((k : Int) + 3 - 3).toNat = k := by omega
  rw [if_pos (by omega), if_neg (by omega), if_pos (by omega), if_pos (by omega), e]
  exact ⟨rfl, rfl, rfl⟩

theorem back_no (d : Int) (h : ¬ (1 ≤ d ∧ d ≤ 32768)) : backC d = -1 ∧ backB d = 0 ∧ backX d = 0 := by
  unfold backC backB backX
  rw [if_neg h, if_neg h, if_neg h]
  exact ⟨rfl, rfl, rfl⟩

theorem back_yes (k : Nat) (h : k ≤ 32767) : backC ((k : Int) + 1) = (Math.codeC 1 k : Int) ∧ backB ((k : Int) + 1) = (Math.nbits 1 k : Int) ∧ backX ((k : Int) + 1) = (Math.codeX 1 k : Int) := by
  unfold backC backB backX
  have e : ((k : Int) + 1 - 1).toNat = k := by omega
  rw [if_pos (by omega), if_pos (by omega), if_pos (by omega), e]
  exact ⟨rfl, rfl, rfl⟩

/-- Three numbers as a result. -/
abbrev t3 (a b c : Int) : Value := .tuple #[.int .i64 a, .int .i64 b, .int .i64 c]

theorem specLen_val (N : Int) (w : World) :
    Calls Tryd.prog 31 #[.int .i64 N] w fun e w' => e = .returned (t3 (lenC N) (lenB N) (lenX N)) ∧ w' = w := by
  by_cases h258 : N = 258
  · subst h258
    obtain ⟨e1, e2, e3⟩ := len_top
    rw [e1, e2, e3]
    go_enter Tryd.func31, Tryd.ntmps31
    go_wp2_with fail
    refine (in_is _ 3 258 true (by decide) _).mono ?_
    rintro e w1 ⟨rfl, rfl⟩
    go_wp2
    refine bodyPost_ret (v := t3 285 0 0) (by simp [results, Tryd.results31, go_sem]) rfl ⟨rfl, rfl⟩
  by_cases h : 3 ≤ N ∧ N ≤ 258
  · obtain ⟨n, hk⟩ := Int.eq_ofNat_of_zero_le (show 0 ≤ N - 3 by omega)
    have HI : Hid (_) := decide_eq_true h
    have hN : N ≤ 257 := by omega
    have hN3 : 3 ≤ N := h.1
    have h258' : (N == 258) = false := by rw [beq_eq_false_iff_ne]; exact h258
    clear h258
    have HN : Hid (N = (n : Int) + 3) := by show _ = _; omega
    have hl := len_yes n (by omega)
    rw [← HN.out] at hl
    have HL : Hid (_) := hl
    clear h hk hl
    go_enter Tryd.func31, Tryd.ntmps31
    go_wp2_with fail
    refine (in_is _ 3 258 true HI.out _).mono ?_
    rintro e w1 ⟨rfl, rfl⟩
    go_wp2
    go_loop [5, 6, 7] (fun c f b => ∃ (g a B : Int) (k : Nat), 257 ≤ g ∧ g ≤ 600 ∧ 3 ≤ a ∧ a ≤ N ∧ 0 ≤ B ∧ B ≤ 15 ∧ c = .int .i64 g ∧ f = .int .i64 a ∧ b = .int .i64 B ∧ Hid (g = k + 257 ∧ a = (Math.cleast 4 k : Int) + 3 ∧ B = (Math.cbits 4 k : Int) ∧ k ≤ Math.cleast 4 k)) (fun c _ _ => 600 - (intOf c).toNat)
    case atStart => exact ⟨257, 3, 0, 0, by omega, by omega, by omega, by omega, by omega, by omega, rfl, rfl, rfl, by simp [Hid, Math.cleast, Math.cbits]⟩
    case round =>
      obtain ⟨g, a, B, k, hg1, hg2, ha1, ha2, hB1, hB2, rfl, rfl, rfl, H⟩ := hrel
      obtain ⟨B, rfl⟩ := Int.eq_ofNat_of_zero_le hB1
      have hB : B ≤ 15 := by omega
      have hP := p2_pos B
      have hP2 := p2_bd B (by omega)
      have HP : Hid (∀ w, _) := fun w => pow2_val B w (by omega)
      have HS := Math.cleast_succ 4 k (by omega)
      have hbk : B = Math.cbits 4 k := by have := H.out.2.2.1; omega
      rw [← hbk] at HS
      have HS2 : Hid (Math.cleast 4 (k + 1) = Math.cleast 4 k + p2 B) := HS
      clear HS hbk
      generalize p2 B = Q at *
      by_cases hge : a + (Q : Int) ≤ N
      · have hk1 : k + 1 ≤ Math.cleast 4 (k + 1) ∧ Math.cleast 4 (k + 1) ≤ 254 := by
          have h1 := HS2.out
          have h2 := H.out
          have h3 := HN.out
          omega
        have hcb : Math.cbits 4 (k + 1) ≤ 15 := by
          apply Classical.byContradiction
          intro hn
          have h1 : Math.cleast 4 68 ≤ Math.cleast 4 (k + 1) := Math.cleast_mono 4 68 (k + 1) (by omega) (by unfold Math.cbits at hn; omega)
          have h2 : Math.cleast 4 68 = 262144 := by decide
          omega
        have HK : Hid (_) := hk1
        have hg3 : g + 1 ≤ 600 := by have h2 := H.out; omega
        clear hk1
        by_cases h4 : 265 ≤ g + 1
        · have hq : (Math.cbits 4 (k + 1) : Int) = (g + 1 - 261) / 4 := by have h2 := H.out; unfold Math.cbits; omega
          have HQ : Hid (_) := hq
          have hq2 : (g + 1 - 261) / 4 ≤ 15 := by omega
          clear hq hcb
          generalize hg' : g + 1 = G at *
          go_wp2_with (go_at_call 22; refine (HP.out _).mono ?_; rintro e w' ⟨rfl, rfl⟩)
          go_round
          case rel => exact ⟨G, a + Q, (G - 261) / 4, k + 1, by omega, by omega, by omega, by omega, by omega, by omega, by go_num, by go_num, by go_num, by have h1 := HS2.out; have h2 := H.out; have h3 := HQ.out; have h4 := HK.out; show _ ∧ _ ∧ _ ∧ _; omega⟩
          case measure => simp [intOf]; omega
        · have hq : Math.cbits 4 (k + 1) = 0 := by have h2 := H.out; unfold Math.cbits; omega
          have hb0 : B = 0 := by have h2 := H.out; unfold Math.cbits at h2; omega
          subst hb0
          have HQ : Hid (_) := hq
          clear hq hcb
          generalize hg' : g + 1 = G at *
          go_wp2_with (go_at_call 22; refine (HP.out _).mono ?_; rintro e w' ⟨rfl, rfl⟩)
          go_round
          case rel => exact ⟨G, a + Q, 0, k + 1, by omega, by omega, by omega, by omega, by omega, by omega, by go_num, by go_num, rfl, by have h1 := HS2.out; have h2 := H.out; have h3 := HQ.out; have h4 := HK.out; show _ ∧ _ ∧ _ ∧ _; omega⟩
          case measure => simp [intOf]; omega
      · have hc := Math.code_of 2 k n (by show Math.cleast 4 k ≤ n; have h2 := H.out; have h3 := HN.out; omega) (by show n < Math.cleast 4 k + 2 ^ Math.cbits 4 k; rw [← Math.cleast_succ 4 k (by omega), HS2.out]; have h2 := H.out; have h3 := HN.out; omega)
        have HC : Hid (lenC N = g ∧ lenB N = B ∧ lenX N = N - a) := by
          show _ ∧ _ ∧ _
          obtain ⟨l1, l2, l3⟩ := HL.out
          have h2 := H.out
          have h3 := HN.out
          have h4 : Math.cleast (2 ^ 2) k = Math.cleast 4 k := rfl
          have h5 : Math.cbits (2 ^ 2) k = Math.cbits 4 k := rfl
          rw [h4, h5] at hc
          refine ⟨?_, ?_, ?_⟩ <;> omega
        clear hc HS2
        go_wp2_with (go_at_call 22; refine (HP.out _).mono ?_; rintro e w' ⟨rfl, rfl⟩)
        refine bodyPost_ret (v := t3 (lenC N) (lenB N) (lenX N)) ?_ rfl ⟨rfl, rfl⟩
        rw [HC.out.1, HC.out.2.1, HC.out.2.2]
        simp [results, Tryd.results31, go_sem]
  · obtain ⟨e1, e2, e3⟩ := len_no N h
    rw [e1, e2, e3]
    have HI : Hid (_) := decide_eq_false h
    go_enter Tryd.func31, Tryd.ntmps31
    go_wp2_with fail
    refine (in_is _ 3 258 false HI.out _).mono ?_
    rintro e w1 ⟨rfl, rfl⟩
    go_wp2
    refine bodyPost_ret (v := t3 (-1) 0 0) (by simp [results, Tryd.results31, go_sem]) rfl ⟨rfl, rfl⟩

end Pk
end Go.Proofs.YtcifgableeeooalDoor

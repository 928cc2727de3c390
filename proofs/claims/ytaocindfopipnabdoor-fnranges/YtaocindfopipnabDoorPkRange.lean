/- What holds of the codes of lengths and of ways back; two rows of numbers held against each other. -/
import Derived.Test.YtaocindfopipnabDoorPkFix
import Derived.Test.YtaocindfopipnabDoorPkInts
namespace Go.Proofs.YtaocindfopipnabDoor
namespace Pk
open Go.ChangeShapes Go.WideShapes Go.ChangeAt Go.RowKit
set_option linter.unusedSimpArgs false
set_option linter.unusedVariables false

theorem code_bd (r k n K : Nat) (h1 : Math.cleast (2 ^ r) k ≤ n) (hK : n < Math.cleast (2 ^ r) K) : k < K := by
  apply Nat.lt_of_not_le
  intro h
  have := Math.cleast_mono (2 ^ r) K k (Nat.two_pow_pos r) h
  omega

/-- The numbers of a length's code. -/
theorem len_facts (n : Int) (h : 3 ≤ n ∧ n ≤ 258) : 257 ≤ lenC n ∧ lenC n ≤ 285 ∧ ∃ B : Nat, B ≤ 15 ∧ lenB n = B ∧ lenX n < (p2 B : Int) := by
  by_cases e : n = 258
  · subst e
    obtain ⟨e1, e2, e3⟩ := len_top
    rw [e1, e2, e3]
    exact ⟨by omega, by omega, 0, by omega, rfl, by decide⟩
  · obtain ⟨k, hk⟩ := Int.eq_ofNat_of_zero_le (show 0 ≤ n - 3 by omega)
    obtain rfl : n = (k : Int) + 3 := by omega
    obtain ⟨e1, e2, e3⟩ := len_yes k (by omega)
    obtain ⟨j, j1, j2⟩ := Math.code_at (2 ^ 2) k (by omega)
    obtain ⟨c1, c2, c3⟩ := Math.code_of 2 j k j1 j2
    have c28 : Math.cleast (2 ^ 2) 28 = 256 := by decide
    have hj : j < 28 := code_bd 2 j k 28 j1 (by omega)
    have hb : Math.cbits (2 ^ 2) j ≤ 15 := by unfold Math.cbits; omega
    rw [e1, e2, e3, c1, c2, c3]
    refine ⟨by omega, by omega, Math.cbits (2 ^ 2) j, hb, rfl, ?_⟩
    unfold p2
    omega

theorem len_next (n : Int) (h : 3 ≤ n ∧ n < 257) : lenC (n + 1) = lenC n ∨ lenC (n + 1) = lenC n + 1 := by
  obtain ⟨k, hk⟩ := Int.eq_ofNat_of_zero_le (show 0 ≤ n - 3 by omega)
  obtain rfl : n = (k : Int) + 3 := by omega
  obtain ⟨e1, -, -⟩ := len_yes k (by omega)
  obtain ⟨f1, -, -⟩ := len_yes (k + 1) (by omega)
  obtain ⟨j, j1, j2⟩ := Math.code_at (2 ^ 2) k (by omega)
  obtain ⟨c1, -, -⟩ := Math.code_of 2 j k j1 j2
  have e : ((k + 1 : Nat) : Int) + 3 = (k : Int) + 3 + 1 := by omega
  rw [e] at f1
  rw [e1, f1, c1]
  by_cases g : k + 1 < Math.cleast (2 ^ 2) j + 2 ^ Math.cbits (2 ^ 2) j
  · obtain ⟨d1, -, -⟩ := Math.code_of 2 j (k + 1) (by omega) g
    rw [d1]
    exact Or.inl rfl
  · have hs := Math.cleast_succ (2 ^ 2) j (by omega)
    have hp := Nat.two_pow_pos (Math.cbits (2 ^ 2) (j + 1))
    obtain ⟨d1, -, -⟩ := Math.code_of 2 (j + 1) (k + 1) (by omega) (by omega)
    rw [d1]
    right
    omega

theorem back_facts (d : Int) (h : 1 ≤ d ∧ d ≤ 32768) : 0 ≤ backC d ∧ backC d ≤ 29 ∧ ∃ B : Nat, B ≤ 15 ∧ backB d = B ∧ backX d < (p2 B : Int) := by
  obtain ⟨k, hk⟩ := Int.eq_ofNat_of_zero_le (show 0 ≤ d - 1 by omega)
  obtain rfl : d = (k : Int) + 1 := by omega
  obtain ⟨e1, e2, e3⟩ := back_yes k (by omega)
  obtain ⟨j, j1, j2⟩ := Math.code_at (2 ^ 1) k (by omega)
  obtain ⟨c1, c2, c3⟩ := Math.code_of 1 j k j1 j2
  have c30 : Math.cleast (2 ^ 1) 30 = 32768 := by decide
  have hj : j < 30 := code_bd 1 j k 30 j1 (by omega)
  have hb : Math.cbits (2 ^ 1) j ≤ 15 := by unfold Math.cbits; omega
  rw [e1, e2, e3, c1, c2, c3]
  refine ⟨by omega, by omega, Math.cbits (2 ^ 1) j, hb, rfl, ?_⟩
  unfold p2
  omega

theorem fixL_length (s : Int) : (fixL s).length ≤ 9 := by
  unfold fixL
  split
  · rw [Math.highL_length]; omega
  · split
    · rw [Math.highL_length]; omega
    · split
      · rw [Math.highL_length]; omega
      · split
        · rw [Math.highL_length]; omega
        · simp

theorem sameInts_same (B C : Nat) (u v : Value) (l : List Nat) (n : Nat) (w : World) (hn : n ≤ 1048576) (hl : l.length = n) (I : w.ownsRow B 3 1 u n (icells l)) (J : w.ownsRow C 3 1 v n (icells l)) :
    Calls Tryd.prog 28 #[u, v] w fun e w' => e = .returned (.bool true) ∧ Drawn w w' := by
  obtain ⟨ua, uc, rfl, -⟩ := own_form I
  obtain ⟨va, vc, rfl, -⟩ := own_form J
  go_enter Tryd.func28, Tryd.ntmps28
  go_wp2
  go_loopw [5] (fun i wr => ∃ (k m : Nat), k ≤ n ∧ i = .int .i64 k ∧ wr = w.drewN m) (fun i _ => n - (intOf i).toNat)
  case atStart => exact ⟨0, 0, by omega, rfl, rfl⟩
  case round =>
    obtain ⟨k, m, hk, rfl, rfl⟩ := hrel
    by_cases hkn : k < n
    · obtain ⟨x, xc, hxe, -, -, y, hy, hxc⟩ := own_at I k hkn
      obtain ⟨z, zc, hze, -, -, y2, hy2, hzc⟩ := own_at J k hkn
      simp only [Value.slice.injEq] at hxe hze
      obtain ⟨rfl, -, -⟩ := hxe
      obtain ⟨rfl, -, -⟩ := hze
      rw [icells_at l k (by omega)] at hy hy2
      simp only [Option.some.injEq] at hy hy2
      subst hy hy2
      generalize l[k] = y at *
      go_wp2
      go_quiet (fail)
      go_wp2
      go_roundw
      case rel => exact ⟨k + 1, m + nq, by omega, by go_num, rfl⟩
      case measure => simp [intOf]; omega
    · go_wp2
      go_ret
      exact ⟨rfl, m, rfl⟩

end Pk
end Go.Proofs.YtaocindfopipnabDoor

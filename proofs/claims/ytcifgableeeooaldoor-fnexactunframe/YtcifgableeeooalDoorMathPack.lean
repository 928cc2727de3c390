/- The mathematics of chapter 3: the codes of lengths and of ways back. -/
import Derived.Test.YtcifgableeeooalDoorRows
namespace Go.Proofs.YtcifgableeeooalDoor
namespace Math

/-- How many bits more the code k has, its runs R codes long. -/
def cbits (R k : Nat) : Nat := k / R - 1

/-- The least number of the code k. -/
def cleast (R k : Nat) : Nat := (k - cbits R k * R) * 2 ^ cbits R k

theorem cbits_mul_le (R k : Nat) : cbits R k * R ≤ k := by
  unfold cbits
  have h := Nat.div_mul_le_self k R
  have h2 : (k / R - 1) * R ≤ k / R * R := Nat.mul_le_mul_right R (Nat.sub_le _ _)
  omega

theorem cleast_succ (R k : Nat) (hR : 0 < R) : cleast R (k + 1) = cleast R k + 2 ^ cbits R k := by
  have hk := cbits_mul_le R k
  by_cases h : (k + 1) / R = k / R
  · have hb : cbits R (k + 1) = cbits R k := by unfold cbits; rw [h]
    unfold cleast
    rw [hb, show k + 1 - cbits R k * R = (k - cbits R k * R) + 1 by omega, Nat.add_mul, Nat.one_mul]
  · have hs := @Nat.succ_div k R
    have hd : R ∣ k + 1 := by
      apply Classical.byContradiction
      intro hn
      rw [if_neg hn] at hs
      exact h hs
    rw [if_pos hd] at hs
    obtain ⟨c, hc⟩ := hd
    have hq : (k + 1) / R = c := by rw [hc]; exact Nat.mul_div_cancel_left c hR
    have hq0 : k / R + 1 = c := by omega
    cases hcc : k / R with
    | zero =>
      have hb : cbits R k = 0 := by unfold cbits; omega
      have hb1 : cbits R (k + 1) = 0 := by unfold cbits; omega
      unfold cleast
      rw [hb, hb1]
      simp
    | succ q =>
      have hb : cbits R k = q := by unfold cbits; omega
      have hb1 : cbits R (k + 1) = q + 1 := by unfold cbits; omega
      have hc2 : c = q + 2 := by omega
      subst hc2
      unfold cleast
      rw [hb, hb1]
      have e1 : k + 1 - (q + 1) * R = R := by
        rw [hc, Nat.mul_comm R, show q + 2 = (q + 1) + 1 by omega, Nat.add_mul (q + 1) 1 R]
        omega
      have e2 : k - q * R + 1 = 2 * R := by
        have : R * (q + 2) = q * R + 2 * R := by rw [Nat.mul_comm R, Nat.add_mul]
        omega
      rw [e1, Nat.pow_succ]
      have e3 : (k - q * R) * 2 ^ q + 2 ^ q = (k - q * R + 1) * 2 ^ q := by rw [Nat.add_mul, Nat.one_mul]
      rw [e3, e2, Nat.mul_comm (2 ^ q) 2, ← Nat.mul_assoc, Nat.mul_comm R 2]

/-- The number of bits of a number. -/
def blen (n : Nat) : Nat := if n = 0 then 0 else n.log2 + 1

theorem blen_spec (n : Nat) : n < 2 ^ blen n ∧ (n ≠ 0 → 2 ^ (blen n - 1) ≤ n) := by
  unfold blen
  split
  · subst_vars; simp
  · rename_i h; exact ⟨Nat.lt_log2_self, fun _ => by simpa using Nat.log2_self_le h⟩

/-- How many bits more a number's code has. -/
def nbits (r n : Nat) : Nat := blen n - 1 - r

/-- A number that lies with the code k has its bits. -/
theorem nbits_of (r k n : Nat) (h1 : cleast (2 ^ r) k ≤ n) (h2 : n < cleast (2 ^ r) k + 2 ^ cbits (2 ^ r) k) :
    nbits r n = cbits (2 ^ r) k ∧ n / 2 ^ cbits (2 ^ r) k = k - cbits (2 ^ r) k * 2 ^ r ∧ n % 2 ^ cbits (2 ^ r) k = n - cleast (2 ^ r) k := by
  have hR : 0 < 2 ^ r := Nat.two_pow_pos r
  have hp : 0 < 2 ^ cbits (2 ^ r) k := Nat.two_pow_pos _
  have hk := cbits_mul_le (2 ^ r) k
  have hdm := Nat.div_add_mod k (2 ^ r)
  have hml := Nat.mod_lt k hR
  have e : n / 2 ^ cbits (2 ^ r) k = k - cbits (2 ^ r) k * 2 ^ r := by
    unfold cleast at h1 h2
    rw [Nat.div_eq_iff hp]
    omega
  refine ⟨?_, e, ?_⟩
  · have hsp := blen_spec n
    unfold nbits
    by_cases hb : cbits (2 ^ r) k = 0
    · have hn : n = k := by
        unfold cleast at h1 h2
        rw [hb] at h1 h2
        simp at h1 h2
        omega
      have hk2 : k < 2 ^ (r + 1) := by
        unfold cbits at hb
        have : k / 2 ^ r ≤ 1 := by omega
        have : 2 ^ r * (k / 2 ^ r) ≤ 2 ^ r * 1 := Nat.mul_le_mul_left _ this
        rw [Nat.pow_succ]
        omega
      rw [hb]
      subst hn
      apply Nat.sub_eq_zero_of_le
      by_cases h0 : n = 0
      · subst h0; simp [blen]
      · have h3 := hsp.2 h0
        have h4 : 2 ^ (blen n - 1) < 2 ^ (r + 1) := Nat.lt_of_le_of_lt h3 hk2
        have := (Nat.pow_lt_pow_iff_right (by omega : 1 < 2)).1 h4
        omega
    · generalize hbb : cbits (2 ^ r) k = b at *
      have hkq : k / 2 ^ r = b + 1 := by unfold cbits at hbb; omega
      have hq1 : 2 ^ r ≤ k - b * 2 ^ r ∧ k - b * 2 ^ r < 2 * 2 ^ r := by
        rw [hkq] at hdm
        have : 2 ^ r * (b + 1) = b * 2 ^ r + 2 ^ r := by rw [Nat.mul_add, Nat.mul_one, Nat.mul_comm]
        omega
      have hlo : 2 ^ (r + b) ≤ n := by
        have : 2 ^ r * 2 ^ b ≤ (k - b * 2 ^ r) * 2 ^ b := Nat.mul_le_mul_right _ hq1.1
        rw [Nat.pow_add]
        unfold cleast at h1
        rw [hbb] at h1
        omega
      have hhi : n < 2 ^ (r + b + 1) := by
        have h5 : (k - b * 2 ^ r + 1) * 2 ^ b ≤ 2 * 2 ^ r * 2 ^ b := Nat.mul_le_mul_right _ (by omega)
        rw [Nat.add_mul, Nat.one_mul] at h5
        have h6 : 2 * 2 ^ r * 2 ^ b = 2 ^ (r + b + 1) := by rw [Nat.pow_succ, Nat.pow_add, Nat.mul_assoc, Nat.mul_comm]
        unfold cleast at h2
        rw [hbb] at h2
        omega
      have hn0 : n ≠ 0 := by have := Nat.two_pow_pos (r + b); omega
      have hlog : n.log2 = r + b := (Nat.log2_eq_iff hn0).2 ⟨hlo, hhi⟩
      unfold blen
      rw [if_neg hn0, hlog]
      omega
  · have hdm2 := Nat.div_add_mod n (2 ^ cbits (2 ^ r) k)
    rw [e] at hdm2
    unfold cleast
    rw [Nat.mul_comm] at hdm2
    omega

/-- The code of a number, how many bits more it has, and what they tell. -/
def codeC (r n : Nat) : Nat := nbits r n * 2 ^ r + n / 2 ^ nbits r n
def codeX (r n : Nat) : Nat := n % 2 ^ nbits r n

theorem code_of (r k n : Nat) (h1 : cleast (2 ^ r) k ≤ n) (h2 : n < cleast (2 ^ r) k + 2 ^ cbits (2 ^ r) k) :
    codeC r n = k ∧ nbits r n = cbits (2 ^ r) k ∧ codeX r n = n - cleast (2 ^ r) k := by
  obtain ⟨a, b, c⟩ := nbits_of r k n h1 h2
  have hk := cbits_mul_le (2 ^ r) k
  refine ⟨?_, a, by unfold codeX; rw [a]; exact c⟩
  unfold codeC
  rw [a, b]
  omega

theorem cleast_mono (R a b : Nat) (hR : 0 < R) (h : a ≤ b) : cleast R a ≤ cleast R b := by
  induction b with
  | zero => rw [show a = 0 by omega]; exact Nat.le_refl _
  | succ b ih =>
    by_cases e : a = b + 1
    · subst e; exact Nat.le_refl _
    · have := ih (by omega)
      rw [cleast_succ R b hR]
      exact Nat.le_trans this (Nat.le_add_right _ _)

/-- Every number lies with a code. -/
theorem code_at (R n : Nat) (hR : 0 < R) : ∃ k, cleast R k ≤ n ∧ n < cleast R k + 2 ^ cbits R k := by
  induction n with
  | zero => exact ⟨0, by simp [cleast], Nat.lt_of_lt_of_le (Nat.two_pow_pos _) (Nat.le_add_left _ _)⟩
  | succ n ih =>
    obtain ⟨k, h1, h2⟩ := ih
    by_cases h : n + 1 < cleast R k + 2 ^ cbits R k
    · exact ⟨k, by omega, h⟩
    · refine ⟨k + 1, ?_, ?_⟩
      · rw [cleast_succ R k hR]; omega
      · rw [cleast_succ R k hR]
        have := Nat.two_pow_pos (cbits R (k + 1))
        omega

end Math
end Go.Proofs.YtcifgableeeooalDoor

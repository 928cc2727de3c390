/- The program's bytesOfSigns: bytes out of signs. -/
import Derived.Test.YtkhibgicejcmlamSqHeart2
namespace Go.Proofs.Ytkhibgicejcmlam
namespace Sq
open Go.ChangeShapes Go.WideShapes Go.ChangeAt Go.RowKit
set_option linter.unusedSimpArgs false
set_option linter.unusedVariables false

/-- The number of the first n bits of byte j. -/
def bv (f : Nat → Nat) (j : Nat) : Nat → Nat
  | 0 => 0
  | n + 1 => 2 * bv f j n + f (8 * j + n)

theorem bv_lt {f : Nat → Nat} (hf : ∀ i, f i ≤ 1) (j n : Nat) : bv f j n < 2 ^ n := by
  induction n with
  | zero => show 0 < 1; omega
  | succ n ih =>
    have := hf (8 * j + n)
    rw [bv, Nat.pow_succ]
    omega

/-- The cells behind i bits. -/
def bsF (f : Nat → Nat) (i j : Nat) : Value := .int .u8 (bv f j (min 8 (i - 8 * j)) : Nat)

theorem bsF_zero (f : Nat → Nat) (j : Nat) : bsF f 0 j = .int .u8 0 := by
  unfold bsF
  rw [show min 8 (0 - 8 * j) = 0 from by omega]
  rfl

theorem bsF_now (f : Nat → Nat) (i : Nat) : bsF f i (i / 8) = .int .u8 (bv f (i / 8) (i % 8) : Nat) := by
  unfold bsF
  rw [show min 8 (i - 8 * (i / 8)) = i % 8 from by omega]

theorem bsF_step (f : Nat → Nat) (i j : Nat) : bsF f (i + 1) j = if j = i / 8 then .int .u8 ((2 * bv f (i / 8) (i % 8) + f i : Nat) : Int) else bsF f i j := by
  unfold bsF
  by_cases e : j = i / 8
  · rw [if_pos e, e, show min 8 (i + 1 - 8 * (i / 8)) = i % 8 + 1 from by omega, bv, show 8 * (i / 8) + i % 8 = i from by omega]
  · rw [if_neg e, show min 8 (i + 1 - 8 * j) = min 8 (i - 8 * j) from by omega]

theorem or_bit : ∀ x : Fin 128, ∀ b : Fin 2, bits .or .u8 ((2 * x.val : Nat) : Int) ((b.val : Nat) : Int) = ((2 * x.val + b.val : Nat) : Int) := by decide +kernel

theorem or_bits (x b : Nat) (hx : x < 128) (hb : b ≤ 1) : bits .or .u8 ((2 * x : Nat) : Int) (b : Int) = ((2 * x + b : Nat) : Int) := or_bit ⟨x, hx⟩ ⟨b, by omega⟩

/-- The bits that signs say. -/
def sbit (t : ByteArray) (i : Nat) : Nat := if (tb t i).toNat = 49 then 1 else 0

theorem sbit_le (t : ByteArray) (i : Nat) : sbit t i ≤ 1 := by unfold sbit; split <;> omega

set_option maxRecDepth 100000 in
set_option maxHeartbeats 4000000 in
theorem bytesOf_val (t : ByteArray) (w : World) (h8 : 8 ≤ t.size) (hs : t.size ≤ 4000) (hb : ∀ i, i < t.size → (tb t i).toNat = 48 ∨ (tb t i).toNat = 49) :
    Calls Try.prog 46 #[.string t] w fun e w' => e = .returned (.string (strT (t.size / 8) (fun j => UInt8.ofNat (bv (sbit t) j 8)))) ∧ Below w.heap.size w w' := by
  obtain ⟨c, hc⟩ : ∃ c, t.size / 8 = c := ⟨_, rfl⟩
  rw [hc]
  have hmk := make_run 50 5 _ 1 c Try.underlying50 info_u8' rfl (by omega) (by omega)
  have K := Pk.new_below w (.cells (tab c (fun _ => .int .u8 0)) 5)
  have G := Pk.heap_new w (.cells (tab c (fun _ => .int .u8 0)) 5)
  have hq : Int.tdiv (t.size : Int) 8 = (c : Int) := by rw [Int.tdiv_eq_ediv_of_nonneg (by omega)]; omega
  have hq2 : (t.size : Int) / 8 = (c : Int) := by omega
  have HT : Hid (_) := hc
  clear hc
  go_enter Try.func46, Try.ntmps46
  go_wp2
  generalize w.alloc (.cells (tab c (fun _ => .int .u8 0)) 5) = w3 at *
  have R0 : Run w.heap.size w w3 w3 w.heap.size c (bsF (sbit t) 0) := Run.start K (Pk.lt_of G) (Nat.le_refl _) ((Cl.of_tab G).congr (fun j _ => bsF_zero _ _))
  clear G K
  have h8c : 8 * c ≤ t.size := by have := HT.out; omega
  go_loopw [12] (fun i wr => ∃ k : Nat, k ≤ 8 * c ∧ i = .int .i64 k ∧ Run w.heap.size w w3 wr w.heap.size c (bsF (sbit t) k)) (fun i _ => 8 * c - (intOf i).toNat)
  case atStart => exact ⟨0, by omega, rfl, R0⟩
  case round =>
    clear R0
    obtain ⟨k, hk, rfl, R⟩ := hrel
    by_cases hlt : k < 8 * c
    · have J : k / 8 < c := by omega
      have hkS : k < t.size := by omega
      have r0 := (R.row (k / 8) J).1
      have r1 := (R.row (k / 8) J).2
      have XS : Hid (∀ j, j < c → _) := fun j _ => bsF_step (sbit t) k j
      rw [bsF_now] at r0
      have hx : bv (sbit t) (k / 8) (k % 8) < 128 := by
        have h1 := bv_lt (sbit_le t) (k / 8) (k % 8)
        have h2 : 2 ^ (k % 8) ≤ 2 ^ 7 := Nat.pow_le_pow_right (by omega) (by omega)
        omega
      have hbt := hb k hkS
      have htb : tb t k = t[k] := getD_at t k hkS
      have hsb : ((sbit t k : Nat) : Int) = (t[k].toNat : Int) - 48 := by
        unfold sbit
        rw [htb] at hbt ⊢
        rcases hbt with e | e <;> rw [e] <;> rfl
      have hob := or_bits _ _ hx (sbit_le t k)
      have hq3 : Int.tdiv (k : Int) 8 = ((k / 8 : Nat) : Int) := by rw [Int.tdiv_eq_ediv_of_nonneg (by omega)]; omega
      have hq4 : (k : Int) / 8 = ((k / 8 : Nat) : Int) := by omega
      rw [hsb] at hob
      rw [htb] at hbt
      generalize bv (sbit t) (k / 8) (k % 8) = x at *
      generalize k / 8 = k8 at *
      have hkI : (k : Int) < (t.size : Int) := by omega
      have hkI2 : (k : Int) < 8 * (c : Int) := by omega
      have hkI3 : (k : Int) < (c : Int) * 8 := by omega
      have hjI : (k8 : Int) < (c : Int) := by omega
      go_wp2
      go_region
      all_goals
        go_wp2
        go_roundw
        case rel =>
          refine ⟨k + 1, by omega, by go_num, ?_⟩
          rw [show ((x : Int) * 2) = ((2 * x : Nat) : Int) from by omega, hob]
          first | exact R.set k8 _ XS.out | exact R.drew.set k8 _ XS.out | exact (R.set k8 _ XS.out).drew
        case measure => simp [intOf]; omega
    · obtain rfl : k = 8 * c := by omega
      have hcv := R.row.text (cap := c) (b := fun j => UInt8.ofNat (bv (sbit t) j 8)) (fun j hj => by
        unfold bsF
        rw [show min 8 (8 * c - 8 * j) = 8 from by omega, UInt8.toNat_ofNat', Nat.mod_eq_of_lt (bv_lt (sbit_le t) j 8)])
      have LL := R.below
      go_wp2
      go_ret
      exact ⟨rfl, LL⟩

end Sq
end Go.Proofs.Ytkhibgicejcmlam

/- Numbers that the program reads off bits, the lowest first or the highest first. -/
import Derived.Test.YtcifgableeeooalDoorUnBitI
namespace Go.Proofs.YtcifgableeeooalDoor
namespace Pk
open Go.ChangeShapes Go.WideShapes Go.ChangeAt Go.RowKit
open Math (bitAt lowAt topAt symAt symLen)
set_option linter.unusedSimpArgs false
set_option linter.unusedVariables false

theorem pow_30 (k : Nat) (h : k ≤ 30) : 2 ^ k ≤ 1073741824 := Nat.le_trans (Nat.pow_le_pow_right (by omega) h) (by decide)

theorem wrap_pow (b k : Nat) (hb : b ≤ 1) (h : k ≤ 30) : wrap64 ((b : Int) * 2 ^ k) = ((b * 2 ^ k : Nat) : Int) := by
  have hp := pow_30 k h
  have e : ((b : Int) * 2 ^ k) = ((b * 2 ^ k : Nat) : Int) := by rw [Int.natCast_mul, Int.natCast_pow]; rfl
  have h2 : b * 2 ^ k ≤ 1 * 2 ^ k := Nat.mul_le_mul_right _ hb
  rw [e]
  generalize b * 2 ^ k = q at *
  unfold wrap64
  omega

theorem or_low (y b k : Nat) (hy : y < 2 ^ k) (hb : b ≤ 1) (h : k ≤ 30) : bits .or .i64 (y : Int) (wrap64 ((b : Int) * 2 ^ k)) = ((y + b * 2 ^ k : Nat) : Int) := by
  have hp := pow_30 k h
  have h2 : b * 2 ^ k ≤ 1 * 2 ^ k := Nat.mul_le_mul_right _ hb
  rw [wrap_pow b k hb h, Math.bits_or_i64 y (b * 2 ^ k) (by omega) (by omega), Nat.or_comm, Nat.mul_comm b, ← Nat.two_pow_add_eq_or_of_lt hy, Nat.add_comm]

theorem or_top (y b k : Nat) (hy : y < 2 ^ k) (hb : b ≤ 1) (h : k ≤ 30) : bits .or .i64 (wrap64 ((y : Int) * 2)) (b : Int) = ((2 * y + b : Nat) : Int) := by
  have hp := pow_30 k h
  have e : wrap64 ((y : Int) * 2) = ((2 ^ 1 * y : Nat) : Int) := by unfold wrap64; omega
  rw [e, Math.bits_or_i64 (2 ^ 1 * y) b (by omega) (by omega), ← Nat.two_pow_add_eq_or_of_lt (by omega)]

theorem low_lt (y b k : Nat) (hy : y < 2 ^ k) (hb : b ≤ 1) : y + b * 2 ^ k < 2 ^ (k + 1) := by
  have h2 : b * 2 ^ k ≤ 1 * 2 ^ k := Nat.mul_le_mul_right _ hb
  rw [Nat.pow_succ]
  omega

set_option maxRecDepth 100000 in
set_option maxHeartbeats 1000000 in
theorem lowI_ok (B c : Nat) (s : ByteArray) (a n : Nat) (v : Value) (w : World) (hs : s.size ≤ 100000) (hB : B ≤ c) (hn : n ≤ 30) (ha : a + n ≤ 8 * s.size) (H : RdI c s a v w) :
    Calls Tryd.prog 36 #[.pointer (some ⟨c, 0, none⟩), .int .i64 n] w fun e w' => e = .returned (.int .i64 (lowAt s a n : Nat)) ∧ RdI c s (a + n) v w' ∧ Mv c w w' ∧ Below B w w' := by
  have hnI : (n : Int) ≤ 30 := by omega
  go_enter Tryd.func36, Tryd.ntmps36
  go_wp2
  go_loopw [5, 8] (fun x i wr => ∃ (k y : Nat), k ≤ n ∧ y < 2 ^ k ∧ x = .int .i64 y ∧ i = .int .i64 k ∧ Hid (y = lowAt s a k) ∧ Hid (RdI c s (a + k) v wr) ∧ Hid (Mv c w wr) ∧ Hid (Below B w wr)) (fun _ i _ => n - (intOf i).toNat)
  case atStart => exact ⟨0, 0, by omega, by simp, rfl, rfl, rfl, H, Mv.refl _ _, Below.refl _ _⟩
  case round =>
    obtain ⟨k, y, hk, hy, rfl, rfl, HY, R, M, L⟩ := hrel
    by_cases hlt : k < n
    · have hkI : (k : Int) < (n : Int) := by omega
      have HB : Hid (∀ _ : Unit, _) := fun _ => bitI_ok B c s (a + k) v wr hs hB (by omega) R.out
      have hb := Math.bitAt_le s (a + k)
      have HYN : Hid (lowAt s a (k + 1) = lowAt s a k + bitAt s (a + k) * 2 ^ k) := rfl
      generalize bitAt s (a + k) = b at *
      have HOR : Hid (_) := or_low y b k hy hb (by omega)
      have hk0 : (0 : Int) ≤ (k : Int) := by omega
      have hk64 : (k : Int) < 64 := by omega
      have hkt : ((k : Int)).toNat = k := by omega
      go_wp2_with fail
      refine (HB.out ()).mono ?_
      rintro e w2 ⟨rfl, R2, M2, L2⟩
      have R3 : RdI c s (a + (k + 1)) v w2 := R2
      have M3 := M.out.trans M2
      have L3 := L.out.trans L2
      have HYK : Hid ((y + b * 2 ^ k) < 2 ^ (k + 1)) := low_lt y b k hy hb
      go_wp2
      go_roundw
      case rel => exact ⟨k + 1, (y + b * 2 ^ k), by omega, HYK.out, by rw [HOR.out], by go_num, by show _ = _; rw [HYN.out, ← HY.out], R3, M3, L3⟩
      case measure => simp [intOf]; omega
    · obtain rfl : k = n := by omega
      have hkI : ¬ (k : Int) < (k : Int) := by omega
      go_wp2
      go_ret
      exact ⟨by rw [← HY.out] <;> rfl, R.out, M.out, L.out⟩

set_option maxRecDepth 100000 in
set_option maxHeartbeats 1000000 in
theorem lowI_cut (B c : Nat) (s : ByteArray) (a n : Nat) (v : Value) (w : World) (hs : s.size ≤ 100000) (hB : B ≤ c) (hn : n ≤ 30) (ha0 : a ≤ 8 * s.size) (ha : 8 * s.size < a + n) (H : RdI c s a v w) :
    Calls Tryd.prog 36 #[.pointer (some ⟨c, 0, none⟩), .int .i64 n] w fun e w' => e = fault 1 ∧ Mv c w w' ∧ Below B w w' := by
  have hnI : (n : Int) ≤ 30 := by omega
  go_enter Tryd.func36, Tryd.ntmps36
  go_wp2
  go_loopw [5, 8] (fun x i wr => ∃ (k y : Nat), a + k ≤ 8 * s.size ∧ y < 2 ^ k ∧ x = .int .i64 y ∧ i = .int .i64 k ∧ Hid (y = lowAt s a k) ∧ Hid (RdI c s (a + k) v wr) ∧ Hid (Mv c w wr) ∧ Hid (Below B w wr)) (fun _ i _ => n - (intOf i).toNat)
  case atStart => exact ⟨0, 0, by omega, by simp, rfl, rfl, rfl, H, Mv.refl _ _, Below.refl _ _⟩
  case round =>
    obtain ⟨k, y, hk, hy, rfl, rfl, HY, R, M, L⟩ := hrel
    have hkI : (k : Int) < (n : Int) := by omega
    by_cases hlt : a + k < 8 * s.size
    · skip
      have HB : Hid (∀ _ : Unit, _) := fun _ => bitI_ok B c s (a + k) v wr hs hB (by omega) R.out
      have hb := Math.bitAt_le s (a + k)
      have HYN : Hid (lowAt s a (k + 1) = lowAt s a k + bitAt s (a + k) * 2 ^ k) := rfl
      generalize bitAt s (a + k) = b at *
      have HOR : Hid (_) := or_low y b k hy hb (by omega)
      have hk0 : (0 : Int) ≤ (k : Int) := by omega
      have hk64 : (k : Int) < 64 := by omega
      have hkt : ((k : Int)).toNat = k := by omega
      go_wp2_with fail
      refine (HB.out ()).mono ?_
      rintro e w2 ⟨rfl, R2, M2, L2⟩
      have R3 : RdI c s (a + (k + 1)) v w2 := R2
      have M3 := M.out.trans M2
      have L3 := L.out.trans L2
      have HYK : Hid ((y + b * 2 ^ k) < 2 ^ (k + 1)) := low_lt y b k hy hb
      go_wp2
      go_roundw
      case rel => exact ⟨k + 1, (y + b * 2 ^ k), by omega, HYK.out, by rw [HOR.out], by go_num, by show _ = _; rw [HYN.out, ← HY.out], R3, M3, L3⟩
      case measure => simp [intOf]; omega
    · have HB : Hid (∀ _ : Unit, _) := fun _ => bitI_cut B c s v wr hs hB (by have := R.out; rw [show a + k = 8 * s.size from by omega] at this; exact this)
      go_wp2_with fail
      refine (HB.out ()).mono ?_
      rintro e w2 ⟨rfl, M2, L2⟩
      have M3 := M.out.trans M2
      have L3 := L.out.trans L2
      go_wp2
      exact ⟨rfl, rfl, M3, L3⟩

set_option maxRecDepth 100000 in
set_option maxHeartbeats 1000000 in
theorem topI_ok (B c : Nat) (s : ByteArray) (a n : Nat) (v : Value) (w : World) (hs : s.size ≤ 100000) (hB : B ≤ c) (hn : n ≤ 30) (ha : a + n ≤ 8 * s.size) (H : RdI c s a v w) :
    Calls Tryd.prog 44 #[.pointer (some ⟨c, 0, none⟩), .int .i64 n] w fun e w' => e = .returned (.int .i64 (topAt s a n : Nat)) ∧ RdI c s (a + n) v w' ∧ Mv c w w' ∧ Below B w w' := by
  have hnI : (n : Int) ≤ 30 := by omega
  go_enter Tryd.func44, Tryd.ntmps44
  go_wp2
  go_loopw [5, 7] (fun x i wr => ∃ (k y : Nat), k ≤ n ∧ y < 2 ^ k ∧ x = .int .i64 y ∧ i = .int .i64 k ∧ Hid (y = topAt s a k) ∧ Hid (RdI c s (a + k) v wr) ∧ Hid (Mv c w wr) ∧ Hid (Below B w wr)) (fun _ i _ => n - (intOf i).toNat)
  case atStart => exact ⟨0, 0, by omega, by simp, rfl, rfl, rfl, H, Mv.refl _ _, Below.refl _ _⟩
  case round =>
    obtain ⟨k, y, hk, hy, rfl, rfl, HY, R, M, L⟩ := hrel
    by_cases hlt : k < n
    · have hkI : (k : Int) < (n : Int) := by omega
      have HB : Hid (∀ _ : Unit, _) := fun _ => bitI_ok B c s (a + k) v wr hs hB (by omega) R.out
      have hb := Math.bitAt_le s (a + k)
      have HYN : Hid (topAt s a (k + 1) = 2 * topAt s a k + bitAt s (a + k)) := rfl
      generalize bitAt s (a + k) = b at *
      have HOR : Hid (_) := or_top y b k hy hb (by omega)
      have hk0 : (0 : Int) ≤ (k : Int) := by omega
      have hk64 : (k : Int) < 64 := by omega
      have hkt : ((k : Int)).toNat = k := by omega
      go_wp2_with fail
      refine (HB.out ()).mono ?_
      rintro e w2 ⟨rfl, R2, M2, L2⟩
      have R3 : RdI c s (a + (k + 1)) v w2 := R2
      have M3 := M.out.trans M2
      have L3 := L.out.trans L2
      have HYK : Hid ((2 * y + b) < 2 ^ (k + 1)) := by show _ < _; rw [Nat.pow_succ]; omega
      go_wp2
      go_roundw
      case rel => exact ⟨k + 1, (2 * y + b), by omega, HYK.out, by rw [HOR.out], by go_num, by show _ = _; rw [HYN.out, ← HY.out], R3, M3, L3⟩
      case measure => simp [intOf]; omega
    · obtain rfl : k = n := by omega
      have hkI : ¬ (k : Int) < (k : Int) := by omega
      go_wp2
      go_ret
      exact ⟨by rw [← HY.out] <;> rfl, R.out, M.out, L.out⟩

set_option maxRecDepth 100000 in
set_option maxHeartbeats 1000000 in
theorem topI_cut (B c : Nat) (s : ByteArray) (a n : Nat) (v : Value) (w : World) (hs : s.size ≤ 100000) (hB : B ≤ c) (hn : n ≤ 30) (ha0 : a ≤ 8 * s.size) (ha : 8 * s.size < a + n) (H : RdI c s a v w) :
    Calls Tryd.prog 44 #[.pointer (some ⟨c, 0, none⟩), .int .i64 n] w fun e w' => e = fault 1 ∧ Mv c w w' ∧ Below B w w' := by
  have hnI : (n : Int) ≤ 30 := by omega
  go_enter Tryd.func44, Tryd.ntmps44
  go_wp2
  go_loopw [5, 7] (fun x i wr => ∃ (k y : Nat), a + k ≤ 8 * s.size ∧ y < 2 ^ k ∧ x = .int .i64 y ∧ i = .int .i64 k ∧ Hid (y = topAt s a k) ∧ Hid (RdI c s (a + k) v wr) ∧ Hid (Mv c w wr) ∧ Hid (Below B w wr)) (fun _ i _ => n - (intOf i).toNat)
  case atStart => exact ⟨0, 0, by omega, by simp, rfl, rfl, rfl, H, Mv.refl _ _, Below.refl _ _⟩
  case round =>
    obtain ⟨k, y, hk, hy, rfl, rfl, HY, R, M, L⟩ := hrel
    have hkI : (k : Int) < (n : Int) := by omega
    by_cases hlt : a + k < 8 * s.size
    · skip
      have HB : Hid (∀ _ : Unit, _) := fun _ => bitI_ok B c s (a + k) v wr hs hB (by omega) R.out
      have hb := Math.bitAt_le s (a + k)
      have HYN : Hid (topAt s a (k + 1) = 2 * topAt s a k + bitAt s (a + k)) := rfl
      generalize bitAt s (a + k) = b at *
      have HOR : Hid (_) := or_top y b k hy hb (by omega)
      have hk0 : (0 : Int) ≤ (k : Int) := by omega
      have hk64 : (k : Int) < 64 := by omega
      have hkt : ((k : Int)).toNat = k := by omega
      go_wp2_with fail
      refine (HB.out ()).mono ?_
      rintro e w2 ⟨rfl, R2, M2, L2⟩
      have R3 : RdI c s (a + (k + 1)) v w2 := R2
      have M3 := M.out.trans M2
      have L3 := L.out.trans L2
      have HYK : Hid ((2 * y + b) < 2 ^ (k + 1)) := by show _ < _; rw [Nat.pow_succ]; omega
      go_wp2
      go_roundw
      case rel => exact ⟨k + 1, (2 * y + b), by omega, HYK.out, by rw [HOR.out], by go_num, by show _ = _; rw [HYN.out, ← HY.out], R3, M3, L3⟩
      case measure => simp [intOf]; omega
    · have HB : Hid (∀ _ : Unit, _) := fun _ => bitI_cut B c s v wr hs hB (by have := R.out; rw [show a + k = 8 * s.size from by omega] at this; exact this)
      go_wp2_with fail
      refine (HB.out ()).mono ?_
      rintro e w2 ⟨rfl, M2, L2⟩
      have M3 := M.out.trans M2
      have L3 := L.out.trans L2
      go_wp2
      exact ⟨rfl, rfl, M3, L3⟩

end Pk
end Go.Proofs.YtcifgableeeooalDoor

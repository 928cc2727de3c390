/- The helpers of the program's Paint (begun). -/
import Derived.Test.YtkhibgicejcmlamSqPaintS
namespace Go.Proofs.Ytkhibgicejcmlam
namespace Sq
open Go.ChangeShapes Go.WideShapes Go.ChangeAt Go.RowKit
set_option linter.unusedSimpArgs false
set_option linter.unusedVariables false

theorem sizeFor_val (n : Nat) (w : World) (hn : n ≤ 3400) :
    Calls Try.prog 43 #[.int .i64 ((n : Int) + 25)] w fun e w' => e = .returned (.int .i64 (2 * (szH n : Int) + 1)) ∧ w' = w := by
  have HV : Hid (szH n = szFrom n 26 4) := rfl
  generalize szH n = V at *
  go_enter Try.func43, Try.ntmps43
  go_wp2
  go_loop [3] (fun i => ∃ h f : Nat, h + f = 30 ∧ 4 ≤ h ∧ i = .int .i64 (2 * (h : Int) + 1) ∧ Hid (V = szFrom n f h)) (fun i => (61 - intOf i).toNat)
  case atStart => exact ⟨4, 26, by omega, by omega, by simp, HV⟩
  case round =>
    obtain ⟨h, f, hhf, h4, rfl, H⟩ := hrel
    have hA : (2 * (h : Int) + 1) * (2 * (h : Int) + 1) = (((2 * h + 1) * (2 * h + 1) : Nat) : Int) := by
      rw [Int.natCast_mul]
      have : ((2 * h + 1 : Nat) : Int) = 2 * (h : Int) + 1 := by omega
      rw [this]
    have hA1 : (2 * h + 1) * (2 * h + 1) ≤ 61 * 61 := Nat.mul_le_mul (by omega) (by omega)
    by_cases hlt : (2 * h + 1) * (2 * h + 1) < n + 25
    · have hf0 : f ≠ 0 := by
        rintro rfl
        obtain rfl : h = 30 := by omega
        omega
      obtain ⟨f', rfl⟩ : ∃ f', f = f' + 1 := ⟨f - 1, by omega⟩
      have HN : Hid (V = szFrom n f' (h + 1)) := by show _ = _; rw [H.out, szFrom, if_pos hlt]
      generalize (2 * h + 1) * (2 * h + 1) = A at *
      go_wp2
      go_round
      case rel => exact ⟨h + 1, f', by omega, by omega, by go_num, HN⟩
      case measure => simp [intOf]; omega
    · have HN : Hid (V = h) := by
        show _ = _
        rw [H.out]
        cases f with
        | zero => rfl
        | succ f => rw [szFrom, if_neg hlt]
      generalize (2 * h + 1) * (2 * h + 1) = A at *
      go_wp2
      go_ret
      exact ⟨by rw [HN.out]; rfl, rfl⟩

theorem word_len (n : Nat) : (Num.wordS n).extract 2 4 = lenS n := by
  unfold Num.wordS lenS
  have e : UInt8.ofNat (n % 256) = UInt8.ofNat n := by
    apply UInt8.toNat_inj.1
    rw [UInt8.toNat_ofNat', UInt8.toNat_ofNat']
    omega
  rw [e]
  rfl

set_option maxHeartbeats 4000000 in
theorem bodyOf_val (s : ByteArray) (w : World) (hs : s.size ≤ 400) :
    Calls Try.prog 42 #[.string s] w fun e w' => e = .returned (.string (bodyS s)) ∧ Below w.heap.size w w' := by
  have HC : Hid (∀ w, _) := fun w => Num.implCheckSum_any s w (by unfold maxLen; omega)
  have HW1 : Hid (∀ w, _) := fun w => Num.implWordText_any s.size w (by omega)
  have HW2 : Hid (∀ w, _) := fun w => Num.implWordText_any (Math.crc s.data.toList) w (Math.crc_lt _)
  have HX := word_len s.size
  have z0 : IntKind.u32.wrap (s.size : Int) = (s.size : Int) := by rw [IntKind.wrap_u32]; omega
  have hl4 : (Num.wordS s.size).size = 4 := rfl
  have hl2 : (lenS s.size).size = 2 := rfl
  have hl5 : (Num.wordS (Math.crc s.data.toList)).size = 4 := rfl
  unfold bodyS
  generalize Num.wordS s.size = S1 at *
  generalize Num.wordS (Math.crc s.data.toList) = S4 at *
  generalize lenS s.size = S2 at *
  generalize Math.crc s.data.toList = C at *
  go_enter Try.func42, Try.ntmps42
  go_wp2
  go_region_with (first
    | (go_at_call 48; refine (HC.out _).mono ?_; rintro e x0 ⟨rfl, rfl⟩)
    | (go_at_call 47; (with_reducible refine (HW1.out _).mono ?_); rintro e x1 ⟨rfl, -, L1⟩; have K1 : Below w.heap.size w x1 := (by first | exact L1 | exact ((Below.refl _ _).drew).trans L1))
    | (go_at_call 47; (with_reducible refine (HW2.out _).mono ?_); rintro e x2 ⟨rfl, -, L2⟩; have K2 := Pk.join_below K1 L2))
  all_goals
    go_wp2
    go_ret
    exact ⟨rfl, K2⟩

end Sq
end Go.Proofs.Ytkhibgicejcmlam

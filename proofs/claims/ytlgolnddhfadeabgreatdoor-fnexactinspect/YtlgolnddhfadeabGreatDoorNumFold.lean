/- Contracts of Fold, of the program and of its model: what it returns is the folding of the bytes of the text, by the measure. -/
import Derived.Test.YtlgolnddhfadeabGreatDoorNum
import Derived.Test.YtlgolnddhfadeabGreatDoorMathSum
import Derived.Deep.QuietTactic
import Derived.BigQuiet
namespace Go.Proofs.YtlgolnddhfadeabGreatDoor
namespace Num
open Go.ChangeShapes Go.WideShapes Go.ChangeAt Go.RowKit

theorem specFold_no (s : ByteArray) (m : Int) (w : World) (hs : s.size ≤ maxLen) (h : (m < 2 ∨ 2147483647 < m) ∨ (2 ≤ m ∧ m ≤ 2147483647 ∧ 5000 < s.size)) :
    Calls Tryz.prog 80 #[.string s, .int .i64 m] w fun e w' => e = .returned (.int .i64 (-1)) ∧ w' = w := by
  unfold maxLen at hs
  rcases h with h | ⟨h1, h2, h3⟩
  · go_enter Tryz.func80, Tryz.ntmps80
    go_wp2_with (go_at_call 118; refine (l01Measure_no _ _ h).mono ?_; rintro e w' ⟨rfl, rfl⟩)
    go_ret
    exact ⟨rfl, rfl⟩
  · have hd : decide ((5000 : Int) < s.size) = true := by simp; omega
    go_enter Tryz.func80, Tryz.ntmps80
    go_wp2_with (go_at_call 118; refine (l01Measure_yes _ _ h1 h2).mono ?_; rintro e w' ⟨rfl, rfl⟩)
    go_ret
    exact ⟨rfl, rfl⟩

theorem specFold_yes (s : ByteArray) (m : Int) (w : World) (h1 : 2 ≤ m) (h2 : m ≤ 2147483647) (hs : s.size ≤ 5000) :
    Calls Tryz.prog 80 #[.string s, .int .i64 m] w fun e w' => e = .returned (.int .i64 ((Math.foldAt s.data.toList : Int) % m)) ∧ w' = w := by
  have hd : decide ((5000 : Int) < s.size) = false := by simp; omega
  go_enter Tryz.func80, Tryz.ntmps80
  go_wp2_with (go_at_call 118; refine (l01Measure_yes _ _ h1 h2).mono ?_; rintro e w' ⟨rfl, rfl⟩)
  go_loop [5, 6] (fun t i => ∃ k y : Nat, k ≤ s.size ∧ y < 2147483647 ∧ i = .int .i64 k ∧ t = .int .i64 y ∧ Hid (y = Math.foldAt (s.data.toList.take k))) (fun _ i => s.size - (intOf i).toNat)
  case atStart => exact ⟨0, 1, by omega, by omega, rfl, rfl, rfl⟩
  case round =>
    obtain ⟨k, y, hk, hy, rfl, rfl, H⟩ := hrel
    by_cases hlt : k < s.size
    · have HN : Hid (Math.foldStep y s[k] = Math.foldAt (s.data.toList.take (k + 1))) := by
        show _ = _
        rw [Math.take_snoc s k hlt, Math.foldAt_snoc, ← H.out]
      have hb := s[k].toNat_lt
      have HI : Hid (_) := Math.foldStep_int y s[k]
      go_wp2
      go_round
      case rel => exact ⟨k + 1, Math.foldStep y s[k], by omega, Math.foldStep_lt _ _, by go_num, by rw [HI.out], HN⟩
      case measure => simp [intOf]; omega
    · obtain rfl : k = s.size := by omega
      have HF : Hid (y = Math.foldAt s.data.toList) := by
        show _ = _
        rw [H.out, Math.take_all]
      go_wp2
      go_ret
      exact ⟨ret_int (by rw [HF.out]), rfl⟩

theorem implFold_no (s : ByteArray) (m : Int) (w : World) (hs : s.size ≤ maxLen) (h : (m < 2 ∨ 2147483647 < m) ∨ (2 ≤ m ∧ m ≤ 2147483647 ∧ 5000 < s.size)) :
    Calls Tryz.prog 161 #[.string s, .int .i64 m] w fun e w' => e = .returned (.int .i64 (-1)) ∧ w' = w := by
  unfold maxLen at hs
  rcases h with h | ⟨h1, h2, h3⟩
  · go_enter Tryz.func161, Tryz.ntmps161
    go_wp2_with (go_at_call 137; refine (isMeasure_no _ _ h).mono ?_; rintro e w' ⟨rfl, rfl⟩)
    go_ret
    exact ⟨rfl, rfl⟩
  · have hd : decide ((5000 : Int) < s.size) = true := by simp; omega
    go_enter Tryz.func161, Tryz.ntmps161
    go_wp2_with (go_at_call 137; refine (isMeasure_yes _ _ h1 h2).mono ?_; rintro e w' ⟨rfl, rfl⟩)
    go_ret
    exact ⟨rfl, rfl⟩

theorem implFold_yes (s : ByteArray) (m : Int) (w : World) (h1 : 2 ≤ m) (h2 : m ≤ 2147483647) (hs : s.size ≤ 5000) :
    Calls Tryz.prog 161 #[.string s, .int .i64 m] w fun e w' => e = .returned (.int .i64 ((Math.foldAt s.data.toList : Int) % m)) ∧ ∃ q, w' = w.drewN q := by
  have hd : decide ((5000 : Int) < s.size) = false := by simp; omega
  go_enter Tryz.func161, Tryz.ntmps161
  go_wp2_with (go_at_call 137; refine (isMeasure_yes _ _ h1 h2).mono ?_; rintro e w' ⟨rfl, rfl⟩)
  go_loopw [5, 17] (fun t i w1 => ∃ k y : Nat, k ≤ s.size ∧ y < 2147483647 ∧ i = .int .i64 k ∧ t = .int .u64 y ∧ Hid (y = Math.foldAt (s.data.toList.take k)) ∧ Drawn w' w1) (fun _ i _ => s.size - (intOf i).toNat)
  case atStart => exact ⟨0, 1, by omega, by omega, rfl, rfl, rfl, Drawn.refl _⟩
  case round =>
    obtain ⟨k, y, hk, hy, rfl, rfl, H, HD⟩ := hrel
    by_cases hlt : k < s.size
    · have HN : Hid (Math.foldStep y s[k] = Math.foldAt (s.data.toList.take (k + 1))) := by
        show _ = _
        rw [Math.take_snoc s k hlt, Math.foldAt_snoc, ← H.out]
      have hb := s[k].toNat_lt
      have HI : Hid (_) := Math.foldStep_plus y s[k]
      go_wp2
      go_quiet ((first | (go_at_call 180; exact Calls.quiet_of_same (times_any _ _ _ _ (by omega) (by omega) (by omega) (by omega) (by omega) (by omega))) | (go_at_call 181; exact Calls.quiet_of_same (plus_any _ _ _ _ (by omega) (by omega) (by omega) (by omega) (by omega) (by omega)))))
      go_wp2
      go_roundw
      case rel => exact ⟨k + 1, Math.foldStep y s[k], by omega, Math.foldStep_lt _ _, by go_num, by rw [← HI.out], HN, HD.more nq⟩
      case measure => simp [intOf]; omega
    · obtain rfl : k = s.size := by omega
      have HF : Hid (y = Math.foldAt s.data.toList) := by
        show _ = _
        rw [H.out, Math.take_all]
      go_wp2_with (go_at_call 104; refine (implMod_yes _ _ _ h1 h2).mono ?_; rintro e w' ⟨rfl, rfl⟩)
      go_ret
      exact ⟨ret_int (by rw [HF.out]), HD⟩

/-- What Fold answers. -/
def foldV (s : ByteArray) (m : Int) : Int := if 2 ≤ m ∧ m ≤ 2147483647 ∧ s.size ≤ 5000 then (Math.foldAt s.data.toList : Int) % m else -1

theorem specFold_val (s : ByteArray) (m : Int) (w : World) (hs : s.size ≤ maxLen) :
    Calls Tryz.prog 80 #[.string s, .int .i64 m] w fun e w' => e = .returned (.int .i64 (foldV s m)) ∧ w' = w := by
  unfold foldV
  by_cases h : 2 ≤ m ∧ m ≤ 2147483647 ∧ s.size ≤ 5000
  · rw [if_pos h]; exact specFold_yes s m w h.1 h.2.1 h.2.2
  · rw [if_neg h]; exact specFold_no s m w hs (by omega)

theorem implFold_val (s : ByteArray) (m : Int) (w : World) (hs : s.size ≤ maxLen) :
    Calls Tryz.prog 161 #[.string s, .int .i64 m] w fun e w' => e = .returned (.int .i64 (foldV s m)) ∧ Drawn w w' := by
  unfold foldV
  by_cases h : 2 ≤ m ∧ m ≤ 2147483647 ∧ s.size ≤ 5000
  · rw [if_pos h]; exact implFold_yes s m w h.1 h.2.1 h.2.2
  · rw [if_neg h]
    refine (implFold_no s m w hs (by omega)).mono ?_
    rintro e w' ⟨rfl, rfl⟩
    exact ⟨rfl, Drawn.refl _⟩

end Num
end Go.Proofs.YtlgolnddhfadeabGreatDoor

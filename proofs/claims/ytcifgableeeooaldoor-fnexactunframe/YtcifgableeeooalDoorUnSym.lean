/- Contracts of the model's reader of symbols. -/
import Derived.Test.YtcifgableeeooalDoorUnRead
namespace Go.Proofs.YtcifgableeeooalDoor
namespace Pk
open Go.ChangeShapes Go.WideShapes Go.ChangeAt Go.RowKit
open Math (bitAt lowAt topAt symAt symLen)
set_option linter.unusedSimpArgs false
set_option linter.unusedVariables false

set_option maxRecDepth 100000 in
set_option maxHeartbeats 1000000 in
theorem symS_val (B c : Nat) (s : ByteArray) (a : Nat) (w : World) (hs : s.size ≤ 100000) (ha : a ≤ 890000) (H : RdS B c s a w) :
    Calls Tryd.prog 23 #[.pointer (some ⟨c, 0, none⟩)] w fun e w' => e = .returned (.int .i64 (symAt s a)) ∧ RdS B c s (a + symLen s a) w' ∧ Mv c w w' ∧ Below B w w' := by
  have h7 := Math.topAt_lt s a 7
  have hb7 := Math.bitAt_le s (a + 7)
  have hb8 := Math.bitAt_le s (a + 8)
  have e8 : topAt s a 8 = 2 * topAt s a 7 + bitAt s (a + 7) := rfl
  have e9 : topAt s a 9 = 2 * (2 * topAt s a 7 + bitAt s (a + 7)) + bitAt s (a + 8) := rfl
  have HT : Hid (_) := topS_val B c s a 7 w hs (by omega) (by omega) H
  have HB7 : Hid (∀ w, RdS B c s (a + 7) w → _) := fun w => bitS_val B c s (a + 7) w hs (by omega)
  have HB8 : Hid (∀ w, RdS B c s (a + 7 + 1) w → _) := fun w => bitS_val B c s (a + 8) w hs (by omega)
  have HS : Hid (symAt s a = if topAt s a 7 < 24 then 256 + topAt s a 7 else if topAt s a 8 < 192 then topAt s a 8 - 48 else if topAt s a 8 < 200 then 280 + topAt s a 8 - 192 else 144 + topAt s a 9 - 400) := rfl
  have HL : Hid (symLen s a = if topAt s a 7 < 24 then 7 else if topAt s a 8 < 200 then 8 else 9) := rfl
  rw [e8, e9] at HS
  rw [e8] at HL
  generalize symAt s a = Y at *
  generalize symLen s a = N at *
  generalize topAt s a 7 = x at *
  generalize bitAt s (a + 7) = b7 at *
  generalize bitAt s (a + 8) = b8 at *
  clear e8 e9 H
  go_enter Tryd.func23, Tryd.ntmps23
  go_wp2_with fail
  refine (Calls.mono HT.out ?_)
  rintro e w2 ⟨rfl, R2, M2, L2⟩
  clear HT
  by_cases h1 : x < 24
  · have q1 := HS.out
    have q2 := HL.out
    rw [if_pos h1] at q1 q2
    subst q1 q2
    have HR : Hid (_) := R2
    clear HS HL R2 HB7 HB8
    go_wp2
    go_ret
    exact ⟨by go_num, HR.out, M2, L2⟩
  · have q1 := HS.out
    have q2 := HL.out
    rw [if_neg h1] at q1 q2
    have HQ1 : Hid (_) := q1
    have HQ2 : Hid (_) := q2
    have HC : Hid (_) := HB7.out w2 R2
    clear HS HL R2 q1 q2 HB7
    go_wp2_with fail
    refine (Calls.mono HC.out ?_)
    rintro e w3 ⟨rfl, R3, M3, L3⟩
    have M := M2.trans M3
    have L := L2.trans L3
    clear M2 M3 L2 L3 HC
    by_cases h2 : 2 * x + b7 < 192
    · have q1 := HQ1.out
      have q2 := HQ2.out
      rw [if_pos h2] at q1
      rw [if_pos (by omega)] at q2
      subst q1 q2
      have HR : Hid (_) := R3
      clear HQ1 HQ2 R3 HB8
      go_wp2
      go_ret
      exact ⟨by go_num, HR.out, M, L⟩
    · by_cases h3 : 2 * x + b7 < 200
      · have q1 := HQ1.out
        have q2 := HQ2.out
        rw [if_neg h2, if_pos h3] at q1
        rw [if_pos h3] at q2
        subst q1 q2
        have HR : Hid (_) := R3
        clear HQ1 HQ2 R3 HB8
        go_wp2
        go_ret
        exact ⟨by go_num, HR.out, M, L⟩
      · have q1 := HQ1.out
        have q2 := HQ2.out
        rw [if_neg h2, if_neg h3] at q1
        rw [if_neg h3] at q2
        subst q1 q2
        have HC : Hid (_) := HB8.out w3 R3
        clear HQ1 HQ2 R3 HB8
        go_wp2_with fail
        refine (Calls.mono HC.out ?_)
        rintro e w4 ⟨rfl, R4, M4, L4⟩
        have HR : Hid (_) := R4
        have M5 := M.trans M4
        have L5 := L.trans L4
        clear R4 M4 L4 M L HC
        go_wp2
        go_ret
        exact ⟨by go_num, HR.out, M5, L5⟩

end Pk
end Go.Proofs.YtcifgableeeooalDoor

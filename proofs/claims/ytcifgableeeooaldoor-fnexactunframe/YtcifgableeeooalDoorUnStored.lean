/- The contract of the model's reader of a stored block. -/
import Derived.Test.YtcifgableeeooalDoorUnLen
namespace Go.Proofs.YtcifgableeeooalDoor
namespace Math

/-- What a stored block is told to be; its text. -/
def storedC (s : ByteArray) : Nat := if s.size < 5 then 1 else if lowAt s 8 16 + lowAt s 24 16 ≠ 65535 then 3 else if 3000 < lowAt s 8 16 then 5 else if s.size < lowAt s 8 16 + 5 then 1 else 0

def storedT (s : ByteArray) : ByteArray := if storedC s = 0 then s.extract 5 (5 + lowAt s 8 16) else ⟨#[]⟩

end Math
namespace Pk
open Go.ChangeShapes Go.WideShapes Go.ChangeAt Go.RowKit
open Math (bitAt lowAt topAt symAt symLen storedC storedT)
set_option linter.unusedSimpArgs false
set_option linter.unusedVariables false

set_option maxRecDepth 100000 in
set_option maxHeartbeats 1000000 in
theorem storedS_val (B c : Nat) (s : ByteArray) (w : World) (hs1 : 1 ≤ s.size) (hs : s.size ≤ 100000) (H : RdS B c s 3 w) :
    Calls Tryd.prog 16 #[.pointer (some ⟨c, 0, none⟩)] w fun e w' => e = .returned (.tuple #[.string (storedT s), .int .i64 (storedC s)]) ∧ (storedC s = 0 → RdS B c s (40 + 8 * lowAt s 8 16) w') ∧ Mv c w w' ∧ Below B w w' := by
  go_enter Tryd.func16, Tryd.ntmps16
  go_wp2
  go_loopw [] (fun wr => ∃ (q : Nat), 3 ≤ q ∧ q ≤ 8 ∧ RdS B c s q wr ∧ Mv c w wr ∧ Below B w wr) (fun wr => 8 - (intOf ((wr.cell? ⟨c, 1, none⟩).getD undef)).toNat)
  case atStart => exact ⟨3, by omega, by omega, H, Mv.refl _ _, Below.refl _ _⟩
  case round =>
    obtain ⟨q, hq3, hq8, R, M, L⟩ := hrel
    have hB := R.1
    have m := R.2
    rw [show min q (8 * s.size) = q by omega, decide_eq_false (show ¬ 8 * s.size < q by omega)] at m
    have c0 : wr.cell? ⟨c, 0, none⟩ = some (.string s) := cell_at m 0
    have c1 : wr.cell? ⟨c, 1, none⟩ = some (.int .i64 (q : Int)) := cell_at m 1
    have f1 := frozen_at m 1
    have HM : Hid (_) := m
    have HR : Hid (_) := R
    clear m R
    by_cases h8 : q < 8
    · have hm : Int.tmod (q : Int) 8 = (q : Int) := by rw [Int.tmod_eq_emod_of_nonneg (by omega)]; omega
      have hm2 : (q : Int) % 8 = q := by omega
      have hq0 : ((q : Int) != 0) = true := by simp; omega
      have hq0' : ¬ ((q : Int) = 0) := by omega
      have HW : Hid (RdS B c s (q + 1) (wr.setCell ⟨c, 1, none⟩ (.int .i64 ((q : Int) + 1)))) := by
        refine ⟨hB, ?_⟩
        rw [show min (q + 1) (8 * s.size) = q + 1 by omega, decide_eq_false (show ¬ 8 * s.size < q + 1 by omega)]
        exact hp_set (w := wr) (i := 1) HM.out (.int .i64 ((q : Int) + 1))
      go_wp2
      go_roundw
      case rel => exact ⟨q + 1, by omega, by omega, HW.out, M.trans (Mv.set c 1 _ _), L.setCell hB _⟩
      case measure =>
        have h9 := cell_at HW.out.2 1
        rw [show min (q + 1) (8 * s.size) = q + 1 by omega] at h9
        rw [c1]
        have h9' : (wr.setCell ⟨c, 1, none⟩ (.int .i64 ((q : Int) + 1))).cell? ⟨c, 1, none⟩ = some (.int .i64 ((q + 1 : Nat) : Int)) := h9
        simp only [h9', Option.getD_some, intOf]
        omega
    · obtain rfl : q = 8 := by omega
      clear c0 c1 f1 HM hq3 hq8 h8
      have hn1 := Math.lowAt_lt s 8 16
      have hn2 := Math.lowAt_lt s 24 16
      have HN1 : Hid (_) := numS_val B c s 8 16 wr hs (by omega) (by omega) HR.out
      have HN2 : Hid (∀ w, RdS B c s (8 + 16) w → _) := fun w => numS_val B c s 24 16 w hs (by omega) (by omega)
      have HC : Hid (storedC s = if s.size < 5 then 1 else if lowAt s 8 16 + lowAt s 24 16 ≠ 65535 then 3 else if 3000 < lowAt s 8 16 then 5 else if s.size < lowAt s 8 16 + 5 then 1 else 0) := rfl
      have HT : Hid (storedT s = if storedC s = 0 then s.extract 5 (5 + lowAt s 8 16) else ⟨#[]⟩) := rfl
      have HF : Hid (∃ n t, lowAt s 8 16 = n ∧ lowAt s 24 16 = t) := ⟨_, _, rfl, rfl⟩
      obtain ⟨n, t, hn, ht⟩ := HF.out
      rw [hn] at hn1 HN1 HC HT
      rw [ht] at hn2 HN2 HC
      have HNE : Hid (_) := hn
      have cc1 : wr.cell? ⟨c, 1, none⟩ = some (.int .i64 8) := by
        have h9 := cell_at HR.out.2 1
        rw [show min 8 (8 * s.size) = 8 by omega] at h9
        exact h9
      clear hn ht HF HR
      have hn1' : n < 65536 := hn1
      have hn2' : t < 65536 := hn2
      clear hn1 hn2
      go_wp2_with fail
      refine (Calls.mono HN1.out ?_)
      rintro e w2 ⟨rfl, R2, M2, L2⟩
      have M3 := M.trans M2
      have L3 := L.trans L2
      have HV : Hid (_) := HN2.out w2 R2
      clear R2 M2 L2 M L HN1 HN2 cc1
      go_wp2_with fail
      refine (Calls.mono HV.out ?_)
      rintro e w4 ⟨rfl, R4, M4, L4⟩
      have M := M3.trans M4
      have L := L3.trans L4
      have m := R4.2
      clear M3 M4 L3 L4 HV R4
      by_cases h5 : s.size < 5
      · rw [show (24 + 16 : Nat) = 40 from rfl, decide_eq_true (show 8 * s.size < 40 by omega)] at m
        have c2 : w4.cell? ⟨c, 2, none⟩ = some (.bool true) := cell_at m 2
        have HD := HC.out
        rw [if_pos h5] at HD
        have HE := HT.out
        rw [HD, if_neg (by decide)] at HE
        have HQ : Hid (storedC s = 1 ∧ storedT s = ⟨#[]⟩) := ⟨HD, HE⟩
        clear HD HE HC HT m
        go_wp2
        go_ret2
        exact ⟨by rw [HQ.out.1, HQ.out.2] <;> rfl, fun h => absurd (HQ.out.1.symm.trans h) (by decide), M, L⟩
      rw [show (24 + 16 : Nat) = 40 from rfl, decide_eq_false (show ¬ 8 * s.size < 40 by omega), show min 40 (8 * s.size) = 40 by omega] at m
      have c0 : w4.cell? ⟨c, 0, none⟩ = some (.string s) := cell_at m 0
      have c1 : w4.cell? ⟨c, 1, none⟩ = some (.int .i64 40) := cell_at m 1
      have c2 : w4.cell? ⟨c, 2, none⟩ = some (.bool false) := cell_at m 2
      have f1 := frozen_at m 1
      have HM : Hid (_) := m
      clear m
      rw [if_neg h5] at HC
      by_cases h6 : n + t ≠ 65535
      · have HD := HC.out
        rw [if_pos h6] at HD
        have HE := HT.out
        rw [HD, if_neg (by decide)] at HE
        have HQ : Hid (storedC s = 3 ∧ storedT s = ⟨#[]⟩) := ⟨HD, HE⟩
        have h6' : ((n : Int) + (t : Int) != 65535) = true := by rw [bne_iff_ne]; omega
        have h6'' : ¬ ((n : Int) + (t : Int) = 65535) := by omega
        clear HD HE HC HT
        go_wp2
        go_ret2
        exact ⟨by rw [HQ.out.1, HQ.out.2] <;> rfl, fun h => absurd (HQ.out.1.symm.trans h) (by decide), M, L⟩
      rw [if_neg h6] at HC
      have h6' : (n : Int) + (t : Int) = 65535 := by omega
      by_cases h7 : 3000 < n
      · have HD := HC.out
        rw [if_pos h7] at HD
        have HE := HT.out
        rw [HD, if_neg (by decide)] at HE
        have HQ : Hid (storedC s = 5 ∧ storedT s = ⟨#[]⟩) := ⟨HD, HE⟩
        clear HD HE HC HT
        go_wp2
        go_ret2
        exact ⟨by rw [HQ.out.1, HQ.out.2] <;> rfl, fun h => absurd (HQ.out.1.symm.trans h) (by decide), M, L⟩
      rw [if_neg h7] at HC
      by_cases h9 : s.size < n + 5
      · have HD := HC.out
        rw [if_pos h9] at HD
        have HE := HT.out
        rw [HD, if_neg (by decide)] at HE
        have HQ : Hid (storedC s = 1 ∧ storedT s = ⟨#[]⟩) := ⟨HD, HE⟩
        have h9' : (s.size : Int) - 5 < (n : Int) := by omega
        clear HD HE HC HT
        go_wp2
        go_quiet (fail)
        go_wp2
        go_ret2
        exact ⟨by rw [HQ.out.1, HQ.out.2] <;> rfl, fun h => absurd (HQ.out.1.symm.trans h) (by decide), M.drewN _, below_drewN L _⟩
      rw [if_neg h9] at HC
      have HE := HT.out
      rw [HC.out, if_pos rfl] at HE
      have HQ : Hid (storedC s = 0 ∧ storedT s = s.extract 5 (5 + n)) := ⟨HC.out, HE⟩
      have h9' : ¬ ((s.size : Int) - 5 < (n : Int)) := by omega
      have h10 : (5 : Int) + (n : Int) ≤ (s.size : Int) := by omega
      have HW : Hid (∀ q, RdS B c s (40 + 8 * n) ((w4.drewN q).setCell ⟨c, 1, none⟩ (.int .i64 (40 + 8 * (n : Int))))) := by
        intro q
        refine ⟨hB, ?_⟩
        rw [show min (40 + 8 * n) (8 * s.size) = 40 + 8 * n by omega, decide_eq_false (show ¬ 8 * s.size < 40 + 8 * n by omega)]
        exact hp_set (w := w4.drewN q) (i := 1) HM.out (.int .i64 (40 + 8 * (n : Int)))
      clear HE HC HT
      go_wp2
      go_quiet (fail)
      go_wp2
      go_ret2
      refine ⟨?_, fun _ => ?_, (M.drewN _).trans (Mv.set c 1 _ _), (below_drewN L _).setCell hB _⟩
      · rw [HQ.out.1, HQ.out.2]
        rfl
      · rw [HNE.out]
        exact HW.out _

end Pk
end Go.Proofs.YtcifgableeeooalDoor

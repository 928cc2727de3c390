/- What Scan says of a turned square of a text, of one with a wrong field, and of any: the mathematics. -/
import Derived.Test.YtkhibgicejcmlacSqScanV
import Derived.Test.YtkhibgicejcmlacSqBack
namespace Go.Proofs.Ytkhibgicejcmlac
namespace Sq
open Go.ChangeShapes Go.WideShapes Go.ChangeAt Go.RowKit
set_option linter.unusedSimpArgs false
set_option linter.unusedVariables false

theorem scan_turned (s : ByteArray) (hs : s.size ≤ 400) (k : Nat) (hk : k < 4) : scT (2 * (pH s : Int) + 1) (turnN (2 * (pH s : Int) + 1) (paintS s) k) = s ∧ scC (2 * (pH s : Int) + 1) (turnN (2 * (pH s : Int) + 1) (paintS s) k) = 0 := by
  have hb := heart_back s k hk
  have hu : upS (2 * (pH s : Int) + 1) (turnN (2 * (pH s : Int) + 1) (paintS s) k) = paintS s := by
    unfold upS
    rw [hb]
    exact turned_back s k hk
  unfold scT scC
  rw [hu, hb, if_neg (by omega), if_neg (by omega), half_is, Int.toNat_natCast]
  exact scan_back s hs

theorem scan_fine {n : Int} {s : ByteArray} (h : scC n s = 0) : (scT n s).size ≤ 400 ∧ pnV (scT n s) = n ∧ ptV (scT n s) = upS n s := by
  unfold scC at h
  unfold scT
  by_cases hh : heartV n s = -1
  · rw [if_pos hh] at h
    omega
  · rw [if_neg hh] at h ⊢
    generalize bodyR (Int.tdiv n 2).toNat (upS n s) = B at *
    unfold scanC at h
    unfold scanT
    by_cases h1 : told B ≤ 400 ∧ told B + 6 ≤ B.size
    · rw [if_neg (fun e => e h1)] at h
      by_cases h2 : B.extract (2 + told B) (2 + told B + 4) = Num.wordS (Math.crc (B.extract 2 (2 + told B)).data.toList)
      · rw [if_neg (fun e => e h2)] at h
        by_cases h3 : pnV (B.extract 2 (2 + told B)) = n ∧ ptV (B.extract 2 (2 + told B)) = upS n s
        · rw [if_pos ⟨h1.1, h1.2, h2, h3⟩]
          exact ⟨by rw [ByteArray.size_extract]; omega, h3⟩
        · rw [if_pos h3] at h
          omega
      · rw [if_pos h2] at h
        omega
    · rw [if_pos h1] at h
      omega

theorem scan_empty {n : Int} {s : ByteArray} (h : ¬ scC n s = 0) : scT n s = ⟨#[]⟩ := by
  unfold scC at h
  unfold scT
  by_cases hh : heartV n s = -1
  · rw [if_pos hh]
  · rw [if_neg hh] at h ⊢
    generalize bodyR (Int.tdiv n 2).toNat (upS n s) = B at *
    unfold scanC at h
    unfold scanT
    rw [if_neg]
    rintro ⟨h1, h2, h3, h4⟩
    apply h
    rw [if_neg (fun e => e ⟨h1, h2⟩), if_neg (fun e => e h3), if_neg (fun e => e h4)]

theorem spot_never (s p : ByteArray) (hs : s.size ≤ 400) (i : Nat) (hi : i < (2 * pH s + 1) * (2 * pH s + 1)) (hz : p.size = (2 * pH s + 1) * (2 * pH s + 1)) (hp : ∀ j, j < (2 * pH s + 1) * (2 * pH s + 1) → tb p j = if j = i then 97 - tb (paintS s) j else tb (paintS s) j) : ¬ (scC (2 * (pH s : Int) + 1) p = 0 ∧ scT (2 * (pH s : Int) + 1) p = s) := by
  rintro ⟨h1, h2⟩
  obtain ⟨-, -, h3⟩ := scan_fine h1
  rw [h2] at h3
  unfold ptV upS at h3
  rw [if_pos hs] at h3
  exact flip_never s p i hi hz hp _ (by omega) h3.symm

end Sq
end Go.Proofs.Ytkhibgicejcmlac

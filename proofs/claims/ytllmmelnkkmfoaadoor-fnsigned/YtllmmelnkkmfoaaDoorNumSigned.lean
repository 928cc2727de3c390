/- What is signed: the first draw that will do, that it verifies, and that its text tells it. -/
import Derived.Test.YtllmmelnkkmfoaaDoorSignVals
import Derived.Test.YtllmmelnkkmfoaaDoorSignVer
import Derived.Test.YtllmmelnkkmfoaaDoorSignText
import Derived.Test.YtllmmelnkkmfoaaDoorSignRead
namespace Go.Proofs.YtllmmelnkkmfoaaDoor
namespace Num

theorem sg_cases (p q g x h : Int) (zs : List Int) (i : Int) : sg p q g x h zs i = (0, 0, -1, false) ∨
    ∃ (j : Nat) (hj : j < zs.length), doV p q g x h zs[j] = true ∧ (∀ (d : Nat) (hd : d < zs.length), d < j → doV p q g x h zs[d] = false) ∧ sg p q g x h zs i = (rV p q g zs[j], sV p q g x h zs[j], i + j, true) := by
  induction zs generalizing i with
  | nil => exact Or.inl rfl
  | cons k r ih =>
    cases hd : doV p q g x h k
    · have e : sg p q g x h (k :: r) i = sg p q g x h r (i + 1) := by rw [sg, if_neg (by rw [hd]; simp)]
      rw [e]
      rcases ih (i + 1) with h1 | ⟨j, hj, h1, h2, h3⟩
      · exact Or.inl h1
      · refine Or.inr ⟨j + 1, by simp; omega, h1, ?_, ?_⟩
        · intro d hd2 hdj
          cases d with
          | zero => exact hd
          | succ d => exact h2 d (by simpa using hd2) (by omega)
        · rw [h3, show i + 1 + (j : Int) = i + ((j + 1 : Nat) : Int) by omega]
          rfl
    · refine Or.inr ⟨0, by simp, hd, fun d _ h => by omega, ?_⟩
      rw [sg, if_pos hd]
      simp

theorem word_two (a b : Nat) : wordS a ++ wordS b = ⟨#[UInt8.ofNat (a / 16777216), UInt8.ofNat (a / 65536), UInt8.ofNat (a / 256), UInt8.ofNat a, UInt8.ofNat (b / 16777216), UInt8.ofNat (b / 65536), UInt8.ofNat (b / 256), UInt8.ofNat b]⟩ := rfl

theorem ext_two (a b c d e f g h : UInt8) : (⟨#[a, b, c, d, e, f, g, h]⟩ : ByteArray).extract 4 8 = ⟨#[e, f, g, h]⟩ := by
  apply ByteArray.ext
  simp [ByteArray.data_extract]

theorem mark_back (r s : Int) (hr : 0 ≤ r ∧ r ≤ 4294967295) (hs : 0 ≤ s ∧ s ≤ 4294967295) : (markS r s).size = 8 ∧ rmR (markS r s) = r ∧ rmS (markS r s) = s := by
  obtain ⟨a, rfl⟩ := Int.eq_ofNat_of_zero_le hr.1
  obtain ⟨b, rfl⟩ := Int.eq_ofNat_of_zero_le hs.1
  have e : markS (a : Int) (b : Int) = wordS a ++ wordS b := markS_yes (by unfold wideB; rw [decide_eq_true hr, decide_eq_true hs]; rfl)
  rw [e, word_two]
  have h8 : (⟨#[UInt8.ofNat (a / 16777216), UInt8.ofNat (a / 65536), UInt8.ofNat (a / 256), UInt8.ofNat a, UInt8.ofNat (b / 16777216), UInt8.ofNat (b / 65536), UInt8.ofNat (b / 256), UInt8.ofNat b]⟩ : ByteArray).size = 8 := rfl
  refine ⟨h8, ?_, ?_⟩
  · unfold rmR
    rw [if_pos h8]
    have h : part ⟨#[UInt8.ofNat (a / 16777216), UInt8.ofNat (a / 65536), UInt8.ofNat (a / 256), UInt8.ofNat a, UInt8.ofNat (b / 16777216), UInt8.ofNat (b / 65536), UInt8.ofNat (b / 256), UInt8.ofNat b]⟩ 4 = a := by
      simp only [part]
      show (((0 * 256 + (UInt8.ofNat (a / 16777216)).toNat) * 256 + (UInt8.ofNat (a / 65536)).toNat) * 256 + (UInt8.ofNat (a / 256)).toNat) * 256 + (UInt8.ofNat a).toNat = a
      simp only [UInt8.toNat_ofNat']
      omega
    rw [h]
  · unfold rmS
    rw [if_pos h8, ext_two]
    have h : part ⟨#[UInt8.ofNat (b / 16777216), UInt8.ofNat (b / 65536), UInt8.ofNat (b / 256), UInt8.ofNat b]⟩ 4 = b := by
      simp only [part]
      show (((0 * 256 + (UInt8.ofNat (b / 16777216)).toNat) * 256 + (UInt8.ofNat (b / 65536)).toNat) * 256 + (UInt8.ofNat (b / 256)).toNat) * 256 + (UInt8.ofNat b).toNat = b
      simp only [UInt8.toNat_ofNat']
      omega
    rw [h]

theorem ver_signed {p q g x k : Int} {t : ByteArray} (hok : okP p q g = true) (h1 : 1 ≤ x) (h2 : x ≤ q - 1) (ht : t.size ≤ 5000) (hk : doV p q g x (hV t q) k = true) : verV p q g (powV g x p) (rV p q g k) (sV p q g x (hV t q) k) t = true := by
  obtain ⟨-, hq, -⟩ := okP_facts hok
  obtain ⟨b1, b2⟩ := doV_bd hq hk
  unfold verV verOk
  rw [hok, open_ok hok h1 h2, b1, b2, decide_eq_true ht, signed_eq hok h1 h2 hk]
  simp

theorem key_yes {p q g x : Int} (hok : okP p q g = true) (h1 : 1 ≤ x) (h2 : x ≤ q - 1) : keyB p q g x = true ∧ keyI p q g x = powV g x p := by
  have h : keyB p q g x = true := by unfold keyB; rw [hok, decide_eq_true ⟨h1, h2⟩]; rfl
  exact ⟨h, if_pos h⟩

/-- What Sign tells of right keys. -/
theorem sign_told {p q g x : Int} {t : ByteArray} {zs : List Int} (hok : okP p q g = true) (h1 : 1 ≤ x) (h2 : x ≤ q - 1) (ht : t.size ≤ 100) (hz : zs.length ≤ 100) :
    signV p q g x t zs = (0, 0, -1, false) ∨
    ∃ (r s : Int) (j : Nat), signV p q g x t zs = (r, s, (j : Int), true) ∧ j < zs.length ∧ (∀ (d : Nat) (hd : d < zs.length), d < j → soB p q g x t zs[d] = false) ∧ (0 ≤ r ∧ r ≤ 4294967295) ∧ (0 ≤ s ∧ s ≤ 4294967295) ∧ verV p q g (powV g x p) r s t = true := by
  obtain ⟨hkb, -⟩ := key_yes hok h1 h2
  have hsb : signB p q g x t = true := by unfold signB; rw [hkb, decide_eq_true (by omega)]; rfl
  have e : signV p q g x t zs = sg p q g x (hV t q) zs 0 := by unfold signV; rw [if_pos ⟨hsb, hz⟩]
  rw [e]
  obtain ⟨-, hq, -⟩ := okP_facts hok
  have hq1 := hq.1
  have hq2 := hq.2
  rcases sg_cases p q g x (hV t q) zs 0 with h | ⟨j, hj, a1, a2, a3⟩
  · exact Or.inl h
  · have rb := rV_bd (p := p) (g := g) (k := zs[j]) hq
    have sb := sV_bd (p := p) (g := g) (x := x) (h := hV t q) (k := zs[j]) hq
    refine Or.inr ⟨_, _, j, by rw [a3, Int.zero_add], hj, ?_, by omega, by omega, ver_signed hok h1 h2 (by omega) a1⟩
    intro d hd hdj
    unfold soB
    rw [hsb, a2 d hd hdj]
    rfl

end Num
end Go.Proofs.YtllmmelnkkmfoaaDoor

/- container/heap's down, over the program's heap of ways. -/
import Derived.Test.YtfoccmhmgdengaaEaUp
namespace Go.Proofs.Ytfoccmhmgdengaa
namespace Rd
open Go.ChangeShapes Go.WideShapes Go.ChangeAt Go.RowKit
open Pk (new_below join_below cell_at heap_new frozen_at lt_of kept heap_old info_of)
set_option linter.unusedSimpArgs false
set_option linter.unusedVariables false

set_option maxRecDepth 100000 in
set_option maxHeartbeats 4000000 in
theorem heapDown_val (B hb g cap N n : Nat) (f0 : Nat → Vw) (w : World) (H0 : Hw B hb g cap f0 N w) (D0 : DownI f0 n 0) (hnN : n ≤ N) (hn : N < 1000000) :
    Calls Try.prog 69 #[.iface 94 (.pointer (some ⟨hb, 0, none⟩)), .int .i64 0, .int .i64 n] w fun e w' => (∃ b, e = .returned (.bool b)) ∧ ∃ f, Hw B hb g cap f N w' ∧ Heap f n ∧ Sm n f0 f ∧ (∀ k, n ≤ k → f k = f0 k) ∧ Ko hb g w w' := by
  go_enter Try.func69, Try.ntmps69
  go_wp2
  go_loopw [7] (fun iv wr => ∃ (i : Nat) (f : Nat → Vw), (i < n ∨ i = 0) ∧ iv = .int .i64 i ∧ Hw B hb g cap f N wr ∧ DownI f n i ∧ Sm n f0 f ∧ (∀ k, n ≤ k → f k = f0 k) ∧ Ko hb g w wr) (fun iv _ => n - (intOf iv).toNat)
  case atStart => exact ⟨0, f0, Or.inr rfl, rfl, H0, D0, Sm.refl _ _, fun _ _ => rfl, Ko.refl _ _ _⟩
  case round =>
    clear H0 D0
    obtain ⟨i, f, hib, rfl, H, D, hS, hR, K⟩ := hrel
    have HD : Hid (DownI f n i) := D
    have HS : Hid (Sm n f0 f) := hS
    have HR : Hid (∀ k, n ≤ k → f k = f0 k) := hR
    clear D hS hR
    have hi6 : i ≤ 1000000 := by omega
    obtain ⟨c, hc⟩ : ∃ c, 2 * i = c := ⟨_, rfl⟩
    obtain ⟨a, ha⟩ : ∃ a, c + 1 = a := ⟨_, rfl⟩
    obtain ⟨b, hb'⟩ : ∃ b, a + 1 = b := ⟨_, rfl⟩
    have e1 : 2 * (i : Int) = (c : Int) := by omega
    have e2 : (c : Int) + 1 = (a : Int) := by omega
    have e3 : (a : Int) + 1 = (b : Int) := by omega
    have y1 := w64 e1 (by omega) (by omega)
    have y2 := w64 e2 (by omega) (by omega)
    have y3 := w64 e3 (by omega) (by omega)
    obtain ⟨y1a, y1b⟩ := y1
    obtain ⟨y2a, y2b⟩ := y2
    obtain ⟨y3a, y3b⟩ := y3
    have z0 : decide ((a : Int) < 0) = false := decide_eq_false (by clear y1a y1b y2a y2b y3a y3b; omega)
    clear e1 e2 e3
    by_cases han : a < n
    · have z1 : decide ((n : Int) ≤ (a : Int)) = false := decide_eq_false (by clear y1a y1b y2a y2b y3a y3b z0; omega)
      have HN : a < N ∧ i < n ∧ i < N ∧ 0 < a ∧ (a - 1) / 2 = i ∧ n - a < n - i ∧ (b < n → b < N ∧ 0 < b ∧ (b - 1) / 2 = i ∧ n - b < n - i) ∧ (∀ k, 0 < k → k < n → (k - 1) / 2 = i → k = a ∨ k = b) := by
        clear y1a y1b y2a y2b y3a y3b z0 z1
        refine ⟨by omega, by omega, by omega, by omega, by omega, by omega, fun h => ⟨by omega, by omega, by omega, by omega⟩, fun k h1 h2 h3 => by omega⟩
      obtain ⟨aN, hin, hiN, a0, ap, mea, HB, HC⟩ := HN
      have an := han
      have ab : a < n ∨ a = 0 := Or.inl han
      clear hc ha hb'
      by_cases hbn : b < n
      · have z2 : decide ((b : Int) < (n : Int)) = true := decide_eq_true (by clear y1a y1b y2a y2b y3a y3b z0 z1; omega)
        obtain ⟨bN, b0, bp, meb⟩ := HB hbn
        have bn := hbn
        have bb : b < n ∨ b = 0 := Or.inl hbn
        have mL := meth_less H.cell
        have HLE := wayLess_val H bN aN
        have HHr : Hid (Hw B hb g cap f N wr) := H
        clear H
        cases hb1 : lessB (f b) (f a)
        · have hmin : ∀ k, 0 < k → k < n → (k - 1) / 2 = i → leW (f a) (f k) := fun k k0 kn kh => by
            rcases HC k k0 kn kh with rfl | rfl
            · exact leW_refl _
            · exact (lessB_no _ _).1 hb1
          have HM : Hid (∀ k, 0 < k → k < n → (k - 1) / 2 = i → leW (f a) (f k)) := hmin
          have HCH : Hid (_) := HC
          clear hmin HC HB
          rw [hb1] at HLE
          go_wp2_with fail
          refine HLE.mono ?_
          rintro e w1 ⟨rfl, L1⟩
          have H1 := HHr.out.on L1
          have K1 := K.trans (Ko.under L1) (Or.inl rfl)
          clear K L1 mL HLE HHr
          have mL2 := meth_less H1.cell
          have HLE2 := wayLess_val H1 (aN) hiN
          cases hb2 : lessB (f a) (f i)
          · have HHP : Hid (Heap f n) := down_end HD.out (fun k k0 kn kh => leW_trans ((lessB_no _ _).1 hb2) (HM.out k k0 kn kh))
            rw [hb2] at HLE2
            have HHn : Hid (Hw B hb g cap f N w1) := H1
            clear H1
            go_wp2_with fail
            refine HLE2.mono ?_
            rintro e w8 ⟨rfl, L8⟩
            have H8 : Hid (Hw B hb g cap f N w8) := HHn.out.on L8
            have K8 := K1.trans (Ko.under L8) (Or.inl rfl)
            clear K1 L8 mL2 HLE2 HHn
            go_wp2
            go_ret
            exact ⟨⟨_, rfl⟩, f, H8.out, HHP.out, HS.out, HR.out, K8⟩
          · have HDS : Hid (DownI (sw f i a) n a) := down_step HD.out ap a0 an HM.out ((lessB_iff _ _).1 hb2)
            rw [hb2] at HLE2
            have HHn : Hid (Hw B hb g cap f N w1) := H1
            clear H1
            go_wp2_with fail
            refine HLE2.mono ?_
            rintro e w8 ⟨rfl, L8⟩
            have H8 := HHn.out.on L8
            have K8 := K1.trans (Ko.under L8) (Or.inl rfl)
            have mS := meth_swap H8.cell
            have HSW := waySwap_at H8 hiN aN
            clear K1 L8 mL2 HLE2 HHn H8
            go_wp2_with fail
            refine HSW.mono ?_
            rintro e w9 ⟨rfl, H9, K9⟩
            have HH9 : Hid (Hw B hb g cap (sw f i a) N w9) := H9
            have K10 := K8.trans K9 (Or.inl rfl)
            have HS9 : Hid (Sm n f0 (sw f i a)) := HS.out.sw hin an
            have HR9 : Hid (∀ k, n ≤ k → sw f i a k = f0 k) := fun k hk => (sw_k f (by omega) (by omega)).trans (HR.out k hk)
            have hme := mea
            clear HSW mS H9 K8 K9
            go_wp2
            go_roundw
            case rel => exact ⟨a, sw f i a, ab, rfl, HH9.out, HDS.out, HS9.out, HR9.out, K10⟩
            case measure => simp [intOf]; exact hme
        · have hmin : ∀ k, 0 < k → k < n → (k - 1) / 2 = i → leW (f b) (f k) := fun k k0 kn kh => by
            rcases HC k k0 kn kh with rfl | rfl
            · exact leW_not ((lessB_iff _ _).1 hb1)
            · exact leW_refl _
          have HM : Hid (∀ k, 0 < k → k < n → (k - 1) / 2 = i → leW (f b) (f k)) := hmin
          have HCH : Hid (_) := HC
          clear hmin HC HB
          rw [hb1] at HLE
          go_wp2_with fail
          refine HLE.mono ?_
          rintro e w1 ⟨rfl, L1⟩
          have H1 := HHr.out.on L1
          have K1 := K.trans (Ko.under L1) (Or.inl rfl)
          clear K L1 mL HLE HHr
          have mL2 := meth_less H1.cell
          have HLE2 := wayLess_val H1 (bN) hiN
          cases hb2 : lessB (f b) (f i)
          · have HHP : Hid (Heap f n) := down_end HD.out (fun k k0 kn kh => leW_trans ((lessB_no _ _).1 hb2) (HM.out k k0 kn kh))
            rw [hb2] at HLE2
            have HHn : Hid (Hw B hb g cap f N w1) := H1
            clear H1
            go_wp2_with fail
            refine HLE2.mono ?_
            rintro e w8 ⟨rfl, L8⟩
            have H8 : Hid (Hw B hb g cap f N w8) := HHn.out.on L8
            have K8 := K1.trans (Ko.under L8) (Or.inl rfl)
            clear K1 L8 mL2 HLE2 HHn
            go_wp2
            go_ret
            exact ⟨⟨_, rfl⟩, f, H8.out, HHP.out, HS.out, HR.out, K8⟩
          · have HDS : Hid (DownI (sw f i b) n b) := down_step HD.out bp b0 bn HM.out ((lessB_iff _ _).1 hb2)
            rw [hb2] at HLE2
            have HHn : Hid (Hw B hb g cap f N w1) := H1
            clear H1
            go_wp2_with fail
            refine HLE2.mono ?_
            rintro e w8 ⟨rfl, L8⟩
            have H8 := HHn.out.on L8
            have K8 := K1.trans (Ko.under L8) (Or.inl rfl)
            have mS := meth_swap H8.cell
            have HSW := waySwap_at H8 hiN bN
            clear K1 L8 mL2 HLE2 HHn H8
            go_wp2_with fail
            refine HSW.mono ?_
            rintro e w9 ⟨rfl, H9, K9⟩
            have HH9 : Hid (Hw B hb g cap (sw f i b) N w9) := H9
            have K10 := K8.trans K9 (Or.inl rfl)
            have HS9 : Hid (Sm n f0 (sw f i b)) := HS.out.sw hin bn
            have HR9 : Hid (∀ k, n ≤ k → sw f i b k = f0 k) := fun k hk => (sw_k f (by omega) (by omega)).trans (HR.out k hk)
            have hme := meb
            clear HSW mS H9 K8 K9
            go_wp2
            go_roundw
            case rel => exact ⟨b, sw f i b, bb, rfl, HH9.out, HDS.out, HS9.out, HR9.out, K10⟩
            case measure => simp [intOf]; exact hme
      · have z2 : decide ((b : Int) < (n : Int)) = false := decide_eq_false (by clear y1a y1b y2a y2b y3a y3b z0 z1; omega)
        have hmin : ∀ k, 0 < k → k < n → (k - 1) / 2 = i → leW (f a) (f k) := fun k k0 kn kh => by
          rcases HC k k0 kn kh with rfl | rfl
          · exact leW_refl _
          · exact absurd kn hbn
        have HM : Hid (∀ k, 0 < k → k < n → (k - 1) / 2 = i → leW (f a) (f k)) := hmin
        have HCH : Hid (_) := HC
        clear hmin HC HB
        have H1 := H
        clear H
        have mL2 := meth_less H1.cell
        have HLE2 := wayLess_val H1 (aN) hiN
        cases hb2 : lessB (f a) (f i)
        · have HHP : Hid (Heap f n) := down_end HD.out (fun k k0 kn kh => leW_trans ((lessB_no _ _).1 hb2) (HM.out k k0 kn kh))
          rw [hb2] at HLE2
          have HHn : Hid (Hw B hb g cap f N wr) := H1
          clear H1
          go_wp2_with fail
          refine HLE2.mono ?_
          rintro e w8 ⟨rfl, L8⟩
          have H8 : Hid (Hw B hb g cap f N w8) := HHn.out.on L8
          have K8 := K.trans (Ko.under L8) (Or.inl rfl)
          clear K L8 mL2 HLE2 HHn
          go_wp2
          go_ret
          exact ⟨⟨_, rfl⟩, f, H8.out, HHP.out, HS.out, HR.out, K8⟩
        · have HDS : Hid (DownI (sw f i a) n a) := down_step HD.out ap a0 an HM.out ((lessB_iff _ _).1 hb2)
          rw [hb2] at HLE2
          have HHn : Hid (Hw B hb g cap f N wr) := H1
          clear H1
          go_wp2_with fail
          refine HLE2.mono ?_
          rintro e w8 ⟨rfl, L8⟩
          have H8 := HHn.out.on L8
          have K8 := K.trans (Ko.under L8) (Or.inl rfl)
          have mS := meth_swap H8.cell
          have HSW := waySwap_at H8 hiN aN
          clear K L8 mL2 HLE2 HHn H8
          go_wp2_with fail
          refine HSW.mono ?_
          rintro e w9 ⟨rfl, H9, K9⟩
          have HH9 : Hid (Hw B hb g cap (sw f i a) N w9) := H9
          have K10 := K8.trans K9 (Or.inl rfl)
          have HS9 : Hid (Sm n f0 (sw f i a)) := HS.out.sw hin an
          have HR9 : Hid (∀ k, n ≤ k → sw f i a k = f0 k) := fun k hk => (sw_k f (by omega) (by omega)).trans (HR.out k hk)
          have hme := mea
          clear HSW mS H9 K8 K9
          go_wp2
          go_roundw
          case rel => exact ⟨a, sw f i a, ab, rfl, HH9.out, HDS.out, HS9.out, HR9.out, K10⟩
          case measure => simp [intOf]; exact hme
    · have z1 : decide ((n : Int) ≤ (a : Int)) = true := decide_eq_true (by clear y1a y1b y2a y2b y3a y3b z0; omega)
      have HHP : Hid (Heap f n) := down_end HD.out (fun k k0 kn kh => by clear y1a y1b y2a y2b y3a y3b z0 z1; omega)
      have HHr : Hid (Hw B hb g cap f N wr) := H
      clear H hc ha hb'
      go_wp2
      go_ret
      exact ⟨⟨_, rfl⟩, f, HHr.out, HHP.out, HS.out, HR.out, K⟩

end Rd
end Go.Proofs.Ytfoccmhmgdengaa

/- container/heap's up, over the program's heap of ways. -/
import Derived.Test.YtfoccmhmgdengaaEaHwP
namespace Go.Proofs.Ytfoccmhmgdengaa
namespace Rd
open Go.ChangeShapes Go.WideShapes Go.ChangeAt Go.RowKit
open Pk (new_below join_below cell_at heap_new frozen_at lt_of kept heap_old info_of)
set_option linter.unusedSimpArgs false
set_option linter.unusedVariables false

def lessB (a b : Vw) : Bool := decide (orL [cmpI a.y b.y, cmpI (a.n : Int) (b.n : Int)] < 0)

theorem lessB_iff (a b : Vw) : lessB a b = true ↔ ¬ leW b a := less_leW a b
theorem lessB_no (a b : Vw) : lessB a b = false ↔ leW b a := by rw [← Bool.not_eq_true, lessB_iff, Classical.not_not]

theorem wayLess_val {B hb g cap n i j : Nat} {f : Nat → Vw} {w : World} (H : Hw B hb g cap f n w) (hi : i < n) (hj : j < n) :
    Calls Try.prog 98 #[.slice (some ⟨g, 0, none⟩) n cap, .int .i64 i, .int .i64 j] w fun e w' => e = .returned (.bool (lessB (f i) (f j))) ∧ Below w.heap.size w w' :=
  heapLess_val g n cap i j _ _ _ _ w hi hj H.lt ⟨(H.at hi).2.1, (H.at hj).2.1, (H.at hi).2.2, (H.at hj).2.2⟩

theorem waySwap_at {B hb g cap n i j : Nat} {f : Nat → Vw} {w : World} (H : Hw B hb g cap f n w) (hi : i < n) (hj : j < n) :
    Calls Try.prog 101 #[.slice (some ⟨g, 0, none⟩) n cap, .int .i64 i, .int .i64 j] w fun e w' => e = .returned (.tuple #[]) ∧ Hw B hb g cap (sw f i j) n w' ∧ Ko hb g w w' :=
  (waySwap_val B g cap n i j f w hi hj H.row).mono fun e w' h => ⟨h.1, H.turn h.2.2 h.2.1, Ko.of h.2.2 (Or.inl rfl)⟩

theorem w64 {x m : Int} (e : x = m) (h0 : -1000000000 ≤ m) (h1 : m ≤ 1000000000) : wrap64 x = m ∧ IntKind.i64.wrap x = m := by
  subst e
  exact ⟨by unfold wrap64; omega, by rw [IntKind.wrap_i64]; omega⟩

theorem half (m : Nat) : Int.tdiv (m : Int) 2 = ((m / 2 : Nat) : Int) := by
  rw [Int.tdiv_eq_ediv_of_nonneg (by omega)]
  omega

/-- The same ways, in other places. -/
def Sm (n : Nat) (f f' : Nat → Vw) : Prop := ∀ v, (∃ k, k < n ∧ f' k = v) ↔ ∃ k, k < n ∧ f k = v

theorem Sm.refl (n : Nat) (f : Nat → Vw) : Sm n f f := fun v => Iff.rfl
theorem Sm.sw {n i j : Nat} {f f' : Nat → Vw} (h : Sm n f f') (hi : i < n) (hj : j < n) : Sm n f (sw f' i j) := fun v => (sw_mem f' hi hj v).trans (h v)

set_option maxRecDepth 100000 in
set_option maxHeartbeats 400000 in
theorem heapUp_val (B hb g cap n j0 : Nat) (f0 : Nat → Vw) (w : World) (H0 : Hw B hb g cap f0 n w) (U0 : UpI f0 n j0) (hj0 : j0 < n) (hn : n < 1000000) :
    Calls Try.prog 70 #[.iface 94 (.pointer (some ⟨hb, 0, none⟩)), .int .i64 j0] w fun e w' => e = .returned (.tuple #[]) ∧ ∃ f, Hw B hb g cap f n w' ∧ Heap f n ∧ Sm n f0 f ∧ Ko hb g w w' := by
  go_enter Try.func70, Try.ntmps70
  go_wp2
  go_loopw [1] (fun jv wr => ∃ (j : Nat) (f : Nat → Vw), j < n ∧ jv = .int .i64 j ∧ Hw B hb g cap f n wr ∧ UpI f n j ∧ Sm n f0 f ∧ Ko hb g w wr) (fun jv _ => (intOf jv).toNat)
  case atStart => exact ⟨j0, f0, hj0, rfl, H0, U0, Sm.refl _ _, Ko.refl _ _ _⟩
  case round =>
    clear H0 U0 hj0
    obtain ⟨j, f, hjn, rfl, H, U, hS, K⟩ := hrel
    have HU : Hid (UpI f n j) := U
    have HS : Hid (Sm n f0 f) := hS
    have HH : Hid (Hw B hb g cap f n wr) := H
    clear U hS
    by_cases hj : j = 0
    · subst hj
      have y0 : wrap64 (0 - 1) = -1 := by unfold wrap64; omega
      have y1 : IntKind.i64.wrap (0 - 1) = -1 := by rw [IntKind.wrap_i64]; omega
      have HHP : Hid (Heap f n) := up_end HU.out (Or.inl rfl)
      clear H
      go_wp2
      go_end0
      exact ⟨rfl, f, HH.out, HHP.out, HS.out, K⟩
    · obtain ⟨i, hi⟩ : ∃ i, (j - 1) / 2 = i := ⟨_, rfl⟩
      obtain ⟨m, hm⟩ : ∃ m, j - 1 = m := ⟨_, rfl⟩
      have hin : i < n := by omega
      have hij : i < j := by omega
      have hj1 : 0 < j := by omega
      have e1 : (j : Int) - 1 = (m : Int) := by omega
      have e2 : m / 2 = i := by omega
      have e3 : m < 1000000 := by omega
      have y5 : ((i : Int) == (j : Int)) = false := by simp; omega
      obtain ⟨y0, y1⟩ := w64 e1 (by omega) (by omega)
      obtain ⟨y4, y3⟩ := w64 (rfl : (i : Int) = (i : Int)) (by omega) (by omega)
      have y2 : Int.tdiv (m : Int) 2 = (i : Int) := by rw [half, e2]
      clear e1 e2 e3
      have mL := meth_less H.cell
      have HLE := wayLess_val H hjn hin
      clear H hm
      cases hb1 : lessB (f j) (f i)
      · have HHP : Hid (Heap f n) := up_end HU.out (Or.inr (by rw [hi]; exact (lessB_no _ _).1 hb1))
        rw [hb1] at HLE
        go_wp2_with fail
        refine HLE.mono ?_
        rintro e w1 ⟨rfl, L1⟩
        have H1 : Hid (Hw B hb g cap f n w1) := HH.out.on L1
        have K1 := K.trans (Ko.under L1) (Or.inl rfl)
        clear K L1 mL HLE
        go_wp2
        go_end0
        exact ⟨rfl, f, H1.out, HHP.out, HS.out, K1⟩
      · have HUS : Hid (UpI (sw f i j) n i) := by
          have := up_step HU.out hj1 hjn (by rw [hi]; exact (lessB_iff _ _).1 hb1)
          rw [hi] at this
          exact this
        rw [hb1] at HLE
        go_wp2_with fail
        refine HLE.mono ?_
        rintro e w1 ⟨rfl, L1⟩
        have H1 := HH.out.on L1
        have K1 := K.trans (Ko.under L1) (Or.inl rfl)
        have mS := meth_swap H1.cell
        have HSW := waySwap_at H1 hin hjn
        clear K L1 mL HLE H1
        go_wp2_with fail
        refine HSW.mono ?_
        rintro e w2 ⟨rfl, H2, K2⟩
        have HH2 : Hid (Hw B hb g cap (sw f i j) n w2) := H2
        have K3 := K1.trans K2 (Or.inl rfl)
        clear HSW mS H2 K1 K2
        go_wp2
        go_roundw
        case rel => exact ⟨i, sw f i j, hin, rfl, HH2.out, HUS.out, HS.out.sw hin hjn, K3⟩
        case measure => simp [intOf]; exact hij

end Rd
end Go.Proofs.Ytfoccmhmgdengaa

/- container/heap's Push and Pop, over the program's heap of ways. -/
import Derived.Test.YtfoccmhmgdengaaEaDown
namespace Go.Proofs.Ytfoccmhmgdengaa
namespace Rd
open Go.ChangeShapes Go.WideShapes Go.ChangeAt Go.RowKit
open Pk (new_below join_below cell_at heap_new frozen_at lt_of kept heap_old info_of)
set_option linter.unusedSimpArgs false
set_option linter.unusedVariables false

theorem in_succ {n : Nat} {f : Nat → Vw} {u : Vw} : (∃ k, k < n + 1 ∧ f k = u) ↔ (∃ k, k < n ∧ f k = u) ∨ f n = u := by
  constructor
  · rintro ⟨k, hk, e⟩
    by_cases h : k = n
    · subst h; exact Or.inr e
    · exact Or.inl ⟨k, by omega, e⟩
  · rintro (⟨k, hk, e⟩ | e)
    · exact ⟨k, by omega, e⟩
    · exact ⟨n, by omega, e⟩

theorem upd_in {n : Nat} {f : Nat → Vw} {v u : Vw} : (∃ k, k < n + 1 ∧ upd f n v k = u) ↔ (∃ k, k < n ∧ f k = u) ∨ u = v := by
  rw [in_succ]
  have h1 : (∃ k, k < n ∧ upd f n v k = u) ↔ ∃ k, k < n ∧ f k = u := by
    constructor
    · rintro ⟨k, hk, e⟩
      exact ⟨k, hk, by rw [← e, upd, if_neg (by omega)]⟩
    · rintro ⟨k, hk, e⟩
      exact ⟨k, hk, by rw [← e, upd, if_neg (by omega)]⟩
  rw [h1, show upd f n v n = v from if_pos rfl]
  exact ⟨fun h => h.imp_right Eq.symm, fun h => h.imp_right Eq.symm⟩

set_option maxRecDepth 100000 in
set_option maxHeartbeats 2000000 in
theorem heapPush_val (B hb g cap n : Nat) (f : Nat → Vw) (v : Vw) (w : World) (H : Hw B hb g cap f n w) (P : Heap f n) (hn : n < 999999) (hB : B ≤ w.heap.size) :
    Calls Try.prog 54 #[.iface 94 (.pointer (some ⟨hb, 0, none⟩)), .iface 61 (vV v)] w fun e w' => e = .returned (.tuple #[]) ∧ ∃ g' cap' f', Hw B hb g' cap' f' (n + 1) w' ∧ Heap f' (n + 1) ∧ (∀ u, (∃ k, k < n + 1 ∧ f' k = u) ↔ (∃ k, k < n ∧ f k = u) ∨ u = v) ∧ Ko hb g w w' ∧ (g' = g ∨ w.heap.size ≤ g') := by
  have mP := meth_push ⟨hb, 0, none⟩
  have HPU := wayPush_val B hb g cap n f v w H (by omega) hB
  have hn1 : n + 1 < 1000000 := by omega
  have hn2 : n < n + 1 := by omega
  obtain ⟨y1, y2⟩ := w64 (show ((n + 1 : Nat) : Int) - 1 = (n : Int) by omega) (by omega) (by omega)
  have HUI : Hid (UpI (upd f n v) (n + 1) n) := up_push P v
  clear H P hB hn
  go_enter Try.func54, Try.ntmps54
  go_wp2_with fail
  refine HPU.mono ?_
  rintro e w1 ⟨rfl, g1, cap1, H1, K1, G1⟩
  have mL := meth_len H1.cell
  have HLN := wayLen_val (some ⟨g1, 0, none⟩) (n + 1) cap1 w1
  have HUP := heapUp_val B hb g1 cap1 (n + 1) n _ w1 H1 HUI.out hn2 hn1
  clear HPU mP H1
  go_wp2_with fail
  refine HLN.mono ?_
  rintro e w2 ⟨rfl, rfl⟩
  clear HLN mL
  go_wp2_with fail
  refine HUP.mono ?_
  rintro e w3 ⟨rfl, f3, H3, P3, S3, K3⟩
  clear HUP
  have K13 := K1.trans K3 G1
  clear K1 K3
  go_wp2
  go_end0
  exact ⟨rfl, g1, cap1, f3, H3, P3, fun u => (S3 u).trans upd_in, K13, G1⟩

set_option maxRecDepth 100000 in
set_option maxHeartbeats 2000000 in
theorem heapPop_val (B hb g cap n : Nat) (f : Nat → Vw) (w : World) (H : Hw B hb g cap f (n + 1) w) (P : Heap f (n + 1)) (hn : n < 999999) :
    Calls Try.prog 53 #[.iface 94 (.pointer (some ⟨hb, 0, none⟩))] w fun e w' => e = .returned (.iface 61 (vV (f 0))) ∧ ∃ f', Hw B hb g cap f' n w' ∧ Heap f' n ∧ (∀ u, (∃ k, k < n + 1 ∧ f k = u) ↔ (∃ k, k < n ∧ f' k = u) ∨ u = f 0) ∧ Ko hb g w w' := by
  have mL := meth_len H.cell
  have mS := meth_swap H.cell
  have mP := meth_pop ⟨hb, 0, none⟩
  have HLN := wayLen_val (some ⟨g, 0, none⟩) (n + 1) cap w
  have HSW : Calls Try.prog 101 #[.slice (some ⟨g, 0, none⟩) (n + 1) cap, .int .i64 0, .int .i64 n] w fun e w' => e = .returned (.tuple #[]) ∧ Hw B hb g cap (sw f 0 n) (n + 1) w' ∧ Ko hb g w w' := waySwap_at (i := 0) (j := n) H (by omega) (by omega)
  have hn1 : n + 1 < 1000000 := by omega
  have hn2 : n ≤ n + 1 := by omega
  have hn3 : n < 1000000 := by omega
  obtain ⟨y1, y2⟩ := w64 (show ((n + 1 : Nat) : Int) - 1 = (n : Int) by omega) (by omega) (by omega)
  have HDI : Hid (DownI (sw f 0 n) n 0) := down_pop P
  clear H P hn
  go_enter Try.func53, Try.ntmps53
  go_wp2_with fail
  refine HLN.mono ?_
  rintro e w1 ⟨rfl, rfl⟩
  clear HLN mL
  go_wp2_with fail
  refine HSW.mono ?_
  rintro e w2 ⟨rfl, H2, K2⟩
  have HDN := heapDown_val B hb g cap (n + 1) n _ w2 H2 HDI.out hn2 hn1
  clear HSW mS H2
  go_wp2_with fail
  refine HDN.mono ?_
  rintro e w3 ⟨⟨b, rfl⟩, f3, H3, P3, S3, R3, K3⟩
  have HPO := wayPop_val B hb g cap n f3 w3 H3 hn3
  have K23 := K2.trans K3 (Or.inl rfl)
  have e3 : f3 n = f 0 := by rw [R3 n (Nat.le_refl _), sw_j]
  have HM : Hid (∀ u, (∃ k, k < n + 1 ∧ f k = u) ↔ (∃ k, k < n ∧ f3 k = u) ∨ u = f 0) := fun u => by
    rw [← sw_mem f (i := 0) (j := n) (by omega) (by omega) u, in_succ, sw_j, S3 u]
    exact ⟨fun h => h.imp_right Eq.symm, fun h => h.imp_right Eq.symm⟩
  have HP3 : Hid (Heap f3 n) := P3
  rw [e3] at HPO
  clear HDN H3 P3 S3 R3 K2 K3 e3
  go_wp2_with fail
  refine HPO.mono ?_
  rintro e w4 ⟨rfl, H4, K4⟩
  have K5 := K23.trans K4 (Or.inl rfl)
  clear HPO mP K23 K4
  go_wp2
  go_ret
  exact ⟨rfl, f3, H4, HP3.out, HM.out, K5⟩

end Rd
end Go.Proofs.Ytfoccmhmgdengaa

/- Contracts of the model's reader of bits. -/
import Derived.Test.YtcifgableeeooalDoorPkCode
import Derived.Test.YtcifgableeeooalDoorPkRow
import Derived.Test.YtcifgableeeooalDoorMathUnp
namespace Go.Proofs.YtcifgableeeooalDoor
namespace Pk
open Go.ChangeShapes Go.WideShapes Go.ChangeAt Go.RowKit
open Math (bitAt lowAt topAt)
set_option linter.unusedSimpArgs false
set_option linter.unusedVariables false

/-- The reader at block c stands behind a bits of the text; behind its end it is cut off. -/
def RdS (B c : Nat) (s : ByteArray) (a : Nat) (w : World) : Prop := B ≤ c ∧ w.heap[c]? = some (.cells #[.string s, .int .i64 ((min a (8 * s.size) : Nat) : Int), .bool (decide (8 * s.size < a))] 41)

/-- All but block c is as it was. -/
def Mv (c : Nat) (w w1 : World) : Prop := w1.heap.size = w.heap.size ∧ ∀ k, k ≠ c → w1.heap[k]? = w.heap[k]?

theorem Mv.refl (c : Nat) (w : World) : Mv c w w := ⟨rfl, fun _ _ => rfl⟩

theorem Mv.trans {c : Nat} {w w1 w2 : World} (h : Mv c w w1) (g : Mv c w1 w2) : Mv c w w2 := ⟨g.1.trans h.1, fun k hk => (g.2 k hk).trans (h.2 k hk)⟩

theorem Mv.set (c i : Nat) (w : World) (u : Value) : Mv c w (w.setCell ⟨c, i, none⟩ u) := ⟨World.size_setCell _ _ _, fun k hk => Below.heap_setCell _ _ _ _ hk⟩

theorem Mv.drewN {c : Nat} {w w1 : World} (h : Mv c w w1) (n : Nat) : Mv c w (w1.drewN n) := ⟨h.1, h.2⟩

theorem below_drewN {B : Nat} {w w1 : World} (L : Below B w w1) (q : Nat) : Below B w (w1.drewN q) := L.trans ⟨rfl, rfl, rfl, Nat.le_refl _, fun _ _ => rfl⟩

theorem hp_set {w : World} {c i : Nat} {cs : Array Value} {t : TypeId} {f : Nat × Nat} (h : w.heap[c]? = some (.cells cs t f)) (u : Value) : (w.setCell ⟨c, i, none⟩ u).heap[c]? = some (.cells (cs.setIfInBounds i u) t f) := by
  unfold World.setCell
  simp [Array.getElem?_modify, h]

theorem wrap_is (n : Int) (h : -9223372036854775808 ≤ n ∧ n ≤ 9223372036854775807) : IntKind.i64.wrap n = n := by
  rw [IntKind.wrap_i64]
  omega

theorem bit_quo (b r : Nat) : (b : Int) / (p2 r : Int) = ((b / 2 ^ r : Nat) : Int) := by
  unfold p2
  simp

set_option maxRecDepth 100000 in
set_option maxHeartbeats 1000000 in
theorem bitS_val (B c : Nat) (s : ByteArray) (a : Nat) (w : World) (hs : s.size ≤ 100000) (ha : a ≤ 1000000) (H : RdS B c s a w) :
    Calls Tryd.prog 13 #[.pointer (some ⟨c, 0, none⟩)] w fun e w' => e = .returned (.int .i64 (bitAt s a)) ∧ RdS B c s (a + 1) w' ∧ Mv c w w' ∧ Below B w w' := by
  obtain ⟨hB, m⟩ := H
  have f1 := frozen_at m 1
  have f2 := frozen_at m 2
  have c0 : w.cell? ⟨c, 0, none⟩ = some (.string s) := cell_at m 0
  by_cases h : a < 8 * s.size
  · have e1 : min a (8 * s.size) = a := by omega
    have e2 : decide (8 * s.size < a) = false := decide_eq_false (by omega)
    rw [e1, e2] at m
    have c1 : w.cell? ⟨c, 1, none⟩ = some (.int .i64 (a : Int)) := cell_at m 1
    have hi : a / 8 < s.size := by omega
    have HB : Hid (_) := Math.bitAt_in s a hi
    have hq : (a : Int) / 8 = ((a / 8 : Nat) : Int) := by omega
    have hr : (a : Int) % 8 = ((a % 8 : Nat) : Int) := by omega
    have hr8 : a % 8 ≤ 40 := by omega
    have ht : Int.tmod (a : Int) 8 = ((a % 8 : Nat) : Int) := by rw [Int.tmod_eq_emod_of_nonneg (by omega)]; omega
    have htd : Int.tdiv (a : Int) 8 = ((a / 8 : Nat) : Int) := by rw [Int.tdiv_eq_ediv_of_nonneg (by omega)]; omega
    have ht2 : Int.tmod ((s[a / 8].toNat / 2 ^ (a % 8) : Nat) : Int) 2 = ((s[a / 8].toNat / 2 ^ (a % 8) % 2 : Nat) : Int) := (Int.ofNat_tmod _ _).symm
    have htq : Int.tdiv (s[a / 8].toNat : Int) (p2 (a % 8) : Int) = ((s[a / 8].toNat / 2 ^ (a % 8) : Nat) : Int) := by rw [Int.tdiv_eq_ediv_of_nonneg (by omega)]; exact bit_quo _ _
    have hP := p2_pos (a % 8)
    have hP2 := p2_bd (a % 8) hr8
    have HPW : Hid (∀ w, _) := fun w => pow2_val (a % 8) w hr8
    have hdv := bit_quo s[a / 8].toNat (a % 8)
    have hbt := s[a / 8].toNat_lt
    have hd8 : ¬ (8 * (s.size : Int) ≤ (a : Int)) := by omega
    have hd8' : decide (8 * (s.size : Int) ≤ (a : Int)) = false := decide_eq_false hd8
    have HM : Hid (_) := m
    have hil : ((a / 8 : Nat) : Int) < (s.size : Int) := by omega
    have hmod : ((s[a / 8].toNat / 2 ^ (a % 8) : Nat) : Int) % 2 = ((s[a / 8].toNat / 2 ^ (a % 8) % 2 : Nat) : Int) := by omega
    have HW : Hid (∀ (w1 : World) n, w1.heap[c]? = some (.cells #[.string s, .int .i64 (a : Int), .bool false] 41) → RdS B c s (a + 1) ((w1.drewN n).setCell ⟨c, 1, none⟩ (.int .i64 ((a : Int) + 1)))) := by
      intro w1 n m1
      refine ⟨hB, ?_⟩
      rw [show min (a + 1) (8 * s.size) = a + 1 by omega, decide_eq_false (show ¬ 8 * s.size < a + 1 by omega)]
      exact hp_set (w := w1.drewN n) (i := 1) m1 (.int .i64 ((a : Int) + 1))
    have hdl : s[a / 8].toNat / 2 ^ (a % 8) ≤ s[a / 8].toNat := Nat.div_le_self _ _
    rw [HB.out]
    have HA : Hid (a = 8 * (a / 8) + a % 8) := by show _ = _; omega
    clear m e1 e2 h HB
    generalize a / 8 = i at *
    generalize a % 8 = r at *
    generalize p2 r = Q at *
    generalize s[i].toNat / 2 ^ r = Y at *
    generalize hYb : Y % 2 = yb at *
    have hyb1 : yb ≤ 1 := by omega
    clear hYb
    have hi0 : (0 : Int) ≤ (i : Int) := by omega
    have hw1 : IntKind.i64.wrap (i : Int) = i := wrap_is _ (by omega)
    have hw2 : IntKind.i64.wrap (r : Int) = r := wrap_is _ (by omega)
    have hw3 : IntKind.i64.wrap (Y : Int) = Y := wrap_is _ (by omega)
    have hw5 : IntKind.i64.wrap (s[i].toNat : Int) = s[i].toNat := wrap_is _ (by omega)
    have hw4 : IntKind.i64.wrap (yb : Int) = yb := wrap_is _ (by omega)
    go_enter Tryd.func13, Tryd.ntmps13
    go_wp2
    go_quiet (fail)
    have m9 : (w.drewN nq).heap[c]? = some (.cells #[.string s, .int .i64 (a : Int), .bool false] 41) := HM.out
    have M9 : Mv c w (w.drewN nq) := (Mv.refl c w).drewN nq
    have L9 : Below B w (w.drewN nq) := below_drewN (Below.refl B w) nq
    clear c0 c1 f1 f2 HM
    generalize w.drewN nq = w9 at m9 M9 L9 ⊢
    have c0 : w9.cell? ⟨c, 0, none⟩ = some (.string s) := cell_at m9 0
    have c1 : w9.cell? ⟨c, 1, none⟩ = some (.int .i64 (a : Int)) := cell_at m9 1
    have f1 := frozen_at m9 1
    have HM : Hid (_) := m9
    clear m9
    go_wp2_with fail
    go_quiet ((go_at_call 22; exact Calls.quiet_of_same (HPW.out _)))
    go_wp2
    go_ret
    exact ⟨rfl, HW.out _ _ HM.out, (M9.drewN _).trans (Mv.set c 1 _ _), (below_drewN L9 _).setCell hB _⟩
  · have e1 : min a (8 * s.size) = 8 * s.size := by omega
    rw [e1] at m
    have HB : Hid (_) := Math.bitAt_far s a (by omega)
    have c1 : w.cell? ⟨c, 1, none⟩ = some (.int .i64 ((8 * s.size : Nat) : Int)) := cell_at m 1
    have c2 : w.cell? ⟨c, 2, none⟩ = some (.bool (decide (8 * s.size < a))) := cell_at m 2
    have HW : Hid (∀ n, RdS B c s (a + 1) ((w.drewN n).setCell ⟨c, 2, none⟩ (.bool true))) := by
      intro n
      refine ⟨hB, ?_⟩
      rw [show min (a + 1) (8 * s.size) = 8 * s.size by omega, decide_eq_true (show 8 * s.size < a + 1 by omega)]
      exact hp_set (w := w.drewN n) (i := 2) m (.bool true)
    rw [HB.out]
    generalize decide (8 * s.size < a) = cc at *
    have e8 : ((8 * s.size : Nat) : Int) = 8 * (s.size : Int) := by omega
    rw [e8] at c1
    clear m e1 HB e8 h
    go_enter Tryd.func13, Tryd.ntmps13
    go_wp2
    go_quiet (fail)
    go_wp2
    go_ret
    exact ⟨rfl, HW.out _, (Mv.refl c w).drewN _ |>.trans (Mv.set c 2 _ _), (below_drewN (Below.refl B w) _).setCell hB _⟩

set_option maxHeartbeats 1000000 in
theorem numS_val (B c : Nat) (s : ByteArray) (a n : Nat) (w : World) (hs : s.size ≤ 100000) (ha : a ≤ 900000) (hn : n ≤ 30) (H : RdS B c s a w) :
    Calls Tryd.prog 14 #[.pointer (some ⟨c, 0, none⟩), .int .i64 n] w fun e w' => e = .returned (.int .i64 (lowAt s a n)) ∧ RdS B c s (a + n) w' ∧ Mv c w w' ∧ Below B w w' := by
  go_enter Tryd.func14, Tryd.ntmps14
  go_wp2
  go_loopw [5, 6] (fun x i wr => ∃ (k y : Nat), k ≤ n ∧ y < 1099511627776 ∧ x = .int .i64 y ∧ i = .int .i64 k ∧ Hid (y = lowAt s a k) ∧ Hid (RdS B c s (a + k) wr) ∧ Mv c w wr ∧ Below B w wr) (fun _ i _ => n - (intOf i).toNat)
  case atStart => exact ⟨0, 0, by omega, by omega, rfl, rfl, rfl, H, Mv.refl _ _, Below.refl _ _⟩
  case round =>
    obtain ⟨k, y, hk, hy, rfl, rfl, HY, HR, M, L⟩ := hrel
    by_cases hkn : k < n
    · have HN : Hid (lowAt s a (k + 1) = y + bitAt s (a + k) * p2 k) := by show _ = _; rw [HY.out]; rfl
      have hlt := Math.lowAt_lt s a (k + 1)
      have hlp : 2 ^ (k + 1) ≤ 2 ^ 31 := Nat.pow_le_pow_right (by omega) (by omega)
      rw [HN.out] at hlt
      have hb1 := Math.bitAt_le s (a + k)
      have HBV : Hid (_) := bitS_val B c s (a + k) wr hs (by omega) HR.out
      have HPW : Hid (∀ w, _) := fun w => pow2_val k w (by omega)
      have hP2 := p2_bd k (by omega)
      generalize bitAt s (a + k) = b at *
      generalize p2 k = Q at *
      have hbq : b * Q ≤ 1099511627776 := by
        have h3 : b * Q ≤ 1 * Q := Nat.mul_le_mul_right _ hb1
        omega
      have hmul : (b : Int) * (Q : Int) = ((b * Q : Nat) : Int) := by simp
      generalize b * Q = bq at *
      clear HR
      go_wp2_with fail
      refine (Calls.mono HBV.out ?_)
      rintro e w2 ⟨rfl, R2, M2, L2⟩
      have R3 : Hid (RdS B c s (a + (k + 1)) w2) := R2
      have M3 := M.trans M2
      have L3 := L.trans L2
      clear R2 M2 L2 M L HBV
      go_wp2_with fail
      refine (HPW.out _).mono ?_
      rintro e w4 ⟨rfl, rfl⟩
      go_wp2
      go_roundw
      case rel => exact ⟨k + 1, y + bq, by omega, by omega, by go_num, by go_num, HN.out.symm, R3, M3, L3⟩
      case measure => simp [intOf]; omega
    · obtain rfl : k = n := by omega
      go_wp2
      go_ret
      exact ⟨by rw [← HY.out] <;> rfl, HR.out, M, L⟩

set_option maxHeartbeats 1000000 in
theorem topS_val (B c : Nat) (s : ByteArray) (a n : Nat) (w : World) (hs : s.size ≤ 100000) (ha : a ≤ 900000) (hn : n ≤ 30) (H : RdS B c s a w) :
    Calls Tryd.prog 25 #[.pointer (some ⟨c, 0, none⟩), .int .i64 n] w fun e w' => e = .returned (.int .i64 (topAt s a n)) ∧ RdS B c s (a + n) w' ∧ Mv c w w' ∧ Below B w w' := by
  go_enter Tryd.func25, Tryd.ntmps25
  go_wp2
  go_loopw [5, 6] (fun x i wr => ∃ (k y : Nat), k ≤ n ∧ y < 1099511627776 ∧ x = .int .i64 y ∧ i = .int .i64 k ∧ Hid (y = topAt s a k) ∧ Hid (RdS B c s (a + k) wr) ∧ Mv c w wr ∧ Below B w wr) (fun _ i _ => n - (intOf i).toNat)
  case atStart => exact ⟨0, 0, by omega, by omega, rfl, rfl, rfl, H, Mv.refl _ _, Below.refl _ _⟩
  case round =>
    obtain ⟨k, y, hk, hy, rfl, rfl, HY, HR, M, L⟩ := hrel
    by_cases hkn : k < n
    · have HN : Hid (topAt s a (k + 1) = 2 * y + bitAt s (a + k)) := by show _ = _; rw [HY.out]; rfl
      have hlt := Math.topAt_lt s a (k + 1)
      have hlp : 2 ^ (k + 1) ≤ 2 ^ 31 := Nat.pow_le_pow_right (by omega) (by omega)
      rw [HN.out] at hlt
      have hb1 := Math.bitAt_le s (a + k)
      have HBV : Hid (_) := bitS_val B c s (a + k) wr hs (by omega) HR.out
      generalize bitAt s (a + k) = b at *
      clear HR
      go_wp2_with fail
      refine (Calls.mono HBV.out ?_)
      rintro e w2 ⟨rfl, R2, M2, L2⟩
      have R3 : Hid (RdS B c s (a + (k + 1)) w2) := R2
      have M3 := M.trans M2
      have L3 := L.trans L2
      clear R2 M2 L2 M L HBV
      go_wp2
      go_roundw
      case rel => exact ⟨k + 1, 2 * y + b, by omega, by omega, by go_num, by go_num, HN.out.symm, R3, M3, L3⟩
      case measure => simp [intOf]; omega
    · obtain rfl : k = n := by omega
      go_wp2
      go_ret
      exact ⟨by rw [← HY.out] <;> rfl, HR.out, M, L⟩

/-- A row whose block is not the reader's is kept. -/
theorem own_mv {c base e size : Nat} {w w1 : World} {v : Value} {n : Nat} {xs : List Value} {cs : Array Value} {t : TypeId} {f : Nat × Nat} (h : w.ownsRow base e size v n xs) (M : Mv c w w1) (m : w.heap[c]? = some (.cells cs t f)) (hte : t ≠ e) : w1.ownsRow base e size v n xs := by
  have hne := own_ne' h m hte
  obtain ⟨h1, h2⟩ := h
  refine ⟨h1, ?_⟩
  rcases h2 with h2 | ⟨g, cap, cur, hv, hg, hh, hr⟩
  · exact Or.inl h2
  · refine Or.inr ⟨g, cap, cur, hv, hg, ?_, hr⟩
    have hgc : g ≠ c := by
      intro hgc
      subst hgc
      exact hne (by rw [hv]; rfl)
    rw [M.2 g hgc]
    exact hh

end Pk
end Go.Proofs.YtcifgableeeooalDoor

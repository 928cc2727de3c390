/- The program's readers of a copy's length and of its way back, of a stored block's length; its bound. -/
import Derived.Test.YtcifgableeeooalDoorUnSymI
import Derived.Test.YtcifgableeeooalDoorUnSpec
import Derived.Test.YtcifgableeeooalDoorUnLeast
namespace Go.Proofs.YtcifgableeeooalDoor
namespace Pk
open Go.ChangeShapes Go.WideShapes Go.ChangeAt Go.RowKit
open Math (bitAt lowAt topAt symAt symLen lenBits lenTold backTold cleast cbits storedC)
set_option linter.unusedSimpArgs false
set_option linter.unusedVariables false

set_option maxRecDepth 100000 in
set_option maxHeartbeats 1000000 in
theorem lenI_val (c : Nat) (s : ByteArray) (a y : Nat) (v : Value) (w : World) (hs : s.size ≤ 100000) (ha : a ≤ 8 * s.size) (h1 : 257 ≤ y) (h2 : y ≤ 285) (H : RdI c s a v w) :
    Calls Tryd.prog 39 #[.pointer (some ⟨c, 0, none⟩), .int .i64 y] w fun e w' => ((8 * s.size < a + lenBits y → e = fault 1) ∧ (¬ 8 * s.size < a + lenBits y → e = .returned (.int .i64 (lenTold s a y : Nat)) ∧ RdI c s (a + lenBits y) v w')) ∧ Bt c w w' := by
  by_cases hy : y = 285
  · subst hy
    have e1 : lenBits 285 = 0 := rfl
    have e2 : lenTold s a 285 = 258 := if_pos rfl
    rw [e1, e2]
    go_enter Tryd.func39, Tryd.ntmps39
    go_wp2
    go_ret
    exact ⟨⟨fun h => absurd h (by omega), fun _ => ⟨rfl, H⟩⟩, Bt.refl _ _⟩
  · obtain ⟨k, rfl⟩ : ∃ k, y = 257 + k := ⟨y - 257, by omega⟩
    have hk : k < 28 := by omega
    have e1 : lenBits (257 + k) = cbits 4 k := by unfold lenBits; rw [if_neg hy, Nat.add_sub_cancel_left]
    have e2 : lenTold s a (257 + k) = cleast 4 k + 3 + lowAt s a (cbits 4 k) := by unfold lenTold; rw [if_neg hy, Nat.add_sub_cancel_left]
    obtain ⟨g1, _, _, g4⟩ := len_there k hk
    have HL : Hid (∀ W : World, Calls Tryd.prog 45 #[.int .i64 k, .int .i64 2] W fun e w' => e = .returned (.tuple #[.int .i64 (cleast 4 k : Nat), .int .i64 (cbits 4 k : Nat)]) ∧ w' = W) := fun W => least2_val k W hk
    rw [e1, e2]
    clear e1 e2
    have hb := Math.lowAt_lt s a (cbits 4 k)
    have hp : 2 ^ cbits 4 k ≤ 2 ^ 5 := Nat.pow_le_pow_right (by omega) g4
    generalize cleast 4 k = C at *
    generalize cbits 4 k = N at *
    have HC : Hid (8 * s.size < a + N → _) := fun h => lowI_cut 0 c s a N v w hs (Nat.zero_le _) (by omega) ha h H
    have HO : Hid (a + N ≤ 8 * s.size → _) := fun h => lowI_ok 0 c s a N v w hs (Nat.zero_le _) (by omega) h H
    have hyi : ¬ ((257 + k : Nat) : Int) = 285 := by omega
    have hki : ((257 + k : Nat) : Int) - 257 = (k : Int) := by omega
    generalize lowAt s a N = Z at *
    have hz : Z < 32 := by omega
    clear hb hp hy
    generalize 257 + k = y at *
    go_enter Tryd.func39, Tryd.ntmps39
    go_wp2_with fail
    refine (HL.out _).mono ?_
    rintro e x1 ⟨rfl, rfl⟩
    by_cases hcut : 8 * s.size < a + N
    · have HX : Hid (_) := HC.out hcut
      clear HC HO
      go_wp2_with fail
      refine Calls.mono HX.out ?_
      rintro e x2 ⟨rfl, M, L⟩
      exact ⟨rfl, ⟨fun _ => rfl, fun h => absurd hcut h⟩, Bt.of M L⟩
    · have HX : Hid (_) := HO.out (by omega)
      clear HC HO
      go_wp2_with fail
      refine Calls.mono HX.out ?_
      rintro e x2 ⟨rfl, R, M, L⟩
      have hw : IntKind.i64.wrap (3 + (C : Int) + (Z : Int)) = ((C + 3 + Z : Nat) : Int) := by rw [IntKind.wrap_i64]; omega
      have HR : Hid (_) := R
      clear R
      go_wp2
      go_ret
      exact ⟨⟨fun h => absurd h hcut, fun _ => ⟨by go_num, HR.out⟩⟩, Bt.of M L⟩

set_option maxRecDepth 100000 in
set_option maxHeartbeats 1000000 in
theorem backI_val (c : Nat) (s : ByteArray) (a : Nat) (v : Value) (w : World) (hs : s.size ≤ 100000) (ha : a ≤ 8 * s.size) (H : RdI c s a v w) :
    Calls Tryd.prog 40 #[.pointer (some ⟨c, 0, none⟩)] w fun e w' => ((8 * s.size < a + 5 → e = fault 1) ∧ (¬ 8 * s.size < a + 5 → 29 < topAt s a 5 → e = fault 3) ∧ (¬ 8 * s.size < a + 5 → ¬ 29 < topAt s a 5 → 8 * s.size < a + 5 + cbits 2 (topAt s a 5) → e = fault 1) ∧ (¬ 8 * s.size < a + 5 → ¬ 29 < topAt s a 5 → ¬ 8 * s.size < a + 5 + cbits 2 (topAt s a 5) → e = .returned (.int .i64 (backTold s (a + 5) (topAt s a 5) : Nat)) ∧ RdI c s (a + 5 + cbits 2 (topAt s a 5)) v w')) ∧ Bt c w w' := by
  have ht := Math.topAt_lt s a 5
  have HRF : Hid (∀ W : World, _) := fun W => refuse_no 3 W
  have HRY : Hid (∀ W : World, _) := fun W => refuse_yes 3 W
  by_cases h5 : 8 * s.size < a + 5
  · have HC : Hid (Calls Tryd.prog 44 #[.pointer (some ⟨c, 0, none⟩), .int .i64 5] w fun e w' => e = fault 1 ∧ Mv c w w' ∧ Below 0 w w') := topI_cut 0 c s a 5 v w hs (Nat.zero_le _) (by omega) ha h5 H
    go_enter Tryd.func40, Tryd.ntmps40
    go_wp2_with fail
    refine Calls.mono HC.out ?_
    rintro e x2 ⟨rfl, M, L⟩
    exact ⟨rfl, ⟨fun _ => rfl, fun h => absurd h5 h, fun h => absurd h5 h, fun h => absurd h5 h⟩, Bt.of M L⟩
  · have HT : Hid (Calls Tryd.prog 44 #[.pointer (some ⟨c, 0, none⟩), .int .i64 5] w fun e w' => e = .returned (.int .i64 (topAt s a 5 : Nat)) ∧ RdI c s (a + 5) v w' ∧ Mv c w w' ∧ Below 0 w w') := topI_ok 0 c s a 5 v w hs (Nat.zero_le _) (by omega) (by omega) H
    generalize topAt s a 5 = k at *
    by_cases h29 : 29 < k
    · have hq : (29 : Int) < (k : Int) := by omega
      go_enter Tryd.func40, Tryd.ntmps40
      go_wp2_with fail
      refine Calls.mono HT.out ?_
      rintro e w2 ⟨rfl, R2, M2, L2⟩
      have B2 := Bt.of M2 L2
      clear HT M2 L2
      go_wp2_with fail
      refine (HRY.out _).mono ?_
      rintro e x6 ⟨rfl, rfl⟩
      exact ⟨rfl, ⟨fun h => absurd h h5, fun _ _ => rfl, fun _ h => absurd h29 h, fun _ h => absurd h29 h⟩, B2⟩
    · have hq : ¬ (29 : Int) < (k : Int) := by omega
      obtain ⟨g1, g4⟩ := Math.back_bds k (by omega)
      have HL : Hid (∀ W : World, Calls Tryd.prog 45 #[.int .i64 k, .int .i64 1] W fun e w' => e = .returned (.tuple #[.int .i64 (cleast 2 k : Nat), .int .i64 (cbits 2 k : Nat)]) ∧ w' = W) := fun W => least1_val k W (by omega)
      have e2 : backTold s (a + 5) k = cleast 2 k + 1 + lowAt s (a + 5) (cbits 2 k) := rfl
      rw [e2]
      clear e2
      have hb := Math.lowAt_lt s (a + 5) (cbits 2 k)
      have hp : 2 ^ cbits 2 k ≤ 2 ^ 13 := Nat.pow_le_pow_right (by omega) g4
      generalize cleast 2 k = C at *
      generalize cbits 2 k = N at *
      have HC : Hid (∀ W : World, RdI c s (a + 5) v W → 8 * s.size < a + 5 + N → _) := fun W R h => lowI_cut 0 c s (a + 5) N v W hs (Nat.zero_le _) (by omega) (by omega) h R
      have HO : Hid (∀ W : World, RdI c s (a + 5) v W → a + 5 + N ≤ 8 * s.size → _) := fun W R h => lowI_ok 0 c s (a + 5) N v W hs (Nat.zero_le _) (by omega) h R
      generalize lowAt s (a + 5) N = Z at *
      have hz : Z < 8192 := by omega
      clear hb hp
      go_enter Tryd.func40, Tryd.ntmps40
      go_wp2_with fail
      refine Calls.mono HT.out ?_
      rintro e w2 ⟨rfl, R2, M2, L2⟩
      have B2 := Bt.of M2 L2
      clear HT M2 L2
      have hq2 : decide ((29 : Int) < (k : Int)) = false := decide_eq_false (by omega)
      clear hq
      go_wp2_with fail
      refine (HRF.out _).mono ?_
      rintro e x6 ⟨rfl, rfl⟩
      go_wp2_with fail
      refine (HL.out _).mono ?_
      rintro e x1 ⟨rfl, rfl⟩
      by_cases hcut : 8 * s.size < a + 5 + N
      · have HX : Hid (_) := HC.out _ R2 hcut
        clear HC HO
        go_wp2_with fail
        refine Calls.mono HX.out ?_
        rintro e x2 ⟨rfl, M, L⟩
        exact ⟨rfl, ⟨fun h => absurd h h5, fun _ h => absurd h h29, fun _ _ _ => rfl, fun _ _ h => absurd hcut h⟩, B2.trans (Bt.of M L)⟩
      · have HX : Hid (_) := HO.out _ R2 (by omega)
        clear HC HO
        go_wp2_with fail
        refine Calls.mono HX.out ?_
        rintro e x2 ⟨rfl, R, M, L⟩
        have HR : Hid (_) := R
        have HB : Hid (_) := B2.trans (Bt.of M L)
        clear R R2 B2 M L
        go_wp2
        go_ret
        exact ⟨⟨fun h => absurd h h5, fun _ h => absurd h h29, fun _ _ h => absurd h hcut, fun _ _ _ => ⟨by go_num, HR.out⟩⟩, HB.out⟩

set_option maxRecDepth 100000 in
set_option maxHeartbeats 1000000 in
theorem beyond_val (c : Nat) (s : ByteArray) (a L n : Nat) (p : Option Addr) (k : Nat) (w : World) (hL : L ≤ 100000) (hn : n ≤ 100000) (H : RdI c s a (.slice p L k) w) :
    Calls Tryd.prog 38 #[.pointer (some ⟨c, 0, none⟩), .int .i64 n] w fun e w' => ((3000 < L + n → e = fault 5) ∧ (¬ 3000 < L + n → e = .returned (.tuple #[]))) ∧ w' = w := by
  have m : w.heap[c]? = some (.cells #[.string s, .int .i64 (a : Int), .slice p L k] 61) := H
  have c2 : w.cell? ⟨c, 2, none⟩ = some (.slice p L k) := cell_at m 2
  have HRF : Hid (∀ W : World, _) := fun W => refuse_no 5 W
  have HRY : Hid (∀ W : World, _) := fun W => refuse_yes 5 W
  have hw : IntKind.i64.wrap ((L : Int) + (n : Int)) = (L : Int) + (n : Int) := by rw [IntKind.wrap_i64]; omega
  clear m H
  by_cases h : 3000 < L + n
  · have hq : (3000 : Int) < (L : Int) + (n : Int) := by omega
    go_enter Tryd.func38, Tryd.ntmps38
    go_wp2_with fail
    refine (HRY.out _).mono ?_
    rintro e x6 ⟨rfl, rfl⟩
    exact ⟨rfl, ⟨fun _ => rfl, fun g => absurd h g⟩, rfl⟩
  · have hq : ¬ (3000 : Int) < (L : Int) + (n : Int) := by omega
    go_enter Tryd.func38, Tryd.ntmps38
    go_wp2_with fail
    refine (HRF.out _).mono ?_
    rintro e x6 ⟨rfl, rfl⟩
    go_wp2
    exact ⟨rfl, _, results_none rfl _ _ _, ⟨fun g => absurd g h, fun _ => rfl⟩, rfl⟩

theorem xor_all (n : Nat) (h : n < 65536) : n ^^^ 65535 = 65535 - n := by
  have h1 : (BitVec.ofNat 16 n ^^^ BitVec.allOnes 16).toNat = (~~~ BitVec.ofNat 16 n).toNat := by rw [BitVec.xor_allOnes]
  rw [BitVec.toNat_xor, BitVec.toNat_not, BitVec.toNat_allOnes, BitVec.toNat_ofNat, Nat.mod_eq_of_lt (by omega)] at h1
  exact h1

theorem xor_i (n : Nat) (h : n < 65536) : bits BinOp.xor IntKind.i64 (n : Int) 65535 = ((65535 - n : Nat) : Int) := by
  have h2 := Math.bits_xor_i64 n 65535 (by omega) (by omega)
  rw [xor_all n h] at h2
  exact h2

/-- How the reader of a stored block's length ends; nothing was made before. -/
def StoEnd (s : ByteArray) (c : Nat) (v : Value) (e : Ending) (w : World) : Prop :=
  (s.size < 5 → e = fault 1) ∧ (¬ s.size < 5 → lowAt s 8 16 + lowAt s 24 16 ≠ 65535 → e = fault 3) ∧ (¬ s.size < 5 → ¬ lowAt s 8 16 + lowAt s 24 16 ≠ 65535 → 3000 < lowAt s 8 16 → e = fault 5) ∧ (¬ s.size < 5 → ¬ lowAt s 8 16 + lowAt s 24 16 ≠ 65535 → ¬ 3000 < lowAt s 8 16 → e = .returned (.int .i64 (lowAt s 8 16 : Nat)) ∧ RdI c s 40 v w)

set_option maxRecDepth 100000 in
set_option maxHeartbeats 1000000 in
theorem stoI_val (c : Nat) (s : ByteArray) (a : Nat) (p : Option Addr) (k : Nat) (w : World) (hs1 : 1 ≤ s.size) (hs : s.size ≤ 100000) (H : RdI c s a (.slice p 0 k) w) :
    Calls Tryd.prog 42 #[.pointer (some ⟨c, 0, none⟩)] w fun e w' => StoEnd s c (.slice p 0 k) e w' ∧ Bt c w w' := by
  unfold StoEnd
  have m : w.heap[c]? = some (.cells #[.string s, .int .i64 (a : Int), .slice p 0 k] 61) := H
  have f1 := frozen_at m 1
  have c1 : w.cell? ⟨c, 1, none⟩ = some (.int .i64 (a : Int)) := cell_at m 1
  have HRF : Hid (∀ W : World, _) := fun W => refuse_no 3 W
  have HRY : Hid (∀ W : World, _) := fun W => refuse_yes 3 W
  have R1 : RdI c s 8 (.slice p 0 k) (w.setCell ⟨c, 1, none⟩ (.int .i64 8)) := hp_set (w := w) (i := 1) m (.int .i64 8)
  have B1 := (Bt.refl c w).set 1 (.int .i64 8)
  have hl1 := Math.lowAt_lt s 8 16
  have hl2 := Math.lowAt_lt s 24 16
  have HC : Hid (∀ (W : World) (b : Nat), RdI c s b (.slice p 0 k) W → b ≤ 8 * s.size → 8 * s.size < b + 16 → Calls Tryd.prog 36 #[.pointer (some ⟨c, 0, none⟩), .int .i64 16] W fun e w' => e = fault 1 ∧ Mv c W w' ∧ Below 0 W w') := fun W b R g h => lowI_cut 0 c s b 16 _ W hs (Nat.zero_le _) (by omega) g h R
  have HO : Hid (∀ (W : World) (b : Nat), RdI c s b (.slice p 0 k) W → b + 16 ≤ 8 * s.size → Calls Tryd.prog 36 #[.pointer (some ⟨c, 0, none⟩), .int .i64 16] W fun e w' => e = .returned (.int .i64 (lowAt s b 16 : Nat)) ∧ RdI c s (b + 16) (.slice p 0 k) w' ∧ Mv c W w' ∧ Below 0 W w') := fun W b R h => lowI_ok 0 c s b 16 _ W hs (Nat.zero_le _) (by omega) h R
  by_cases h3 : s.size < 3
  · have HX : Hid (_) := HC.out _ 8 R1 (by omega) (by omega)
    clear HC HO R1
    go_enter Tryd.func42, Tryd.ntmps42
    go_wp2_with fail
    refine Calls.mono HX.out ?_
    rintro e x2 ⟨rfl, M, L⟩
    exact ⟨rfl, ⟨fun _ => rfl, fun h => absurd (by omega) h, fun h => absurd (by omega) h, fun h => absurd (by omega) h⟩, B1.trans (Bt.of M L)⟩
  · have HX : Hid (_) := HO.out _ 8 R1 (by omega)
    have HBY : Hid (∀ (W : World) (n : Nat), n ≤ 100000 → RdI c s 40 (.slice p 0 k) W → Calls Tryd.prog 38 #[.pointer (some ⟨c, 0, none⟩), .int .i64 n] W fun e w' => ((3000 < 0 + n → e = fault 5) ∧ (¬ 3000 < 0 + n → e = .returned (.tuple #[]))) ∧ w' = W) := fun W n hn R => beyond_val c s 40 0 n p k W (by omega) hn R
    have HX2 : Hid (∀ W, _) := fun W => HO.out W 24
    have HX3 : Hid (∀ W, _) := fun W => HC.out W 24
    clear HC HO R1
    have hxo := xor_i (lowAt s 24 16) (by omega)
    generalize lowAt s 8 16 = n at *
    generalize lowAt s 24 16 = z at *
    go_enter Tryd.func42, Tryd.ntmps42
    go_wp2_with fail
    refine Calls.mono HX.out ?_
    rintro e w2 ⟨rfl, R2, M2, L2⟩
    have B2 := B1.trans (Bt.of M2 L2)
    clear HX M2 L2 B1
    by_cases h5 : s.size < 5
    · have HY : Hid (_) := HX3.out w2 R2 (by omega) (by omega)
      clear HX2 HX3 R2
      go_wp2_with fail
      refine Calls.mono HY.out ?_
      rintro e x2 ⟨rfl, M, L⟩
      exact ⟨rfl, ⟨fun _ => rfl, fun h => absurd h5 h, fun h => absurd h5 h, fun h => absurd h5 h⟩, B2.trans (Bt.of M L)⟩
    · have HY : Hid (_) := HX2.out w2 R2 (by omega)
      clear HX2 HX3 R2
      go_wp2_with fail
      refine Calls.mono HY.out ?_
      rintro e w3 ⟨rfl, R3, M, L⟩
      have HB3 : Hid (_) := B2.trans (Bt.of M L)
      have HR3 : Hid (_) := R3
      clear HY M L B2 R3
      by_cases hne : n + z ≠ 65535
      · have hq : ¬ (n : Int) = ((65535 - z : Nat) : Int) := by omega
        have hq2 : ((n : Int) != ((65535 - z : Nat) : Int)) = true := bne_iff_ne.2 hq
        go_wp2_with fail
        refine (HRY.out _).mono ?_
        rintro e x6 ⟨rfl, rfl⟩
        exact ⟨rfl, ⟨fun h => absurd h h5, fun _ _ => rfl, fun _ h => absurd hne h, fun _ h => absurd hne h⟩, HB3.out⟩
      · have hz : ((65535 - z : Nat) : Int) = (n : Int) := by omega
        rw [hz] at hxo
        go_wp2_with fail
        refine (HRF.out _).mono ?_
        rintro e x6 ⟨rfl, rfl⟩
        go_wp2_with fail
        refine (HBY.out _ n (by omega) HR3.out).mono ?_
        rintro e x6 ⟨⟨hy, hn⟩, rfl⟩
        by_cases h30 : 3000 < n
        · obtain rfl := hy (by omega)
          exact ⟨rfl, ⟨fun h => absurd h h5, fun _ h => absurd h hne, fun _ _ _ => rfl, fun _ _ h => absurd h30 h⟩, HB3.out⟩
        · obtain rfl := hn (by omega)
          go_wp2
          go_ret
          exact ⟨⟨fun h => absurd h h5, fun _ h => absurd h hne, fun _ _ h => absurd h h30, fun _ _ _ => ⟨rfl, HR3.out⟩⟩, HB3.out⟩

end Pk
end Go.Proofs.YtcifgableeeooalDoor

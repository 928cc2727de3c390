/- What Unpack answers; the contract of the model's Unpack. -/
import Derived.Test.YtcifgableeeooalDoorUnFixS
namespace Go.Proofs.YtcifgableeeooalDoor
namespace Math

/-- What stands behind a block: nothing but noughts up to the next byte, and there the end. -/
def rst (s : ByteArray) : Nat → Nat → Nat
  | 0, a => if a < 8 * s.size then 6 else 0
  | n + 1, a => if a % 8 = 0 then (if a < 8 * s.size then 6 else 0) else if bitAt s a = 1 then 6 else rst s n (a + 1)

theorem rst_end (s : ByteArray) (n a : Nat) (h : a % 8 = 0) : rst s n a = if a < 8 * s.size then 6 else 0 := by
  cases n with
  | zero => rfl
  | succ n => rw [rst, if_pos h]

/-- A block: what it is told to be, its text, the place behind it. -/
def body (s : ByteArray) : Nat × List UInt8 × Nat := if lowAt s 1 2 = 1 then fixFrom s (8 * s.size + 1) 3 [] else (storedC s, (storedT s).data.toList, 40 + 8 * lowAt s 8 16)

def unpC (s : ByteArray) : Nat := if 6000 < s.size then 5 else if s.size = 0 then 1 else if bitAt s 0 = 0 ∨ 1 < lowAt s 1 2 then 2 else if (body s).1 ≠ 0 then (body s).1 else rst s 8 (body s).2.2
def unpT (s : ByteArray) : ByteArray := if unpC s = 0 then ⟨(body s).2.1.toArray⟩ else ⟨#[]⟩

theorem unpT_no {s : ByteArray} (h : unpC s ≠ 0) : unpT s = ⟨#[]⟩ := if_neg h
theorem unpT_yes {s : ByteArray} (h : unpC s = 0) : unpT s = ⟨(body s).2.1.toArray⟩ := if_pos h

theorem unp_body {s : ByteArray} (h1 : ¬ 6000 < s.size) (h2 : ¬ s.size = 0) (h3 : ¬ (bitAt s 0 = 0 ∨ 1 < lowAt s 1 2)) {code a : Nat} {txt : List UInt8} (hb : body s = (code, txt, a)) : (code ≠ 0 → unpC s = code ∧ unpT s = ⟨#[]⟩) ∧ (code = 0 → unpC s = rst s 8 a ∧ (unpC s = 0 → unpT s = ⟨txt.toArray⟩)) := by
  have e : unpC s = if (body s).1 ≠ 0 then (body s).1 else rst s 8 (body s).2.2 := by unfold unpC; rw [if_neg h1, if_neg h2, if_neg h3]
  rw [hb] at e
  refine ⟨fun hc => ?_, fun hc => ?_⟩
  · rw [if_pos hc] at e
    exact ⟨e, unpT_no (by rw [e]; exact hc)⟩
  · rw [if_neg (by simpa using hc)] at e
    exact ⟨e, fun h => by rw [unpT_yes h, hb]⟩

end Math
namespace Pk
open Go.ChangeShapes Go.WideShapes Go.ChangeAt Go.RowKit
open Math (bitAt lowAt topAt symAt symLen fixFrom storedC storedT rst body unpC unpT)
set_option linter.unusedSimpArgs false
set_option linter.unusedVariables false

set_option maxRecDepth 100000 in
set_option maxHeartbeats 4000000 in
theorem specUnpack_val (s : ByteArray) (w : World) (hm : s.size ≤ maxLen) :
    Calls Tryd.prog 8 #[.string s] w fun e w' => e = .returned (.tuple #[.string (unpT s), .int .i64 (unpC s : Nat)]) ∧ Below w.heap.size w w' := by
  unfold maxLen at hm
  by_cases h6 : 6000 < s.size
  · have e1 : unpC s = 5 := by unfold unpC; rw [if_pos h6]
    rw [e1, Math.unpT_no (by rw [e1]; decide)]
    have h6I : (6000 : Int) < (s.size : Int) := by omega
    go_enter Tryd.func8, Tryd.ntmps8
    go_wp2
    go_ret2
    exact ⟨rfl, Below.refl _ _⟩
  have h6I : ¬ (6000 : Int) < (s.size : Int) := by omega
  have N0 := new_below w (.cells #[.string s, .int .i64 0, .bool false] 41)
  have m0 := heap_new w (.cells #[.string s, .int .i64 0, .bool false] 41)
  have hs0 : (w.alloc (.cells #[.string s, .int .i64 0, .bool false] 41)).heap.size = w.heap.size + 1 := Array.size_push ..
  have R0 : RdS w.heap.size w.heap.size s 0 (w.alloc (.cells #[.string s, .int .i64 0, .bool false] 41)) := by
    refine ⟨Nat.le_refl _, ?_⟩
    rw [m0, Nat.min_eq_left (by omega), decide_eq_false (by omega)]
    rfl
  have HBV : Hid (∀ _ : Unit, _) := fun _ => bitS_val w.heap.size w.heap.size s 0 _ (by omega) (by omega) R0
  have HNV : Hid (∀ W, RdS w.heap.size w.heap.size s 1 W → _) := fun W r => numS_val w.heap.size w.heap.size s 1 2 W (by omega) (by omega) (by omega) r
  rw [show ((2 : Nat) : Int) = 2 from rfl] at HNV
  have hb0 := Math.bitAt_le s 0
  have hl2 : lowAt s 1 2 < 4 := Math.lowAt_lt s 1 2
  by_cases hz : s.size = 0
  · have e1 : unpC s = 1 := by unfold unpC; rw [if_neg h6, if_pos hz]
    rw [e1, Math.unpT_no (by rw [e1]; decide)]
    go_enter Tryd.func8, Tryd.ntmps8
    go_wp2_with fail
    refine (HBV.out ()).mono ?_
    generalize w.alloc (.cells #[.string s, .int .i64 0, .bool false] 41) = w0 at *
    rintro e w1 ⟨rfl, R1, M1, L1⟩
    have K1 := N0.trans L1
    go_wp2_with fail
    refine (HNV.out _ R1).mono ?_
    rintro e w2 ⟨rfl, R2, M2, L2⟩
    have K2 := K1.trans L2
    have c2 : w2.cell? ⟨w.heap.size, 2, none⟩ = some (.bool true) := by
      have := cell_at R2.2 2
      rw [decide_eq_true (show 8 * s.size < 1 + 2 by omega)] at this
      exact this
    go_wp2
    go_ret2
    exact ⟨rfl, K2⟩
  by_cases hk : bitAt s 0 = 0 ∨ 1 < lowAt s 1 2
  · have e1 : unpC s = 2 := by unfold unpC; rw [if_neg h6, if_neg hz, if_pos hk]
    rw [e1, Math.unpT_no (by rw [e1]; decide)]
    have HKK : Hid (_) := hk
    generalize bitAt s 0 = b0 at *
    generalize lowAt s 1 2 = kd at *
    clear hk
    by_cases hb1 : b0 = 0
    · subst hb1
      go_enter Tryd.func8, Tryd.ntmps8
      go_wp2_with fail
      refine (HBV.out ()).mono ?_
      generalize w.alloc (.cells #[.string s, .int .i64 0, .bool false] 41) = w0 at *
      rintro e w1 ⟨rfl, R1, M1, L1⟩
      have K1 := N0.trans L1
      go_wp2_with fail
      refine (HNV.out _ R1).mono ?_
      rintro e w2 ⟨rfl, R2, M2, L2⟩
      have K2 := K1.trans L2
      have c2 : w2.cell? ⟨w.heap.size, 2, none⟩ = some (.bool false) := by
        have := cell_at R2.2 2
        rw [decide_eq_false (show ¬ 8 * s.size < 1 + 2 by omega)] at this
        exact this
      go_wp2
      go_ret2
      exact ⟨rfl, K2⟩
    · have hb2 : b0 = 1 := by omega
      subst hb2
      have hkI : (1 : Int) < (kd : Int) := by have := HKK.out; omega
      go_enter Tryd.func8, Tryd.ntmps8
      go_wp2_with fail
      refine (HBV.out ()).mono ?_
      generalize w.alloc (.cells #[.string s, .int .i64 0, .bool false] 41) = w0 at *
      rintro e w1 ⟨rfl, R1, M1, L1⟩
      have K1 := N0.trans L1
      go_wp2_with fail
      refine (HNV.out _ R1).mono ?_
      rintro e w2 ⟨rfl, R2, M2, L2⟩
      have K2 := K1.trans L2
      have c2 : w2.cell? ⟨w.heap.size, 2, none⟩ = some (.bool false) := by
        have := cell_at R2.2 2
        rw [decide_eq_false (show ¬ 8 * s.size < 1 + 2 by omega)] at this
        exact this
      go_wp2
      go_ret2
      exact ⟨rfl, K2⟩
  have HBD : Hid (∀ {code a : Nat} {txt : List UInt8}, body s = (code, txt, a) → _) := fun hb => Math.unp_body h6 hz hk hb
  have hb1 : bitAt s 0 = 1 := by omega
  have hk1 : lowAt s 1 2 ≤ 1 := by omega
  rw [hb1] at HBV
  have HBS : Hid (∀ W q, q ≤ 8 * s.size → RdS w.heap.size w.heap.size s q W → _) := fun W q hq r => bitS_val w.heap.size w.heap.size s q W (by omega) (by omega) r
  by_cases hkd : lowAt s 1 2 = 1
  · have HBE : Hid (body s = fixFrom s (8 * s.size + 1) 3 []) := if_pos hkd
    rw [hkd] at HNV
    have HFV : Hid (∀ W, w.heap.size < W.heap.size → RdS w.heap.size w.heap.size s 3 W → _) := fun W hc r => fixedS_val w.heap.size w.heap.size s 3 (8 * s.size + 1) W (by omega) (Nat.le_refl _) hc (by omega) (by omega) r
    clear hkd hk1 hb1 hk hb0 hl2
    have HUTX : Hid (unpC s ≠ 0 → unpT s = ⟨#[]⟩) := fun h => Math.unpT_no h
    generalize unpT s = UT at *
    generalize unpC s = UC at *
    go_enter Tryd.func8, Tryd.ntmps8
    go_wp2_with fail
    refine (HBV.out ()).mono ?_
    generalize w.alloc (.cells #[.string s, .int .i64 0, .bool false] 41) = w0 at *
    rintro e w1 ⟨rfl, R1, M1, L1⟩
    have K1 := N0.trans L1
    go_wp2_with fail
    refine (HNV.out _ R1).mono ?_
    rintro e w2 ⟨rfl, R2, M2, L2⟩
    have K2 := K1.trans L2
    have c2 : w2.cell? ⟨w.heap.size, 2, none⟩ = some (.bool false) := by
      have := cell_at R2.2 2
      rw [decide_eq_false (show ¬ 8 * s.size < 1 + 2 by omega)] at this
      exact this
    clear HBV HNV R0 R1 M1 L1 K1 L2 N0 m0 hs0
    go_wp2_with fail
    refine (HFV.out _ (lt_of R2.2) R2).mono ?_
    rintro e w3 ⟨⟨code, txt, a', hfx, rfl, hR3⟩, L3⟩
    have K3 := K2.trans L3
    obtain ⟨HB1, HB2⟩ := HBD.out (HBE.out.trans hfx)
    clear HFV R2 M2 L3 K2 c2 hfx HBE
    by_cases hc0 : code = 0
    · subst hc0
      obtain ⟨R3, ha'⟩ := hR3 rfl
      obtain ⟨hU1, hU2⟩ := HB2 rfl
      have HU1 : Hid (UC = rst s 8 a') := hU1
      have HU2 : Hid (UC = 0 → UT = ⟨txt.toArray⟩) := hU2
      have HUT : Hid (UC ≠ 0 → UT = ⟨#[]⟩) := HUTX.out
      clear hU1 hU2 HB1 HB2
      go_wp2
      go_loopw [] (fun wr => ∃ q n : Nat, q ≤ 8 * s.size ∧ (q % 8 = 0 ∨ 8 ≤ q % 8 + n) ∧ Hid (UC = rst s n q) ∧ RdS w.heap.size w.heap.size s q wr ∧ Hid (Below w.heap.size w wr)) (fun wr => 8 * s.size + 1 - (intOf ((wr.cell? ⟨w.heap.size, 1, none⟩).getD undef)).toNat)
      case atStart => exact ⟨a', 8, ha', by omega, HU1, R3, K3⟩
      case round =>
        clear HU1 R3 K3
        obtain ⟨q, n, hq, hqn, HQ, R, K⟩ := hrel
        have hm := R.2
        rw [Nat.min_eq_left hq] at hm
        have c1 : wr.cell? ⟨w.heap.size, 1, none⟩ = some (.int .i64 (q : Int)) := cell_at hm 1
        by_cases hq8 : q % 8 = 0
        · have ht : Int.tmod (q : Int) 8 = 0 := by rw [Int.tmod_eq_emod_of_nonneg (by omega)]; omega
          have hq9 : (q : Int) % 8 = 0 := by omega
          by_cases hqs : q < 8 * s.size
          · have e6 : UC = 6 := by rw [HQ.out, Math.rst_end s n q hq8, if_pos hqs]
            have eT := HUT.out (by rw [e6]; decide)
            subst e6 eT
            have hqI : (q : Int) < 8 * (s.size : Int) := by omega
            go_wp2
            go_ret2
            exact ⟨rfl, K.out⟩
          · have e0 : UC = 0 := by rw [HQ.out, Math.rst_end s n q hq8, if_neg hqs]
            have eT := HU2.out e0
            subst e0 eT
            have hqI : ¬ (q : Int) < 8 * (s.size : Int) := by omega
            go_wp2
            go_ret2
            exact ⟨rfl, K.out⟩
        · obtain ⟨n', rfl⟩ : ∃ n', n = n' + 1 := ⟨n - 1, by omega⟩
          have ht : Int.tmod (q : Int) 8 = ((q % 8 : Nat) : Int) := by rw [Int.tmod_eq_emod_of_nonneg (by omega)]; omega
          have ht2 : (q : Int) % 8 = ((q % 8 : Nat) : Int) := by omega
          have htn : (((q % 8 : Nat) : Int) != 0) = true := by rw [bne_iff_ne]; omega
          have htn2 : ¬ ((q % 8 : Nat) : Int) = 0 := by omega
          have hqs : q < 8 * s.size := by omega
          have hq1 : (q + 1) % 8 = 0 ∨ 8 ≤ (q + 1) % 8 + n' := by omega
          have HRS : Hid (UC = if bitAt s q = 1 then 6 else rst s n' (q + 1)) := by show _ = _; rw [HQ.out, Math.rst, if_neg hq8]
          have hbq := Math.bitAt_le s q
          have HBQ : Hid (∀ _ : Unit, _) := fun _ => HBS.out wr q hq R
          generalize bitAt s q = bq at *
          obtain ⟨r8, hr8⟩ : ∃ r8, q % 8 = r8 := ⟨_, rfl⟩
          rw [hr8] at ht ht2 htn htn2
          clear R hm hqn hq8 hr8
          go_wp2_with fail
          refine (HBQ.out ()).mono ?_
          rintro e w5 ⟨rfl, R5, M5, L5⟩
          have K5 := K.out.trans L5
          have c5 : w5.cell? ⟨w.heap.size, 1, none⟩ = some (.int .i64 ((min (q + 1) (8 * s.size) : Nat) : Int)) := cell_at R5.2 1
          by_cases hb : bq = 1
          · have e6 : UC = 6 := by rw [HRS.out, if_pos hb]
            have eT := HUT.out (by rw [e6]; decide)
            subst e6 eT hb
            go_wp2
            go_ret2
            exact ⟨rfl, K5⟩
          · have hb0 : bq = 0 := by omega
            subst hb0
            have HRN : Hid (UC = rst s n' (q + 1)) := by show _ = _; rw [HRS.out, if_neg hb]
            go_wp2
            go_roundw
            case rel => exact ⟨q + 1, n', by omega, hq1, HRN, R5, K5⟩
            case measure => rw [c5, c1]; simp [intOf]; omega
    · obtain ⟨rfl, rfl⟩ := HB1 hc0
      have hcI : ((UC : Int) != 0) = true := by rw [bne_iff_ne]; omega
      have hcI2 : ¬ (UC : Int) = 0 := by omega
      clear hR3 HB2
      go_wp2
      go_ret2
      exact ⟨rfl, K3⟩
  · have hkd0 : lowAt s 1 2 = 0 := by omega
    have HBE : Hid (body s = (storedC s, (storedT s).data.toList, 40 + 8 * lowAt s 8 16)) := if_neg hkd
    rw [hkd0] at HNV
    have HFV : Hid (∀ W, RdS w.heap.size w.heap.size s 3 W → _) := fun W r => storedS_val w.heap.size w.heap.size s W (by omega) (by omega) r
    obtain ⟨HB1, HB2⟩ := HBD.out HBE.out
    rw [Array.toArray_toList] at HB2
    have HC5 : Hid (storedC s = 0 → 40 + 8 * lowAt s 8 16 ≤ 8 * s.size) := fun h => by
      unfold storedC at h
      split at h
      · omega
      · split at h
        · omega
        · split at h
          · omega
          · split at h
            · omega
            · omega
    clear hkd hkd0 hk1 hb1 hk hb0 hl2 HBE HBD
    have HUTX : Hid (unpC s ≠ 0 → unpT s = ⟨#[]⟩) := fun h => Math.unpT_no h
    generalize unpT s = UT at *
    generalize unpC s = UC at *
    generalize storedT s = ST at *
    generalize storedC s = SC at *
    generalize 40 + 8 * lowAt s 8 16 = a' at *
    go_enter Tryd.func8, Tryd.ntmps8
    go_wp2_with fail
    refine (HBV.out ()).mono ?_
    generalize w.alloc (.cells #[.string s, .int .i64 0, .bool false] 41) = w0 at *
    rintro e w1 ⟨rfl, R1, M1, L1⟩
    have K1 := N0.trans L1
    go_wp2_with fail
    refine (HNV.out _ R1).mono ?_
    rintro e w2 ⟨rfl, R2, M2, L2⟩
    have K2 := K1.trans L2
    have c2 : w2.cell? ⟨w.heap.size, 2, none⟩ = some (.bool false) := by
      have := cell_at R2.2 2
      rw [decide_eq_false (show ¬ 8 * s.size < 1 + 2 by omega)] at this
      exact this
    clear HBV HNV R0 R1 M1 L1 K1 L2 N0 m0 hs0
    go_wp2_with fail
    refine (HFV.out _ R2).mono ?_
    rintro e w3 ⟨rfl, hR3, M3, L3⟩
    have K3 := K2.trans L3
    clear HFV R2 M2 L3 K2 c2 M3
    by_cases hc0 : SC = 0
    · subst hc0
      have R3 := hR3 rfl
      have ha' := HC5.out rfl
      obtain ⟨hU1, hU2⟩ := HB2 rfl
      have HU1 : Hid (UC = rst s 8 a') := hU1
      have HU2 : Hid (UC = 0 → UT = ST) := hU2
      have HUT : Hid (UC ≠ 0 → UT = ⟨#[]⟩) := HUTX.out
      clear hU1 hU2 HB1 HB2
      go_wp2
      go_loopw [] (fun wr => ∃ q n : Nat, q ≤ 8 * s.size ∧ (q % 8 = 0 ∨ 8 ≤ q % 8 + n) ∧ Hid (UC = rst s n q) ∧ RdS w.heap.size w.heap.size s q wr ∧ Hid (Below w.heap.size w wr)) (fun wr => 8 * s.size + 1 - (intOf ((wr.cell? ⟨w.heap.size, 1, none⟩).getD undef)).toNat)
      case atStart => exact ⟨a', 8, ha', by omega, HU1, R3, K3⟩
      case round =>
        clear HU1 R3 K3
        obtain ⟨q, n, hq, hqn, HQ, R, K⟩ := hrel
        have hm := R.2
        rw [Nat.min_eq_left hq] at hm
        have c1 : wr.cell? ⟨w.heap.size, 1, none⟩ = some (.int .i64 (q : Int)) := cell_at hm 1
        by_cases hq8 : q % 8 = 0
        · have ht : Int.tmod (q : Int) 8 = 0 := by rw [Int.tmod_eq_emod_of_nonneg (by omega)]; omega
          have hq9 : (q : Int) % 8 = 0 := by omega
          by_cases hqs : q < 8 * s.size
          · have e6 : UC = 6 := by rw [HQ.out, Math.rst_end s n q hq8, if_pos hqs]
            have eT := HUT.out (by rw [e6]; decide)
            subst e6 eT
            have hqI : (q : Int) < 8 * (s.size : Int) := by omega
            go_wp2
            go_ret2
            exact ⟨rfl, K.out⟩
          · have e0 : UC = 0 := by rw [HQ.out, Math.rst_end s n q hq8, if_neg hqs]
            have eT := HU2.out e0
            subst e0 eT
            have hqI : ¬ (q : Int) < 8 * (s.size : Int) := by omega
            go_wp2
            go_ret2
            exact ⟨rfl, K.out⟩
        · obtain ⟨n', rfl⟩ : ∃ n', n = n' + 1 := ⟨n - 1, by omega⟩
          have ht : Int.tmod (q : Int) 8 = ((q % 8 : Nat) : Int) := by rw [Int.tmod_eq_emod_of_nonneg (by omega)]; omega
          have ht2 : (q : Int) % 8 = ((q % 8 : Nat) : Int) := by omega
          have htn : (((q % 8 : Nat) : Int) != 0) = true := by rw [bne_iff_ne]; omega
          have htn2 : ¬ ((q % 8 : Nat) : Int) = 0 := by omega
          have hqs : q < 8 * s.size := by omega
          have hq1 : (q + 1) % 8 = 0 ∨ 8 ≤ (q + 1) % 8 + n' := by omega
          have HRS : Hid (UC = if bitAt s q = 1 then 6 else rst s n' (q + 1)) := by show _ = _; rw [HQ.out, Math.rst, if_neg hq8]
          have hbq := Math.bitAt_le s q
          have HBQ : Hid (∀ _ : Unit, _) := fun _ => HBS.out wr q hq R
          generalize bitAt s q = bq at *
          obtain ⟨r8, hr8⟩ : ∃ r8, q % 8 = r8 := ⟨_, rfl⟩
          rw [hr8] at ht ht2 htn htn2
          clear R hm hqn hq8 hr8
          go_wp2_with fail
          refine (HBQ.out ()).mono ?_
          rintro e w5 ⟨rfl, R5, M5, L5⟩
          have K5 := K.out.trans L5
          have c5 : w5.cell? ⟨w.heap.size, 1, none⟩ = some (.int .i64 ((min (q + 1) (8 * s.size) : Nat) : Int)) := cell_at R5.2 1
          by_cases hb : bq = 1
          · have e6 : UC = 6 := by rw [HRS.out, if_pos hb]
            have eT := HUT.out (by rw [e6]; decide)
            subst e6 eT hb
            go_wp2
            go_ret2
            exact ⟨rfl, K5⟩
          · have hb0 : bq = 0 := by omega
            subst hb0
            have HRN : Hid (UC = rst s n' (q + 1)) := by show _ = _; rw [HRS.out, if_neg hb]
            go_wp2
            go_roundw
            case rel => exact ⟨q + 1, n', by omega, hq1, HRN, R5, K5⟩
            case measure => rw [c5, c1]; simp [intOf]; omega
    · obtain ⟨rfl, rfl⟩ := HB1 hc0
      have hcI : ((UC : Int) != 0) = true := by rw [bne_iff_ne]; omega
      have hcI2 : ¬ (UC : Int) = 0 := by omega
      clear hR3 HB2
      go_wp2
      go_ret2
      exact ⟨rfl, K3⟩

end Pk
end Go.Proofs.YtcifgableeeooalDoor

/- The program's Scan. -/
import Derived.Test.YtkhibgicejcmlamSqScanM
import Derived.Deep.RegionHeld3
namespace Go.Proofs.Ytkhibgicejcmlam
namespace Sq
open Go.ChangeShapes Go.WideShapes Go.ChangeAt Go.RowKit
set_option linter.unusedSimpArgs false
set_option linter.unusedVariables false

set_option maxRecDepth 100000 in
set_option maxHeartbeats 4000000 in
theorem implScan_no (n : Int) (s : ByteArray) (w : World) (hs : s.size ≤ maxLen) (hh : heartV n s = -1) :
    Calls Try.prog 21 #[sqV n s] w fun e w' => e = .returned (.tuple #[.string ⟨#[]⟩, .int .i64 1]) ∧ Below w.heap.size w w' := by
  have HH : Hid (∀ W, _) := fun W => implHeart_val n s W hs
  rw [hh] at HH
  unfold sqV at *
  have N := Pk.new_below w (.cells #[.int .i64 n, .string s] 25)
  go_enter Try.func21, Try.ntmps21
  go_wp2_with fail
  with_reducible refine (HH.out _).mono ?_
  rintro e w1 ⟨rfl, L1⟩
  have K := Pk.join_below N L1
  go_wp2
  go_ret2
  exact ⟨rfl, K⟩

set_option maxRecDepth 100000 in
set_option maxHeartbeats 8000000 in
theorem implScan_ok (h : Nat) (s : ByteArray) (w : World) (hok : okQ (2 * (h : Int) + 1) s = true) (h4 : 4 ≤ h) (h1 : h ≤ 30) (hz : s.size = (2 * h + 1) * (2 * h + 1)) (t : Int) (hh : heartV (2 * (h : Int) + 1) s = t) (ht0 : 0 ≤ t) (ht3 : t ≤ 3) (u B : ByteArray) (hu : turnN (2 * (h : Int) + 1) s (t % 4).toNat = u) (hB : bodyR h u = B) :
    Calls Try.prog 21 #[sqV (2 * (h : Int) + 1) s] w fun e w' => e = .returned (.tuple #[.string (scanT (2 * (h : Int) + 1) u B), .int .i64 (scanC (2 * (h : Int) + 1) u B)]) ∧ Below w.heap.size w w' := by
  have hsz : (2 * h + 1) * (2 * h + 1) ≤ 3721 := Nat.mul_le_mul (by omega : 2 * h + 1 ≤ 61) (by omega : 2 * h + 1 ≤ 61)
  have hsp : 81 ≤ (2 * h + 1) * (2 * h + 1) := Nat.mul_le_mul (by omega : 9 ≤ 2 * h + 1) (by omega : 9 ≤ 2 * h + 1)
  have huz : u.size = (2 * h + 1) * (2 * h + 1) := by rw [← hu, turnN_size]; exact hz
  have huk : okQ (2 * (h : Int) + 1) u = true := by rw [← hu]; exact ok_turnN hok _
  have hug : signsFrom u 0 = true := (ok_form huk).choose_spec.2.2.2.2
  have HH : Hid (∀ W, _) := fun W => implHeart_val (2 * (h : Int) + 1) s W (by unfold maxLen; omega)
  rw [hh] at HH
  have HT : Hid (∀ W, _) := fun W => implTurnBy_val (2 * (h : Int) + 1) s t W (WalkArith.wf_i64 (by omega)) (by omega)
  rw [hu] at HT
  have HA : Hid (∀ W, _) := fun W => along_val h u u.size W h1 huz (by omega) (Nat.le_refl _)
  have hrs : (restS h u).size = u.size - 25 := restS_size (by omega)
  have HBY : Hid (∀ W, _) := fun W => bytesOf_val (restS h u) W (by omega) (by omega) (rest_sign (n := 0) h1 huz (by omega) hug)
  have HBZ : Hid (B.size = (u.size - 25) / 8) := by rw [← hB]; show (bodyR h u).size = _; unfold bodyR; rw [strT_size, hrs]
  rw [show strT ((restS h u).size / 8) (fun j => UInt8.ofNat (bv (sbit (restS h u)) j 8)) = B from hB] at HBY
  have hal : (strT u.size (alongF h u)).size = u.size := strT_size _ _
  have hre : (strT u.size (alongF h u)).extract 25 u.size = restS h u := rfl
  generalize restS h u = rs at *
  generalize strT u.size (alongF h u) = al at *
  have hu81 : 81 ≤ u.size ∧ u.size ≤ 3721 := by omega
  have hB7 : 7 ≤ B.size ∧ B.size ≤ 500 := by have := HBZ.out; omega
  clear hsz hsp huz huk hug hrs hu hB hz hok hh
  have N := Pk.new_below w (.cells #[.int .i64 (2 * (h : Int) + 1), .string s] 25)
  have m0 : Box (w.alloc (.cells #[.int .i64 (2 * (h : Int) + 1), .string s] 25)) w.heap.size (2 * (h : Int) + 1) s := Pk.heap_new _ _
  unfold sqV at *
  obtain ⟨b0, hb0⟩ : ∃ b : Nat, (tb B 0).toNat = b := ⟨_, rfl⟩
  obtain ⟨b1, hb1⟩ : ∃ b : Nat, (tb B 1).toNat = b := ⟨_, rfl⟩
  have l0 : b0 < 256 := by rw [← hb0]; exact (tb B 0).toNat_lt
  have l1 : b1 < 256 := by rw [← hb1]; exact (tb B 1).toNat_lt
  have g0 : B[0].toNat = b0 := by rw [← hb0]; unfold tb; rw [getD_at B 0 (by omega)]
  have g1 : B[1].toNat = b1 := by rw [← hb1]; unfold tb; rw [getD_at B 1 (by omega)]
  generalize 2 * (h : Int) + 1 = n at *
  go_enter Try.func21, Try.ntmps21
  go_wp2_with fail
  with_reducible refine (HH.out _).mono ?_
  generalize w.alloc (.cells #[.int .i64 n, .string s] 25) = w0 at *
  rintro e w1 ⟨rfl, L1⟩
  have m1 := m0.on L1
  have K1 := Pk.join_below N L1
  clear N L1 m0 HH
  have c0 := m1.n
  have c1 := m1.s
  have ht1 : ¬ t = -1 := by omega
  go_wp2_with fail
  with_reducible refine (HT.out _).mono ?_
  rintro e w2 ⟨rfl, L2⟩
  have m2 := m1.on L2
  have K2 := Pk.join_below K1 L2
  have m3 := m2.put n u
  have K3 := (K2.setCell (p := ⟨w.heap.size, 0, none⟩) (Nat.le_refl _) (.int .i64 n)).setCell (p := ⟨w.heap.size, 1, none⟩) (Nat.le_refl _) (.string u)
  clear L2 m1 K1 c0 c1 HT
  have c0 := m2.n
  have c1 := m2.s
  have f0 := m2.f 0
  have f1 := m2.f 1
  have d0 := m3.n
  have d1 := m3.s
  go_wp2_with fail
  with_reducible refine (HA.out _).mono ?_
  generalize (w2.setCell ⟨w.heap.size, 0, none⟩ (.int .i64 n)).setCell ⟨w.heap.size, 1, none⟩ (.string u) = w3 at *
  rintro e w4 ⟨rfl, L4⟩
  have m4 := m3.on L4
  have K4 := Pk.join_below K3 L4
  clear m2 K2 m3 K3 L4 c0 c1 f0 f1 d0 d1 HA
  go_wp2_with fail
  with_reducible refine (HBY.out _).mono ?_
  rintro e w5 ⟨rfl, L5⟩
  have m5 := m4.on L5
  have K5 := Pk.join_below K4 L5
  clear m4 K4 L5 HBY hre hal
  have q1 : bits .or .i64 ((b0 : Int) * 256) (b1 : Int) = ((b0 * 256 + b1 : Nat) : Int) := by
    have h2 := Math.bits_or_i64 (b0 * 256) b1 (by omega) (by omega)
    rw [show ((b0 * 256 : Nat) : Int) = (b0 : Int) * 256 from by omega] at h2
    rw [h2]
    have h3 := Nat.shiftLeft_add_eq_or_of_lt (i := 8) (b := b1) (by omega) b0
    rw [Nat.shiftLeft_eq] at h3
    rw [show (2 : Nat) ^ 8 = 256 from rfl] at h3
    rw [h3]
  obtain ⟨D, hD⟩ : ∃ D : Nat, b0 * 256 + b1 = D := ⟨_, rfl⟩
  have HTD : Hid (told B = D) := by show _ = _; unfold told; rw [hb0, hb1]; exact hD
  rw [hD] at q1
  have hD6 : D < 65536 := by omega
  clear hD hb0 hb1
  go_wp2
  go_region
  all_goals
    by_cases hDD : D ≤ 400 ∧ D + 6 ≤ B.size
    · obtain ⟨hD4, hD5⟩ := hDD
      have hDi : (D : Int) + 6 ≤ (B.size : Int) := by omega
      go_wp2
      have htz : (B.extract 2 (2 + D)).size ≤ 400 := by rw [ByteArray.size_extract]; omega
      have HCS : Hid (∀ W, _) := fun W => Num.implCheckSum_any (B.extract 2 (2 + D)) W (by unfold maxLen; omega)
      have HWT : Hid (∀ W, _) := fun W => Num.implWordText_any (Math.crc (B.extract 2 (2 + D)).data.toList) W (Math.crc_lt _)
      have HPA : Hid (∀ W, _) := fun W => implPaint_val (B.extract 2 (2 + D)) W (by unfold maxLen; omega)
      have HCC : Hid (scanC n u B = if ¬ (B.extract (2 + D) (2 + D + 4) = Num.wordS (Math.crc (B.extract 2 (2 + D)).data.toList)) then 3 else if ¬ (pnV (B.extract 2 (2 + D)) = n ∧ ptV (B.extract 2 (2 + D)) = u) then 4 else 0) := by
        show _ = _
        unfold scanC
        rw [HTD.out, if_neg (fun h => h ⟨hD4, hD5⟩)]
      have HTT : Hid (scanT n u B = if B.extract (2 + D) (2 + D + 4) = Num.wordS (Math.crc (B.extract 2 (2 + D)).data.toList) ∧ pnV (B.extract 2 (2 + D)) = n ∧ ptV (B.extract 2 (2 + D)) = u then B.extract 2 (2 + D) else ⟨#[]⟩) := by
        show _ = _
        unfold scanT
        rw [HTD.out]
        by_cases hx : B.extract (2 + D) (2 + D + 4) = Num.wordS (Math.crc (B.extract 2 (2 + D)).data.toList) ∧ pnV (B.extract 2 (2 + D)) = n ∧ ptV (B.extract 2 (2 + D)) = u
        · rw [if_pos ⟨hD4, hD5, hx⟩, if_pos hx]
        · rw [if_neg (fun h => hx h.2.2), if_neg hx]
      unfold sqV at HPA
      generalize B.extract 2 (2 + D) = tx at *
      generalize Math.crc tx.data.toList = cr at *
      generalize Num.wordS cr = wd at *
      generalize pnV tx = pn at *
      generalize ptV tx = pt at *
      generalize decide (tx.size ≤ 400) = bt at *
      have y1 : 2 + (D : Int) + 4 ≤ (B.size : Int) := by omega
      have y2 : (0 : Int) ≤ 2 + (D : Int) := by omega
      have y3 : 2 + (D : Int) ≤ 2 + (D : Int) + 4 := by omega
      have y4 : (2 + (D : Int) + 4).toNat = 2 + D + 4 := by omega
      have y5 : (2 + (D : Int)).toNat = 2 + D := by omega
      have y6 : (0 : Int) ≤ 2 + (D : Int) + 4 := by omega
      have y7 : IntKind.i64.wrap (2 + (D : Int) + 4) = 2 + (D : Int) + 4 := by rw [IntKind.wrap_i64]; omega
      have hsl : ∀ W, (Instr.slice 9 (.string B) (some (.int .i64 (2 + (D : Int)))) (some (.int .i64 (2 + (D : Int) + 4))) none).run Try.prog W = .ok (.string (B.extract (2 + D) (2 + D + 4))) W := fun W => by
        simp [go_sem, Try.underlying9, y1, y2, y3, y4, y5, y6]
        try omega
      by_cases hEq : B.extract (2 + D) (2 + D + 4) = wd
      · go_cut [55] from 11 (fun v wc => v = .bool false ∧ Below w5.heap.size w5 wc)
        case first =>
          go_region_with (first
            | (go_at_call 48; (with_reducible refine (HCS.out _).mono ?_); rintro e x1 ⟨rfl, hx1⟩; subst hx1)
            | (go_at_call 47; (with_reducible refine (HWT.out _).mono ?_); rintro e x2 ⟨rfl, -, LX⟩))
          all_goals
            go_wp2
            go_meet
            case rel => exact ⟨by first | rfl | simp [hEq], by first | exact LX | exact ((Below.refl _ _).drew).trans LX | exact (((Below.refl _ _).drew).drew).trans LX⟩
        case rest =>
          obtain ⟨rfl, LX⟩ := hcut
          have m6 := m5.on LX
          have K6 := Pk.join_below K5 LX
          clear m5 K5 LX HCS HWT hsl y1 y2 y3 y4 y5 y6 y7 q1
          go_wp2_with fail
          with_reducible refine (HPA.out _).mono ?_
          rintro e w7 ⟨rfl, L7⟩
          have m7 := m6.on L7
          have K7 := Pk.join_below K6 L7
          have hne : w.heap.size ≠ w7.heap.size := by
            have := Pk.lt_of m7
            omega
          have x9 : Box (w7.alloc (.cells #[.int .i64 pn, .string pt] 25)) w7.heap.size pn pt := Pk.heap_new w7 _
          have N8 := Pk.new_below w7 (.cells #[.int .i64 pn, .string pt] 25)
          have m9 := m7.on N8
          have K9 := Pk.join_below K7 N8
          have c0 := m9.n
          have c1 := m9.s
          have d0 := x9.n
          have d1 := x9.s
          have hq := neq_any pn n pt u
          by_cases hpq : pn = n ∧ pt = u
          · have HC : Hid (scanC n u B = 0) := by
              show _ = _
              rw [HCC.out, if_neg (fun h => h hEq), if_neg (fun h => h hpq)]
            have HX : Hid (scanT n u B = tx) := by
              show _ = _
              rw [HTT.out, if_pos ⟨hEq, hpq⟩]
            rw [show (!(decide (pn = n) && decide (pt = u))) = false from by simp [hpq]] at hq
            clear HCC HTT hpq
            go_wp2
            go_ret2
            exact ⟨by rw [HC.out, HX.out]; rfl, K9⟩
          · have HC : Hid (scanC n u B = 4) := by
              show _ = _
              rw [HCC.out, if_neg (fun h => h hEq), if_pos hpq]
            have HX : Hid (scanT n u B = ⟨#[]⟩) := by
              show _ = _
              rw [HTT.out, if_neg (fun h => hpq h.2)]
            rw [show (!(decide (pn = n) && decide (pt = u))) = true from by
              rw [Bool.not_eq_true', Bool.and_eq_false_iff, decide_eq_false_iff_not, decide_eq_false_iff_not]
              by_cases e : pn = n
              · exact .inr (fun e2 => hpq ⟨e, e2⟩)
              · exact .inl e] at hq
            clear HCC HTT hpq
            go_wp2
            go_ret2
            exact ⟨by rw [HC.out, HX.out]; rfl, K9⟩
      · have HC : Hid (scanC n u B = 3) := by
          show _ = _
          rw [HCC.out, if_pos hEq]
        have HX : Hid (scanT n u B = ⟨#[]⟩) := by
          show _ = _
          rw [HTT.out, if_neg (fun h => hEq h.1)]
        have z1 : ¬ (B.extract (2 + D) (2 + D + 4)).toList = wd.toList := fun e => hEq (Go.WideShapes.bytes_inj (by rw [← ByteArray.toList_eq, ← ByteArray.toList_eq]; exact e))
        clear HCC HTT HPA
        go_cut [55] from 11 (fun v wc => v = .bool true ∧ Below w5.heap.size w5 wc)
        case first =>
          go_region_with (first
            | (go_at_call 48; (with_reducible refine (HCS.out _).mono ?_); rintro e x1 ⟨rfl, hx1⟩; subst hx1)
            | (go_at_call 47; (with_reducible refine (HWT.out _).mono ?_); rintro e x2 ⟨rfl, -, LX⟩))
          all_goals
            go_wp2
            go_meet
            case rel => exact ⟨by first | rfl | (simp [z1]; done) | (simp [hEq]; done) | (simp [hEq]; exact z1), by first | exact LX | exact ((Below.refl _ _).drew).trans LX | exact (((Below.refl _ _).drew).drew).trans LX⟩
        case rest =>
          obtain ⟨rfl, LX⟩ := hcut
          have K6 := Pk.join_below K5 LX
          go_wp2
          go_ret2
          exact ⟨by rw [HC.out, HX.out]; rfl, K6⟩
    · have HC : Hid (scanC n u B = 2) := by
        show _ = _
        unfold scanC
        rw [HTD.out, if_pos hDD]
      have HX : Hid (scanT n u B = ⟨#[]⟩) := by
        show _ = _
        unfold scanT
        rw [HTD.out, if_neg (fun h => hDD ⟨h.1, h.2.1⟩)]
      by_cases hD4 : D ≤ 400
      · have hD5 : ¬ D + 6 ≤ B.size := fun h => hDD ⟨hD4, h⟩
        go_wp2
        go_ret2
        exact ⟨by rw [HC.out, HX.out]; rfl, by first | exact K5 | exact K5.drew⟩
      · go_wp2
        go_ret2
        exact ⟨by rw [HC.out, HX.out]; rfl, by first | exact K5 | exact K5.drew⟩

end Sq
end Go.Proofs.Ytkhibgicejcmlam

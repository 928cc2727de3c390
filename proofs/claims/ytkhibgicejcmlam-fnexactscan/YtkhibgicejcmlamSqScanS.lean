/- The model's Scan. -/
import Derived.Test.YtkhibgicejcmlamSqScanM
import Derived.Test.YtkhibgicejcmlamSqPaintS
import Derived.Deep.RegionHeld3
namespace Go.Proofs.Ytkhibgicejcmlam
namespace Sq
open Go.ChangeShapes Go.WideShapes Go.ChangeAt Go.RowKit
set_option linter.unusedSimpArgs false
set_option linter.unusedVariables false

set_option maxRecDepth 100000 in
set_option maxHeartbeats 4000000 in
theorem specScan_no (n : Int) (s : ByteArray) (w : World) (hs : s.size ≤ maxLen) (hh : heartV n s = -1) :
    Calls Try.prog 20 #[sqV n s] w fun e w' => e = .returned (.tuple #[.string ⟨#[]⟩, .int .i64 1]) ∧ Below w.heap.size w w' := by
  have HH : Hid (∀ W, _) := fun W => specHeart_val n s W hs
  rw [hh] at HH
  unfold sqV at *
  have N := Pk.new_below w (.cells #[.int .i64 n, .string s] 25)
  go_enter Try.func20, Try.ntmps20
  go_wp2_with fail
  with_reducible refine (HH.out _).mono ?_
  rintro e w1 ⟨rfl, L1⟩
  have K := Pk.join_below N L1
  go_wp2
  go_ret2
  exact ⟨rfl, K⟩

/-- A part of a row of bytes as a text. -/
theorem conv_part {W : World} {g c : Nat} {B : ByteArray} (C : Cl W g c (fun i => .int .u8 ((tb B i).toNat : Int))) (hc : c ≤ B.size) (a b cap : Nat) (hab : a ≤ b) (hb : b ≤ c) :
    (convert 50 9 (.slice (some ⟨g, a, none⟩) (b - a) cap)).run Try.prog W = .ok (.string (B.extract a b)) W := by
  have hl : (B.extract a b).data.toList.length = b - a := by
    rw [Array.length_toList]
    show (B.extract a b).size = _
    rw [ByteArray.size_extract]
    omega
  have := run_convert_bytes_back W 50 9 5 ⟨g, a, none⟩ cap (B.extract a b).data.toList Try.underlying50 Try.underlying5 Try.underlying9 (by
    intro j hj
    have hj2 : j < (B.extract a b).size := hj
    rw [show Addr.add ⟨g, a, none⟩ j = ⟨g, a + j, none⟩ from by simp [Addr.add], (C (a + j) (by omega)).1]
    have e : (B.extract a b).data.toList[j] = tb B (a + j) := by
      rw [← tb_extract (s := B) (a := a) (b := b) (j := j) (by omega) (by omega)]
      unfold tb
      rw [List.getD_eq_getElem?_getD, List.getElem?_eq_getElem hj]
      rfl
    rw [e])
  rw [hl] at this
  exact this

set_option maxRecDepth 100000 in
set_option maxHeartbeats 8000000 in
theorem specScan_ok (h : Nat) (s : ByteArray) (w : World) (hok : okQ (2 * (h : Int) + 1) s = true) (h4 : 4 ≤ h) (h1 : h ≤ 30) (hz : s.size = (2 * h + 1) * (2 * h + 1)) (t : Int) (hh : heartV (2 * (h : Int) + 1) s = t) (ht0 : 0 ≤ t) (ht3 : t ≤ 3) (u B : ByteArray) (hu : turnN (2 * (h : Int) + 1) s (t % 4).toNat = u) (hB : bodyR h u = B) :
    Calls Try.prog 20 #[sqV (2 * (h : Int) + 1) s] w fun e w' => e = .returned (.tuple #[.string (scanT (2 * (h : Int) + 1) u B), .int .i64 (scanC (2 * (h : Int) + 1) u B)]) ∧ Below w.heap.size w w' := by
  obtain ⟨i0, hi, hz0, hz1, hz2⟩ := Pk.info_of info_u8
  have hsz : (2 * h + 1) * (2 * h + 1) ≤ 3721 := Nat.mul_le_mul (by omega : 2 * h + 1 ≤ 61) (by omega : 2 * h + 1 ≤ 61)
  have hsp : 81 ≤ (2 * h + 1) * (2 * h + 1) := Nat.mul_le_mul (by omega : 9 ≤ 2 * h + 1) (by omega : 9 ≤ 2 * h + 1)
  have huz : u.size = (2 * h + 1) * (2 * h + 1) := by rw [← hu, turnN_size]; exact hz
  have huk : okQ (2 * (h : Int) + 1) u = true := by rw [← hu]; exact ok_turnN hok _
  have hug : signsFrom u 0 = true := (ok_form huk).choose_spec.2.2.2.2
  have HH : Hid (∀ W, _) := fun W => specHeart_val (2 * (h : Int) + 1) s W (by unfold maxLen; omega)
  rw [hh] at HH
  have HT : Hid (∀ W, _) := fun W => specTurnBy_val (2 * (h : Int) + 1) s t W (WalkArith.wf_i64 (by omega)) (by omega)
  rw [hu] at HT
  have hrs : (restS h u).size = u.size - 25 := restS_size (by omega)
  have HBZ : Hid (B.size = (u.size - 25) / 8) := by rw [← hB]; show (bodyR h u).size = _; unfold bodyR; rw [strT_size, hrs]
  have HBB : Hid (∀ j, j < B.size → (tb B j).toNat = bv (sbit (restS h u)) j 8) := by
    intro j hj
    have hj2 : j < (restS h u).size / 8 := by have := HBZ.out; omega
    rw [← hB]
    unfold bodyR
    rw [strT_at _ _ _ hj2, UInt8.toNat_ofNat', Nat.mod_eq_of_lt (bv_lt (sbit_le _) j 8)]
  have HSP : Hid (∀ (k : Nat) w, k < u.size → Calls Try.prog 39 #[.int .i64 k] w fun e w' => e = .returned (.tuple #[.int .i64 (wx k), .int .i64 (wy k)]) ∧ w' = w) := by
    intro k w hk
    have := specSpiral_val k w
    rw [spX_in k (by omega), spY_in k (by omega)] at this
    exact this
  have HIX : Hid (∀ k, k < u.size → idx h (wx k) (wy k) < u.size) := fun k hk => by
    obtain ⟨a1, a2, a3, a4⟩ := dist_in (way_dist k h (by omega))
    rw [huz]; exact idx_lt a1 a2 a3 a4
  have HP : Hid (∀ (k : Nat) (w : World), k < u.size → _) := fun k w hk => place_val h (wx k) (wy k) w h1 (dist_in (way_dist k h (by omega))).1 (dist_in (way_dist k h (by omega))).2.1 (dist_in (way_dist k h (by omega))).2.2.1 (dist_in (way_dist k h (by omega))).2.2.2
  have HSG : Hid (∀ i, 25 + i < u.size → (tb u (idx h (wx (25 + i)) (wy (25 + i)))).toNat = 48 + sbit (restS h u) i) := by
    intro i hi
    have e : tb (restS h u) i = tb u (idx h (wx (25 + i)) (wy (25 + i))) := by
      unfold restS
      rw [tb_extract (by omega) (by rw [strT_size]; omega), strT_at _ _ _ (by omega)]
      rfl
    have h3 := rest_sign (n := 0) h1 huz (by omega) hug i (by omega)
    unfold sbit
    rw [← e]
    rcases h3 with h3 | h3 <;> rw [h3] <;> rfl
  have HSL : Hid (∀ i, _) := sbit_le (restS h u)
  generalize sbit (restS h u) = f at *
  have hA : (2 * (h : Int) + 1) * (2 * (h : Int) + 1) = (u.size : Int) := by
    rw [huz, Int.natCast_mul]
    have : ((2 * h + 1 : Nat) : Int) = 2 * (h : Int) + 1 := by omega
    rw [this]
  have hu81 : 81 ≤ u.size ∧ u.size ≤ 3721 := by omega
  have hB7 : 7 ≤ B.size ∧ B.size ≤ 500 := by have := HBZ.out; omega
  have hB8 : 25 + 8 * B.size ≤ u.size ∧ u.size < 33 + 8 * B.size := by have := HBZ.out; omega
  have hn61 : 0 ≤ 2 * (h : Int) + 1 ∧ 2 * (h : Int) + 1 ≤ 61 := by omega
  clear hsz hsp huz huk hug hrs hu hB hz hok hh HBZ h1 h4
  have N := Pk.new_below w (.cells #[.int .i64 (2 * (h : Int) + 1), .string s] 25)
  have m0 : Box (w.alloc (.cells #[.int .i64 (2 * (h : Int) + 1), .string s] 25)) w.heap.size (2 * (h : Int) + 1) s := Pk.heap_new _ _
  unfold sqV at *
  generalize 2 * (h : Int) + 1 = n at *
  go_enter Try.func20, Try.ntmps20
  go_wp2_with fail
  with_reducible refine (HH.out _).mono ?_
  generalize w.alloc (.cells #[.int .i64 n, .string s] 25) = w0 at *
  rintro e w1 ⟨rfl, L1⟩
  have m1 := m0.on L1
  have K1 := Pk.join_below N L1
  clear N L1 m0 HH
  have c0 := m1.n
  have c1 := m1.s
  have ht1 : ¬ t < 0 := by omega
  go_wp2_with fail
  with_reducible refine (HT.out _).mono ?_
  rintro e w2 ⟨rfl, L2⟩
  have m2 := m1.on L2
  have K2 := Pk.join_below K1 L2
  have m3 := m2.put n u
  have K3 := (K2.setCell (p := ⟨w.heap.size, 0, none⟩) (Nat.le_refl _) (.int .i64 n)).setCell (p := ⟨w.heap.size, 1, none⟩) (Nat.le_refl _) (.string u)
  clear L2 m1 K1 c0 c1 HT
  have c0 := m2.n
  have c1 := m2.s
  have f0 := m2.f 0
  have f1 := m2.f 1
  have hS3 : ((w2.setCell ⟨w.heap.size, 0, none⟩ (.int .i64 n)).setCell ⟨w.heap.size, 1, none⟩ (.string u)).heap.size = w2.heap.size := by simp
  go_wp2
  generalize (w2.setCell ⟨w.heap.size, 0, none⟩ (.int .i64 n)).setCell ⟨w.heap.size, 1, none⟩ (.string u) = w3 at *
  have N4 := Pk.new_below w3 (.cells #[] 5)
  have O4 := own_base (Pk.own_new w3 5) K3.size
  have m4 := m3.on N4
  have K4 := Pk.join_below K3 N4
  clear m2 K2 m3 K3 c0 c1 f0 f1 N4
  generalize w3.alloc (.cells #[] 5) = w4 at *
  rw [hS3] at O4
  clear hS3
  generalize w2.heap.size = g4 at *
  go_loopw [5, 6] (fun v i wr => ∃ j : Nat, j ≤ B.size ∧ i = .int .i64 ((25 + 8 * j : Nat) : Int) ∧ wr.ownsRow w.heap.size 5 1 v j (Pk.bcells (B.data.toList.take j)) ∧ Box wr w.heap.size n u ∧ Hid (Below w.heap.size w wr)) (fun _ i _ => 33 + 8 * B.size - (intOf i).toNat)
  case atStart => exact ⟨0, by omega, rfl, O4, m4, K4⟩
  case round =>
    clear O4 m4 K4
    obtain ⟨j, hj, rfl, O, m5, K5⟩ := hrel
    obtain ⟨K, hK⟩ : ∃ K, 25 + 8 * j = K := ⟨_, rfl⟩
    have c0 := m5.n
    have c1 := m5.s
    by_cases hlt : j < B.size
    · rw [hK]
      have hKl : (K : Int) + 8 ≤ (u.size : Int) := by omega
      have hKu : K < 4000 := by omega
      have HXB : Hid (_) := HBB.out j hlt
      have hx8 := bv_lt HSL.out j 8
      have hxT : B.data.toList.take (j + 1) = B.data.toList.take j ++ [tb B j] := by
        rw [Math.take_snoc B j hlt]
        unfold tb
        rw [getD_at B j hlt]
      have HTK : Hid (_) := hxT
      clear hxT
      go_wp2
      go_loopw [7, 8] (fun b i wx => ∃ m : Nat, m ≤ 8 ∧ i = .int .i64 m ∧ b = .int .i64 ((bv f j m : Nat) : Int) ∧ Box wx w.heap.size n u ∧ Hid (Below wr.heap.size wr wx)) (fun _ i _ => 8 - (intOf i).toNat)
      case atStart => exact ⟨0, by omega, rfl, rfl, m5, Below.refl _ _⟩
      case round =>
        obtain ⟨m, hm, rfl, rfl, m6, L6⟩ := hrel
        by_cases hm8 : m < 8
        · have hkm : K + m < u.size := by omega
          have J := HIX.out (K + m) hkm
          have X1 : Hid (∀ W, Calls Try.prog 39 #[.int .i64 ((K : Int) + (m : Int))] W fun e w' => e = .returned (.tuple #[.int .i64 (wx (K + m)), .int .i64 (wy (K + m))]) ∧ w' = W) := by
            intro W
            rw [show (K : Int) + (m : Int) = ((K + m : Nat) : Int) from by omega]
            exact HSP.out (K + m) W hkm
          have X2 : Hid (∀ W, _) := fun W => HP.out (K + m) W hkm
          have hsg := HSG.out (8 * j + m) (by omega)
          rw [show 25 + (8 * j + m) = K + m from by omega, show tb u (idx h (wx (K + m)) (wy (K + m))) = u[idx h (wx (K + m)) (wy (K + m))] from getD_at u _ J] at hsg
          have HV : Hid (bv f j (m + 1) = 2 * bv f j m + f (8 * j + m)) := rfl
          have hv7 : bv f j m < 128 := by
            have h1 := bv_lt HSL.out j m
            have h2 : 2 ^ m ≤ 2 ^ 7 := Nat.pow_le_pow_right (by omega) (by omega)
            omega
          have hfl := HSL.out (8 * j + m)
          generalize f (8 * j + m) = sb at *
          generalize bv f j m = bb at *
          generalize idx h (wx (K + m)) (wy (K + m)) = i2 at *
          generalize wx (K + m) = x at *
          generalize wy (K + m) = y at *
          have hk1 : (0 : Int) ≤ (i2 : Int) := by omega
          have hk2 : (i2 : Int) < (u.size : Int) := by omega
          have hsI : (u[i2].toNat : Int) = 48 + (sb : Int) := by omega
          have z1 : IntKind.i64.wrap (48 + (sb : Int)) = 48 + (sb : Int) := by rw [IntKind.wrap_i64]; omega
          have z2 : IntKind.i64.wrap (2 * (bb : Int)) = 2 * (bb : Int) := by rw [IntKind.wrap_i64]; omega
          have z3 : IntKind.i64.wrap (2 * (bb : Int) + (48 + (sb : Int))) = 2 * (bb : Int) + (48 + (sb : Int)) := by rw [IntKind.wrap_i64]; omega
          have z4 : IntKind.i64.wrap (2 * (bb : Int) + (48 + (sb : Int)) - 48) = 2 * (bb : Int) + (48 + (sb : Int)) - 48 := by rw [IntKind.wrap_i64]; omega
          have c0 := m6.n
          have c1 := m6.s
          go_wp2_with fail
          with_reducible refine (X1.out _).mono ?_
          rintro e w7 ⟨rfl, rfl⟩
          go_wp2
          go_region_held3 (fun w' => w'.cell? ⟨w.heap.size, 0, none⟩ = some (.int .i64 n) ∧ w'.cell? ⟨w.heap.size, 1, none⟩ = some (.string u)) (go_keep) (first
              | (go_at_call 28; refine (X2.out _).mono ?_; rintro e x2 ⟨rfl, rfl⟩))
          all_goals
            go_wp2
            go_roundw
            case rel => exact ⟨m + 1, by omega, by go_num, by rw [HV.out]; go_num, by first | exact m6 | exact m6.drew, by first | exact L6 | exact L6.out.drew⟩
            case measure => simp [intOf]; omega
        · obtain rfl : m = 8 := by omega
          have O6 := Pk.own_below O L6.out (Nat.le_refl _)
          have K6 := Pk.join_below K5.out L6.out
          have hneR : some w.heap.size ≠ u5.ownBlock := Pk.own_ne O6 m6 (by decide)
          generalize bv f j 8 = xx at *
          have z8 : IntKind.u8.wrap (xx : Int) = (xx : Int) := by rw [IntKind.wrap_u8]; omega
          have hBr : w.heap.size ≤ wr.heap.size := K6.size
          go_wp2_with (at_builtin; refine wpList_append_own _ rfl _ _ 50 rfl w.heap.size 5 i0 (.int .u8 0) 1 1 Try.underlying50 hi hz0 hz1 hz2 rfl (by decide) _ _ _ rfl (O6.alloc _) ⟨wr.heap.size, 0, none⟩ 1 1 [.int .u8 xx] rfl rfl ?c1 ?c2 ?c3 ?c4 ?c5 ?_)
          case c1 => exact cell_one_new _ _ _
          case c2 => intro u hu; simp at hu; subst hu; rfl
          case c3 => unfold maxLen; omega
          case c4 => omega
          case c5 => simp; omega
          intro v' w8 own8 grow8 _
          have L8 : Below w.heap.size w w8 := (K6.alloc hBr _).grown grow8 (by simp; omega) (fun m h => Pk.own_ge O6 m h)
          have m8 : Box w8 w.heap.size n u := Box.grown (Pk.heap_old m6 (.cells #[.int .u8 xx] 5)) grow8 hneR
          rw [show ([.int .u8 (xx : Int)] : List Value) = [.int .u8 ((tb B j).toNat : Int)] from by rw [HXB.out], Pk.bcells_snoc, ← HTK.out] at own8
          clear grow8
          go_wp2
          go_roundw
          case rel => exact ⟨j + 1, by omega, by rw [← hK]; go_num, own8, m8, L8⟩
          case measure => simp [intOf]; omega
    · obtain rfl : j = B.size := by omega
      have hKl : ¬ (K : Int) + 8 ≤ (u.size : Int) := by omega
      have hKu : K < 4000 := by omega
      rw [hK]
      rw [show B.data.toList.take B.size = B.data.toList from Math.take_all B] at O
      obtain ⟨g, cap, rfl⟩ := own_pos O (by omega)
      obtain ⟨cur, mg, -, hgw⟩ := own_blk O
      have C := own_Cl (f := fun i => .int .u8 ((tb B i).toNat : Int)) O (fun i hi => by
        rw [Pk.bcells_at _ _ (by rw [Array.length_toList]; exact hi)]
        unfold tb
        rw [List.getD_eq_getElem?_getD, List.getElem?_eq_getElem (by rw [Array.length_toList]; exact hi)]
        rfl)
      have hgl := Pk.lt_of mg
      have hcap : B.size ≤ cap ∧ cap ≤ maxLen := by
        obtain ⟨-, h2⟩ := O
        rcases h2 with ⟨hv, -⟩ | ⟨g2, cap2, cur2, hv, -, -, h3, h4, -, -⟩
        · cases hv
        · simp only [Value.slice.injEq] at hv
          rw [hv.2.2]
          exact ⟨h3, h4⟩
      unfold maxLen at hcap
      obtain ⟨hcap, hcapM⟩ := hcap
      clear O mg HSP HIX HP HSG HBB HSL
      obtain ⟨b0, hb0⟩ : ∃ b : Nat, (tb B 0).toNat = b := ⟨_, rfl⟩
      obtain ⟨b1, hb1⟩ : ∃ b : Nat, (tb B 1).toNat = b := ⟨_, rfl⟩
      have l0 : b0 < 256 := by rw [← hb0]; exact (tb B 0).toNat_lt
      have l1 : b1 < 256 := by rw [← hb1]; exact (tb B 1).toNat_lt
      have r0 : wr.cell? ⟨g, 0, none⟩ = some (.int .u8 ((tb B 0).toNat : Int)) := (C 0 (by omega)).1
      have r1 : wr.cell? ⟨g, 1, none⟩ = some (.int .u8 ((tb B 1).toNat : Int)) := (C 1 (by omega)).1
      rw [hb0] at r0
      rw [hb1] at r1
      obtain ⟨D, hD⟩ : ∃ D : Nat, b0 * 256 + b1 = D := ⟨_, rfl⟩
      have HTD : Hid (told B = D) := by show _ = _; unfold told; rw [hb0, hb1]; exact hD
      have q1 : (b0 : Int) * 256 + (b1 : Int) = (D : Int) := by omega
      have hD6 : D < 65536 := by omega
      have hB0 : (0 : Int) < (B.size : Int) := by omega
      have hB1 : (1 : Int) < (B.size : Int) := by omega
      have z0 : IntKind.i64.wrap (b0 : Int) = b0 := by rw [IntKind.wrap_i64]; omega
      have z1 : IntKind.i64.wrap (b1 : Int) = b1 := by rw [IntKind.wrap_i64]; omega
      clear hD hb0 hb1
      have hcv : ∀ (W : World) (a b cp : Nat), Below wr.heap.size wr W → a ≤ b → b ≤ B.size → (convert 50 9 (.slice (some ⟨g, a, none⟩) (b - a) cp)).run Try.prog W = .ok (.string (B.extract a b)) W := fun W a b cp L hab hb => conv_part (C.on L hgl) (Nat.le_refl _) a b cp hab hb
      have HCV : Hid (_) := hcv
      clear hcv C
      go_wp2
      go_region
      all_goals
        by_cases hDD : D ≤ 400 ∧ D + 6 ≤ B.size
        · obtain ⟨hD4, hD5⟩ := hDD
          have hDi : (D : Int) + 6 ≤ (B.size : Int) := by omega
          have HCS : Hid (∀ W, _) := fun W => Num.specCheckSum_any (B.extract 2 (2 + D)) W (by rw [ByteArray.size_extract]; unfold maxLen; omega)
          have HWT : Hid (∀ W, _) := fun W => Num.specWordText_any (Math.crc (B.extract 2 (2 + D)).data.toList) W (Math.crc_lt _)
          have HPA : Hid (∀ W, _) := fun W => specPaint_val (B.extract 2 (2 + D)) W (by rw [ByteArray.size_extract]; unfold maxLen; omega)
          have HCC : Hid (scanC n u B = if ¬ (B.extract (2 + D) (2 + D + 4) = Num.wordS (Math.crc (B.extract 2 (2 + D)).data.toList)) then 3 else if ¬ (pnV (B.extract 2 (2 + D)) = n ∧ ptV (B.extract 2 (2 + D)) = u) then 4 else 0) := by
            show _ = _
            unfold scanC
            rw [HTD.out, if_neg (fun h => h ⟨hD4, hD5⟩)]
          have HTT : Hid (scanT n u B = if B.extract (2 + D) (2 + D + 4) = Num.wordS (Math.crc (B.extract 2 (2 + D)).data.toList) ∧ pnV (B.extract 2 (2 + D)) = n ∧ ptV (B.extract 2 (2 + D)) = u then B.extract 2 (2 + D) else ⟨#[]⟩) := by
            show _ = _
            unfold scanT
            rw [HTD.out]
            by_cases hx : B.extract (2 + D) (2 + D + 4) = Num.wordS (Math.crc (B.extract 2 (2 + D)).data.toList) ∧ pnV (B.extract 2 (2 + D)) = n ∧ ptV (B.extract 2 (2 + D)) = u
            · rw [if_pos ⟨hD4, hD5, hx⟩, if_pos hx]
            · rw [if_neg (fun h => hx h.2.2), if_neg hx]
          have hcA : ∀ cp : Nat, (convert 50 9 (.slice (some ⟨g, 2, none⟩) D cp)).run Try.prog wr.drew = .ok (.string (B.extract 2 (2 + D))) wr.drew := by
            intro cp
            have h2 := HCV.out wr.drew 2 (2 + D) cp (Below.refl _ _).drew (by omega) (by omega)
            rw [show 2 + D - 2 = D from by omega] at h2
            exact h2
          have HCB : Hid (∀ (W : World) (cp : Nat), Below wr.heap.size wr W → (convert 50 9 (.slice (some ⟨g, 2 + D, none⟩) 4 cp)).run Try.prog W = .ok (.string (B.extract (2 + D) (2 + D + 4))) W) := by
            intro W cp L
            have h2 := HCV.out W (2 + D) (2 + D + 4) cp L (by omega) (by omega)
            rw [show 2 + D + 4 - (2 + D) = 4 from by omega] at h2
            exact h2
          clear HCV
          unfold sqV at HPA
          generalize B.extract 2 (2 + D) = tx at *
          generalize Math.crc tx.data.toList = cr at *
          generalize Num.wordS cr = wd at *
          generalize pnV tx = pn at *
          generalize ptV tx = pt at *
          generalize decide (tx.size ≤ 400) = bt at *
          have y1 : 2 + (D : Int) ≤ (cap : Int) := by omega
          have y2 : 6 + (D : Int) ≤ (cap : Int) := by omega
          have y3 : ¬ cap = 2 := by omega
          have y4 : ¬ cap = 2 + D := by omega
          have y5 : (2 + (D : Int)).toNat = 2 + D := by omega
          have y6 : (6 + (D : Int)).toNat = 6 + D := by omega
          have y7 : 6 + D - (2 + D) = 4 := by omega
          have y8 : 2 + D - 2 = D := by omega
          have y9 : (2 : Int) ≤ 2 + (D : Int) := by omega
          have y10 : 2 + (D : Int) ≤ 6 + (D : Int) := by omega
          have y11 : IntKind.i64.wrap (6 + (D : Int)) = 6 + (D : Int) := by rw [IntKind.wrap_i64]; omega
          have y12 : IntKind.i64.wrap (2 + (D : Int)) = 2 + (D : Int) := by rw [IntKind.wrap_i64]; omega
          have y13 : (0 : Int) ≤ 6 + (D : Int) := by omega
          have y14 : (0 : Int) ≤ 2 + (D : Int) := by omega
          have hsl : ∀ W, (Instr.slice 50 (.slice (some ⟨g, 0, none⟩) B.size cap) (some (.int .i64 (2 + (D : Int)))) (some (.int .i64 (6 + (D : Int)))) none).run Try.prog W = .ok (.slice (some ⟨g, 2 + D, none⟩) 4 (cap - (2 + D))) W := fun W => by
            simp [go_sem, Try.underlying50, y1, y2, y3, y4, y5, y6, y7, y9, y10, y13, y14]
            try omega
          have hcB1 := fun cp => HCB.out wr.drew.drew cp ((Below.refl _ _).drew).drew
          have hcB0 := fun cp => HCB.out wr.drew cp (Below.refl _ _).drew
          go_wp2
          by_cases hEq : B.extract (2 + D) (2 + D + 4) = wd
          · go_cut [96] from 15 (fun v wc => v = .bool false ∧ Below wr.heap.size wr wc)
            case first =>
              go_region_with (first
                | (go_at_call 37; (with_reducible refine (HCS.out _).mono ?_); rintro e x1 ⟨rfl, hx1⟩; subst hx1)
                | (go_at_call 36; (with_reducible refine (HWT.out _).mono ?_); rintro e x2 ⟨rfl, -, LX⟩; have L2 : Below wr.heap.size wr x2 := (by first | exact LX | exact ((Below.refl _ _).drew).trans LX | exact (((Below.refl _ _).drew).drew).trans LX | exact ((((Below.refl _ _).drew).drew).drew).trans LX); have hcB2 := fun cp => HCB.out x2 cp L2))
              all_goals
                go_wp2
                go_meet
                case rel => exact ⟨by first | rfl | (simp [hEq]; done), by first | exact L2 | exact L2.drew⟩
            case rest =>
              obtain ⟨rfl, LX⟩ := hcut
              have m6 := m5.on LX
              have K6 := Pk.join_below K5.out LX
              clear m5 K5 LX HCS HWT HCB hcB1 hcB0 hcA hsl y1 y2 y3 y4 y5 y6 y7 y8 y9 y10 y11 y12 y13 y14 q1
              go_wp2_with fail
              with_reducible refine (HPA.out _).mono ?_
              rintro e w7 ⟨rfl, L7⟩
              have m7 := m6.on L7
              have K7 := Pk.join_below K6 L7
              have hne : w.heap.size ≠ w7.heap.size := by
                have := Pk.lt_of m7
                omega
              have x9 : Box (w7.alloc (.cells #[.int .i64 pn, .string pt] 25)) w7.heap.size pn pt := Pk.heap_new w7 _
              have N8 := Pk.new_below w7 (.cells #[.int .i64 pn, .string pt] 25)
              have m9 := m7.on N8
              have K9 := Pk.join_below K7 N8
              have c0 := m9.n
              have c1 := m9.s
              have d0 := x9.n
              have d1 := x9.s
              have hq := neq_any pn n pt u
              by_cases hpq : pn = n ∧ pt = u
              · have HC : Hid (scanC n u B = 0) := by
                  show _ = _
                  rw [HCC.out, if_neg (fun h => h hEq), if_neg (fun h => h hpq)]
                have HX : Hid (scanT n u B = tx) := by
                  show _ = _
                  rw [HTT.out, if_pos ⟨hEq, hpq⟩]
                rw [show (!(decide (pn = n) && decide (pt = u))) = false from by simp [hpq]] at hq
                clear HCC HTT hpq
                go_wp2
                go_ret2
                exact ⟨by rw [HC.out, HX.out]; rfl, K9⟩
              · have HC : Hid (scanC n u B = 4) := by
                  show _ = _
                  rw [HCC.out, if_neg (fun h => h hEq), if_pos hpq]
                have HX : Hid (scanT n u B = ⟨#[]⟩) := by
                  show _ = _
                  rw [HTT.out, if_neg (fun h => hpq h.2)]
                rw [show (!(decide (pn = n) && decide (pt = u))) = true from by
                  rw [Bool.not_eq_true', Bool.and_eq_false_iff, decide_eq_false_iff_not, decide_eq_false_iff_not]
                  by_cases e : pn = n
                  · exact .inr (fun e2 => hpq ⟨e, e2⟩)
                  · exact .inl e] at hq
                clear HCC HTT hpq
                go_wp2
                go_ret2
                exact ⟨by rw [HC.out, HX.out]; rfl, K9⟩
          · have HC : Hid (scanC n u B = 3) := by
              show _ = _
              rw [HCC.out, if_pos hEq]
            have HX : Hid (scanT n u B = ⟨#[]⟩) := by
              show _ = _
              rw [HTT.out, if_neg (fun h => hEq h.1)]
            have z1 : ¬ (B.extract (2 + D) (2 + D + 4)).toList = wd.toList := fun e => hEq (Go.WideShapes.bytes_inj (by rw [← ByteArray.toList_eq, ← ByteArray.toList_eq]; exact e))
            clear HCC HTT HPA
            go_cut [96] from 15 (fun v wc => v = .bool true ∧ Below wr.heap.size wr wc)
            case first =>
              go_region_with (first
                | (go_at_call 37; (with_reducible refine (HCS.out _).mono ?_); rintro e x1 ⟨rfl, hx1⟩; subst hx1)
                | (go_at_call 36; (with_reducible refine (HWT.out _).mono ?_); rintro e x2 ⟨rfl, -, LX⟩; have L2 : Below wr.heap.size wr x2 := (by first | exact LX | exact ((Below.refl _ _).drew).trans LX | exact (((Below.refl _ _).drew).drew).trans LX | exact ((((Below.refl _ _).drew).drew).drew).trans LX); have hcB2 := fun cp => HCB.out x2 cp L2))
              all_goals
                go_wp2
                go_meet
                case rel => exact ⟨by first | rfl | (simp [z1]; done) | (simp [hEq]; done) | (simp [hEq]; exact z1), by first | exact L2 | exact L2.drew⟩
            case rest =>
              obtain ⟨rfl, LX⟩ := hcut
              have K6 := Pk.join_below K5.out LX
              go_wp2
              go_ret2
              exact ⟨by rw [HC.out, HX.out]; rfl, K6⟩
        · have HC : Hid (scanC n u B = 2) := by
            show _ = _
            unfold scanC
            rw [HTD.out, if_pos hDD]
          have HX : Hid (scanT n u B = ⟨#[]⟩) := by
            show _ = _
            unfold scanT
            rw [HTD.out, if_neg (fun h => hDD ⟨h.1, h.2.1⟩)]
          by_cases hD4 : D ≤ 400
          · have hD5 : ¬ D + 6 ≤ B.size := fun h => hDD ⟨hD4, h⟩
            go_wp2
            go_ret2
            exact ⟨by rw [HC.out, HX.out]; rfl, by first | exact K5.out | exact K5.out.drew⟩
          · go_wp2
            go_ret2
            exact ⟨by rw [HC.out, HX.out]; rfl, by first | exact K5.out | exact K5.out.drew⟩

end Sq
end Go.Proofs.Ytkhibgicejcmlam

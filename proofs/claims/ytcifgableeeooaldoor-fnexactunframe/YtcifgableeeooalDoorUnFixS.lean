/- The contract of the model's reader of a fixed block. -/
import Derived.Test.YtcifgableeeooalDoorMathFix2
import Derived.Test.YtcifgableeeooalDoorPkWhole
namespace Go.Proofs.YtcifgableeeooalDoor
namespace Pk
open Go.ChangeShapes Go.WideShapes Go.ChangeAt Go.RowKit
open Math (bitAt lowAt topAt symAt symLen fixFrom lenBits lenLeast p1 bk p2' dd nn copyN)
set_option linter.unusedSimpArgs false
set_option linter.unusedVariables false

/-- A row of bytes, one longer. -/
theorem own_len {w : World} {base e : Nat} {v : Value} {l : List UInt8} {b : UInt8} (h : w.ownsRow base e 1 v (l.length + 1) (bcells (l ++ [b]))) : w.ownsRow base e 1 v (l ++ [b]).length (bcells (l ++ [b])) := by
  rw [show (l ++ [b]).length = l.length + 1 from by simp]
  exact h

set_option maxRecDepth 100000 in
set_option maxHeartbeats 8000000 in
theorem fixedS_val (B c : Nat) (s : ByteArray) (a0 F : Nat) (w : World) (hs : s.size ≤ 100000) (hBc : B ≤ c) (hc : c < w.heap.size) (ha0 : a0 ≤ 8 * s.size) (hF : 8 * s.size < a0 + 7 * F) (H : RdS B c s a0 w) :
    Calls Tryd.prog 15 #[.pointer (some ⟨c, 0, none⟩)] w fun e w' => (∃ code txt a', fixFrom s F a0 [] = (code, txt, a') ∧ e = .returned (.tuple #[.string ⟨txt.toArray⟩, .int .i64 (code : Nat)]) ∧ (code = 0 → RdS B c s a' w' ∧ a' ≤ 8 * s.size)) ∧ Below B w w' := by
  obtain ⟨i0, hi, hz0, hz1, hz2⟩ := info_of info_u8
  have hBw : B ≤ w.heap.size := by omega
  have hs0 : (w.alloc (.cells #[] 5)).heap.size = w.heap.size + 1 := Array.size_push ..
  go_enter Tryd.func15, Tryd.ntmps15
  go_wp2
  go_loopw [4] (fun v wr => ∃ (a : Nat) (l : List UInt8) (f : Nat), a ≤ 8 * s.size ∧ l.length ≤ 3000 ∧ wr.ownsRow w.heap.size 5 1 v l.length (bcells l) ∧ Hid (Below B w wr) ∧ RdS B c s a wr ∧ 8 * s.size < a + 7 * f ∧ w.heap.size < wr.heap.size ∧ Hid (fixFrom s F a0 [] = fixFrom s f a l)) (fun _ wr => 8 * s.size + 1 - (intOf ((wr.cell? ⟨c, 1, none⟩).getD undef)).toNat)
  case atStart => exact ⟨a0, [], F, ha0, by simp, ⟨rfl, Or.inr ⟨w.heap.size, 0, #[], rfl, Nat.le_refl _, heap_new w _, by simp, by unfold maxLen; omega, rfl, rfl⟩⟩, (Below.refl _ _).alloc (by omega) _, ⟨hBc, heap_old H.2 _⟩, hF, by rw [hs0]; omega, rfl⟩
  case round =>
    clear hs0 H hF
    obtain ⟨a, l, f, hal, hl, hown, L, R, hf, hwr, HF⟩ := hrel
    obtain ⟨g, rfl⟩ : ∃ g, f = g + 1 := ⟨f - 1, by omega⟩
    have hy := Math.symAt_lt s a
    have hnl := Math.symLen_bd s a
    have HS : Hid (∀ _ : Unit, _) := fun _ => symS_val B c s a wr hs (by omega) R
    have HA : Hid (_) := R
    obtain ⟨va, vc, rfl, -⟩ := own_form hown
    have HMS : Hid (wr.cell? ⟨c, 1, none⟩ = some (.int .i64 ((min a (8 * s.size) : Nat) : Int))) := cell_at R.2 1
    clear R
    obtain ⟨y, hyy⟩ : ∃ y, symAt s a = y := ⟨_, rfl⟩
    obtain ⟨nl, hnn⟩ : ∃ nl, symLen s a = nl := ⟨_, rfl⟩
    have HYY : Hid (symAt s a = y) := hyy
    have HNN : Hid (symLen s a = nl) := hnn
    rw [hyy, hnn] at HS
    rw [hyy] at hy
    rw [hnn] at hnl
    clear hyy hnn
    go_wp2_with fail
    refine (HS.out ()).mono ?_
    rintro e w2 ⟨rfl, R2, M2, L2⟩
    have hown2 := own_mv hown M2 HA.out.2 (by decide)
    have L3 := L.out.trans L2
    have HR2 : Hid (_) := R2
    have c2 : w2.cell? ⟨c, 2, none⟩ = some (.bool (decide (8 * s.size < a + nl))) := cell_at R2.2 2
    have hw2 : w.heap.size < w2.heap.size := by rw [M2.1]; exact hwr
    clear HS R2 M2 L2 L hown HA hwr
    by_cases hcut : 8 * s.size < a + nl
    · have HX : Hid (_) := HF.out.trans (Math.fix_cut (by rw [HNN.out]; exact hcut))
      rw [decide_eq_true hcut] at c2
      go_wp2
      go_ret2
      exact ⟨⟨1, [], _, HX.out, rfl, fun h => absurd h (by decide)⟩, L3⟩
    rw [decide_eq_false hcut] at c2
    by_cases h256 : y = 256
    · have HX : Hid (_) := HF.out.trans (Math.fix_end (by rw [HNN.out]; exact hcut) (by rw [HYY.out]; exact h256))
      subst h256
      have hconv := conv_own hown2
      go_wp2
      go_ret2
      exact ⟨⟨0, l, _, HX.out, rfl, fun _ => ⟨by rw [HNN.out]; exact HR2.out, by rw [HNN.out]; omega⟩⟩, L3⟩
    have h256I : ¬ (y : Int) = 256 := by omega
    by_cases hlt : y < 256
    · have hltI : (y : Int) < 256 := by omega
      have hwy : IntKind.u8.wrap (y : Int) = (y : Int) := by rw [IntKind.wrap_u8]; omega
      have hBr : w.heap.size ≤ w2.heap.size := by omega
      have HBY : Hid (((UInt8.ofNat y).toNat : Int) = (y : Int)) := by show ((UInt8.ofNat y).toNat : Int) = (y : Int); rw [UInt8.toNat_ofNat']; omega
      go_wp2_with (at_builtin; refine wpList_append_own _ rfl _ _ 55 rfl w.heap.size 5 i0 (.int .u8 0) 1 1 Tryd.underlying55 hi hz0 hz1 hz2 rfl (by decide) _ _ _ rfl (hown2.alloc _) ⟨w2.heap.size, 0, none⟩ 1 1 [.int .u8 (y : Int)] rfl rfl ?c1 ?c2 ?c3 ?c4 ?c5 ?_)
      case c1 => exact cell_one_new _ _ _
      case c2 => intro u hu; simp at hu; subst hu; rfl
      case c3 => unfold maxLen; omega
      case c4 => omega
      case c5 => simp; omega
      intro v' w3 hown3 hgrow _
      rw [← HBY.out, bcells_snoc] at hown3
      have m2 := heap_old HR2.out.2 (.cells #[.int .u8 (y : Int)] 5)
      have m3 : w3.heap[c]? = _ := (hgrow.block c (lt_of m2) (own_ne (hown2.alloc _) m2 (by decide))).trans m2
      have L4 : Below B w w3 := (L3.alloc (by omega) _).grown hgrow (by simp; omega) (fun m h => Nat.le_trans hBw (own_ge hown2 m h))
      have hw3 : w.heap.size < w3.heap.size := Nat.lt_of_lt_of_le (by simp; omega) hgrow.size
      have c31 : w3.cell? ⟨c, 1, none⟩ = some (.int .i64 ((min (a + nl) (8 * s.size) : Nat) : Int)) := cell_at m3 1
      clear hgrow m2 hown2 c2
      by_cases hful : 3000 < l.length + 1
      · have HX : Hid (_) := HF.out.trans (Math.fix_full (by rw [HNN.out]; exact hcut) (by rw [HYY.out]; exact hlt) hful)
        obtain ⟨va3, vc3, rfl, -⟩ := own_form hown3
        have hfI : (3000 : Int) < (l.length : Int) + 1 := by omega
        go_wp2
        go_ret2
        exact ⟨⟨5, [], _, HX.out, rfl, fun h => absurd h (by decide)⟩, L4⟩
      · have HX : Hid (_) := HF.out.trans (Math.fix_byte (by rw [HNN.out]; exact hcut) (by rw [HYY.out]; exact hlt) hful)
        rw [HNN.out, HYY.out] at HX
        obtain ⟨va3, vc3, rfl, -⟩ := own_form hown3
        have hfI : ¬ (3000 : Int) < (l.length : Int) + 1 := by omega
        have HSL : Hid (_) := own_len hown3
        go_wp2
        go_roundw
        case rel => exact ⟨a + nl, l ++ [UInt8.ofNat y], g, by omega, by simp; omega, HSL.out, L4, ⟨hBc, m3⟩, by omega, hw3, HX⟩
        case measure => rw [c31, HMS.out]; simp [intOf]; omega
    have hltI : ¬ (y : Int) < 256 := by omega
    by_cases h285 : 285 < y
    · have HX : Hid (_) := HF.out.trans (Math.fix_sym (by rw [HNN.out]; exact hcut) (by rw [HYY.out]; exact h285))
      have h285I : (285 : Int) < (y : Int) := by omega
      go_wp2
      go_ret2
      exact ⟨⟨3, [], _, HX.out, rfl, fun h => absurd h (by decide)⟩, L3⟩
    have h285I : ¬ (285 : Int) < (y : Int) := by omega
    have hy256 : 256 < y := by omega
    obtain ⟨hlb1, hlb2⟩ := len_bds y (by omega) (by omega)
    have HLO : Hid (∀ W, _) := fun W => lenOf_any y W (by omega) (by omega)
    unfold ii2 at HLO
    have HN1 : Hid (∀ W, RdS B c s (a + nl) W → _) := fun W r => numS_val B c s (a + nl) (lenBits y) W hs (by omega) (by omega) r
    have HP1 : Hid (p1 s a = a + nl + lenBits y) := by show p1 s a = _; unfold p1; rw [HNN.out, HYY.out]
    have HTP : Hid (∀ W, RdS B c s (a + nl + lenBits y) W → _) := fun W r => topS_val B c s (a + nl + lenBits y) 5 W hs (by omega) (by omega) r
    have HBK : Hid (bk s a = topAt s (a + nl + lenBits y) 5) := by show bk s a = _; unfold bk; rw [HP1.out]
    have hbk := Math.bk_lt s a
    rw [show ((5 : Nat) : Int) = 5 from rfl, ← HBK.out] at HTP
    have hlo1 : lowAt s (a + nl) (lenBits y) < 32 := Nat.lt_of_lt_of_le (Math.lowAt_lt s (a + nl) (lenBits y)) (Nat.le_trans (Nat.pow_le_pow_right (by omega) hlb2) (by decide))
    have HNNN : Hid (nn s a = lenLeast y + lowAt s (a + nl) (lenBits y)) := by show nn s a = _; rw [Math.nn_is, HNN.out, HYY.out]
    have HG1 : Hid (∀ K, K ≤ 29 → ∀ W, _) := fun K hK W => backOf_val K W hK
    unfold ii2 at HG1
    generalize lowAt s (a + nl) (lenBits y) = lo1 at *
    generalize hlbb : lenBits y = lb at *
    generalize lenLeast y = ll at *
    obtain ⟨n, hn⟩ : ∃ n, ll + lo1 = n := ⟨_, rfl⟩
    have hnI : (ll : Int) + (lo1 : Int) = (n : Int) := by omega
    rw [hn] at HNNN
    have hn290 : n ≤ 290 := by omega
    clear hn
    obtain ⟨K, hKK⟩ : ∃ K, bk s a = K := ⟨_, rfl⟩
    have HKK : Hid (bk s a = K) := hKK
    rw [hKK] at HTP HBK hbk
    clear hKK
    go_wp2_with fail
    refine (HLO.out _).mono ?_
    rintro e w3 ⟨rfl, hw3⟩
    have hw4 := hw3.symm
    subst hw4
    go_wp2_with fail
    refine (HN1.out _ HR2.out).mono ?_
    rintro e w4 ⟨rfl, R4, M4, L4⟩
    have hown4 := own_mv hown2 M4 HR2.out.2 (by decide)
    have K4 := L3.trans L4
    have hw4 : w.heap.size < w4.heap.size := by rw [M4.1]; exact hw2
    have HR4 : Hid (_) := R4
    clear R4 M4 L4 L3 hown2 HR2 c2 hw2 HLO HN1 hw3
    go_wp2_with fail
    refine (HTP.out _ HR4.out).mono ?_
    rintro e w5 ⟨rfl, R5, M5, L5⟩
    have hown5 := own_mv hown4 M5 HR4.out.2 (by decide)
    have K5 := K4.trans L5
    have hw5 : w.heap.size < w5.heap.size := by rw [M5.1]; exact hw4
    have HR5 : Hid (_) := R5
    have c5 : w5.cell? ⟨c, 2, none⟩ = some (.bool (decide (8 * s.size < a + nl + lb + 5))) := cell_at R5.2 2
    clear R5 M5 L5 K4 hown4 HR4 hw4 HTP
    have hn1 : Hid (¬ 8 * s.size < a + symLen s a) := by show ¬ _; rw [HNN.out]; exact hcut
    have hn2 : Hid (256 < symAt s a) := by show _ < _; rw [HYY.out]; exact hy256
    have hn3 : Hid (symAt s a ≤ 285) := by show _ ≤ _; rw [HYY.out]; omega
    by_cases hcut2 : 8 * s.size < a + nl + lb + 5
    · have HX : Hid (_) := HF.out.trans (Math.fix_cut2 hn1.out hn2.out hn3.out (by rw [HP1.out]; exact hcut2))
      rw [decide_eq_true hcut2] at c5
      go_wp2
      go_ret2
      exact ⟨⟨1, [], _, HX.out, rfl, fun h => absurd h (by decide)⟩, K5⟩
    rw [decide_eq_false hcut2] at c5
    have hn4 : Hid (¬ 8 * s.size < p1 s a + 5) := by show ¬ _; rw [HP1.out]; exact hcut2
    by_cases h29 : 29 < K
    · have HX : Hid (_) := HF.out.trans (Math.fix_sym2 hn1.out hn2.out hn3.out hn4.out (by rw [HKK.out]; exact h29))
      have h29I : (29 : Int) < (K : Int) := by omega
      go_wp2
      go_ret2
      exact ⟨⟨3, [], _, HX.out, rfl, fun h => absurd h (by decide)⟩, K5⟩
    have h29I : ¬ (29 : Int) < (K : Int) := by omega
    have hn5 : Hid (¬ 29 < bk s a) := by show ¬ _; rw [HKK.out]; exact h29
    obtain ⟨hcb1, hcb2⟩ := Math.back_bds K (by omega)
    have HBO : Hid (∀ W, _) := fun W => HG1.out K (by omega) W
    have HN2 : Hid (∀ W, RdS B c s (a + nl + lb + 5) W → _) := fun W r => numS_val B c s (a + nl + lb + 5) (Math.cbits 2 K) W hs (by omega) (by omega) r
    have HP2 : Hid (p2' s a = a + nl + lb + 5 + Math.cbits 2 K) := by show p2' s a = _; unfold p2'; rw [HP1.out, HKK.out]
    have HDD : Hid (dd s a = Math.cleast 2 K + 1 + lowAt s (a + nl + lb + 5) (Math.cbits 2 K)) := by show dd s a = _; rw [Math.dd_is, HKK.out, HP1.out]
    have hlo2 : lowAt s (a + nl + lb + 5) (Math.cbits 2 K) < 8192 := Nat.lt_of_lt_of_le (Math.lowAt_lt s (a + nl + lb + 5) (Math.cbits 2 K)) (Nat.le_trans (Nat.pow_le_pow_right (by omega) hcb2) (by decide))
    generalize lowAt s (a + nl + lb + 5) (Math.cbits 2 K) = lo2 at *
    generalize Math.cbits 2 K = cb at *
    generalize Math.cleast 2 K = cl at *
    obtain ⟨d, hd⟩ : ∃ d, cl + 1 + lo2 = d := ⟨_, rfl⟩
    have hdI : (cl : Int) + 1 + (lo2 : Int) = (d : Int) := by omega
    rw [hd] at HDD
    have hd1 : 1 ≤ d := by omega
    have hd49 : d ≤ 50000 := by omega
    clear HG1 hd
    go_wp2_with fail
    refine (HBO.out _).mono ?_
    rintro e w6 ⟨rfl, hw6⟩
    have hw7 := hw6.symm
    subst hw7
    go_wp2_with fail
    refine (HN2.out _ HR5.out).mono ?_
    rintro e w6 ⟨rfl, R6, M6, L6⟩
    have hown6 := own_mv hown5 M6 HR5.out.2 (by decide)
    have K6 := K5.trans L6
    have hw6' : w.heap.size < w6.heap.size := by rw [M6.1]; exact hw5
    have HR6 : Hid (_) := R6
    have c6 : w6.cell? ⟨c, 2, none⟩ = some (.bool (decide (8 * s.size < a + nl + lb + 5 + cb))) := cell_at R6.2 2
    clear R6 M6 L6 K5 hown5 HR5 hw5 HBO HN2 hw6 c5
    by_cases hcut3 : 8 * s.size < a + nl + lb + 5 + cb
    · have HX : Hid (_) := HF.out.trans (Math.fix_cut3 hn1.out hn2.out hn3.out hn4.out hn5.out (by rw [HP2.out]; exact hcut3))
      rw [decide_eq_true hcut3] at c6
      go_wp2
      go_ret2
      exact ⟨⟨1, [], _, HX.out, rfl, fun h => absurd h (by decide)⟩, K6⟩
    rw [decide_eq_false hcut3] at c6
    have hn6 : Hid (¬ 8 * s.size < p2' s a) := by show ¬ _; rw [HP2.out]; exact hcut3
    by_cases hbk2 : l.length < d
    · have HX : Hid (_) := HF.out.trans (Math.fix_back hn1.out hn2.out hn3.out hn4.out hn5.out hn6.out (by rw [HDD.out]; exact hbk2))
      have hbI : (l.length : Int) < (d : Int) := by omega
      go_wp2
      go_ret2
      exact ⟨⟨4, [], _, HX.out, rfl, fun h => absurd h (by decide)⟩, K6⟩
    have hbI : ¬ (l.length : Int) < (d : Int) := by omega
    have hn7 : Hid (¬ l.length < dd s a) := by show ¬ _; rw [HDD.out]; exact hbk2
    by_cases hlg : 3000 < l.length + n
    · have HX : Hid (_) := HF.out.trans (Math.fix_long hn1.out hn2.out hn3.out hn4.out hn5.out hn6.out hn7.out (by rw [HNNN.out]; exact hlg))
      have hgI : (3000 : Int) < (l.length : Int) + (n : Int) := by omega
      go_wp2
      go_ret2
      exact ⟨⟨5, [], _, HX.out, rfl, fun h => absurd h (by decide)⟩, K6⟩
    have hgI : ¬ (3000 : Int) < (l.length : Int) + (n : Int) := by omega
    have HX : Hid (_) := HF.out.trans (Math.fix_copy hn1.out hn2.out hn3.out hn4.out hn5.out hn6.out hn7.out (by rw [HNNN.out]; exact hlg))
    rw [HP2.out, HDD.out, HNNN.out] at HX
    have hdl : d ≤ l.length := by omega
    have hn3k : l.length + n ≤ 3000 := by omega
    have hgI2 : ¬ (3000 : Int) < (l.length : Int) + (n : Int) := by omega
    have hbI2 : ¬ (l.length : Int) < (d : Int) := by omega
    clear hn1 hn2 hn3 hn4 hn5 hn6 hn7 HP1 HP2 HDD HNNN HKK HBK hbI hgI hlg hbk2
    have HLN : Hid (_) := Math.copyN_length l d
    have m6 := HR6.out.2
    have HNS : Hid (∀ k, (copyN l d k).length = l.length + k) := fun k => Math.copyN_length l d k
    generalize hN : l.length = N at *
    have c61 : Hid (w6.cell? ⟨c, 1, none⟩ = some (.int .i64 ((min (a + nl + lb + 5 + cb) (8 * s.size) : Nat) : Int))) := cell_at m6 1
    have hown6' : w6.ownsRow w.heap.size 5 1 (.slice va N vc) (N + 0) (bcells (copyN l d 0)) := hown6
    clear hown6 HLN
    have hdN : decide (N < d) = false := decide_eq_false (by omega)
    go_wp2
    go_loopw [4, 11] (fun v i wr2 => ∃ (j : Nat), j ≤ n ∧ i = .int .i64 j ∧ wr2.ownsRow w.heap.size 5 1 v (N + j) (bcells (copyN l d j)) ∧ Hid (Below B w wr2) ∧ w.heap.size < wr2.heap.size ∧ wr2.heap[c]? = some (.cells #[.string s, .int .i64 ((min (a + nl + lb + 5 + cb) (8 * s.size) : Nat) : Int), .bool (decide (8 * s.size < a + nl + lb + 5 + cb))] 41)) (fun _ i _ => n - (intOf i).toNat)
    case atStart => exact ⟨0, by omega, rfl, hown6', K6, hw6', m6⟩
    case round =>
      clear hown6' K6 hw6' m6 c6 c61
      obtain ⟨j, hj, rfl, hownj, Lj, hwj, mj⟩ := hrel
      have hlen := HNS.out j
      have hBj : w.heap.size ≤ wr.heap.size := by omega
      by_cases hjn : j < n
      · have hne := own_ne hownj mj (by decide)
        obtain ⟨gg, cp, rfl, hg1, hg2, u, hu, hc⟩ := own_at hownj (N + j - d) (by omega)
        rw [bcells_at _ _ (by omega)] at hu
        simp only [Option.some.injEq] at hu
        subst hu
        have hgd : (copyN l d j)[N + j - d]'(by omega) = (copyN l d j).getD ((copyN l d j).length - d) 0 := by
          rw [List.getD_eq_getElem?_getD, show (copyN l d j).length - d = N + j - d by omega, List.getElem?_eq_getElem (by omega)]
          rfl
        rw [hgd] at hc
        have HSn : Hid (bcells (copyN l d j) ++ [.int .u8 (((copyN l d j).getD ((copyN l d j).length - d) 0).toNat : Int)] = bcells (copyN l d (j + 1))) := bcells_snoc (copyN l d j) ((copyN l d j).getD ((copyN l d j).length - d) 0)
        clear hgd
        generalize (copyN l d j).getD ((copyN l d j).length - d) 0 = yb at *
        have hyb := yb.toNat_lt
        have e1 : ((N : Int) + j - d) = ((N + j - d : Nat) : Int) := by omega
        have hjI : (j : Int) < (n : Int) := by omega
        have hqlt : N + j - d < N + j := by omega
        generalize N + j - d = q at *
        have hqI : (q : Int) < (N : Int) + (j : Int) := by omega
        clear hlen
        go_wp2_with (at_builtin; refine wpList_append_own _ rfl _ _ 55 rfl w.heap.size 5 i0 (.int .u8 0) 1 1 Tryd.underlying55 hi hz0 hz1 hz2 rfl (by decide) _ _ _ rfl (hownj.alloc _) ⟨wr.heap.size, 0, none⟩ 1 1 [.int .u8 yb.toNat] rfl rfl ?d1 ?d2 ?d3 ?d4 ?d5 ?_)
        case d1 => exact cell_one_new _ _ _
        case d2 => intro u hu; simp at hu; subst hu; rfl
        case d3 => unfold maxLen; omega
        case d4 => omega
        case d5 => simp; omega
        intro v' w3 hown3 hgrow _
        have L9 : Below B w w3 := (Lj.out.alloc (by omega) _).grown hgrow (by simp; omega) (fun m h => Nat.le_trans hBw (own_ge hownj m h))
        have m9 : w3.heap[c]? = _ := (hgrow.block c (by have := lt_of mj; simp; omega) hne).trans (heap_old mj _)
        have hw9 : w.heap.size < w3.heap.size := Nat.lt_of_lt_of_le (by simp; omega) hgrow.size
        rw [HSn.out] at hown3
        clear hownj hgrow hc mj hne
        go_wp2
        go_roundw
        case rel => exact ⟨j + 1, by omega, by go_num, hown3, L9, hw9, m9⟩
        case measure => simp [intOf]; omega
      · obtain rfl : j = n := by omega
        have hjI : ¬ (j : Int) < (j : Int) := by omega
        have c91 : wr.cell? ⟨c, 1, none⟩ = some (.int .i64 ((min (a + nl + lb + 5 + cb) (8 * s.size) : Nat) : Int)) := cell_at mj 1
        go_wp2
        go_roundw
        case rel => exact ⟨a + nl + lb + 5 + cb, copyN l d j, g, by omega, by omega, by rw [hlen]; exact hownj, Lj, ⟨hBc, mj⟩, by omega, hwj, HX⟩
        case measure => rw [c91, HMS.out]; simp [intOf]; omega

end Pk
end Go.Proofs.YtcifgableeeooalDoor

/- The contract of the model's Whole. -/
import Derived.Test.YtllmmelnkkmfoabPkWhole
namespace Go.Proofs.Ytllmmelnkkmfoab
namespace Pk
open Go.ChangeShapes Go.WideShapes Go.ChangeAt Go.RowKit
open Math (Pc)
set_option linter.unusedSimpArgs false
set_option linter.unusedVariables false

theorem in_is' (x a b : Int) (c : Bool) (h : decide (a ≤ x ∧ x ≤ b) = c) (w : World) :
    Calls Try.prog 21 #[.int .i64 x, .int .i64 a, .int .i64 b] w fun e w' => e = .returned (.bool c) ∧ w' = w := by
  subst h
  by_cases h1 : a ≤ x <;> by_cases h2 : x ≤ b
  all_goals
    go_enter Try.func21, Try.ntmps21
    go_wp2
    go_ret
    exact ⟨by simp [h1, h2], rfl⟩

set_option maxHeartbeats 4000000 in
set_option maxRecDepth 100000 in
theorem specWhole_val (a : Option Addr) (ps : List Pc) (cap : Nat) (w : World) (hz : ps.length ≤ 1048576) (I : Pcs w a ps) :
    Calls Try.prog 9 #[.slice a ps.length cap] w fun e w' => e = .returned (t2 (Math.wholeS ps) (Math.wholeB ps)) ∧ Below w.heap.size w w' := by
  obtain ⟨i0, hi, hz0, hz1, hz2⟩ := info_of info_u8
  go_enter Try.func9, Try.ntmps9
  go_wp2
  go_loopw [4, 5] (fun v i wr => ∃ (k : Nat) (l : List UInt8), k ≤ ps.length ∧ l.length ≤ 3000 ∧ i = .int .i64 k ∧ wr.ownsRow w.heap.size 5 1 v l.length (bcells l) ∧ Below w.heap.size w wr ∧ Hid (Math.wholeAt ps k = some l)) (fun _ i _ => ps.length - (intOf i).toNat)
  case atStart => exact ⟨0, [], by omega, by simp, rfl, ⟨rfl, Or.inr ⟨w.heap.size, 0, #[], rfl, Nat.le_refl _, heap_new w _, by simp, by unfold maxLen; omega, rfl, rfl⟩⟩, new_below _ _, rfl⟩
  case round =>
    obtain ⟨k, l, hk, hl, rfl, hown, LR, H⟩ := hrel
    by_cases hkn : k < ps.length
    · obtain ⟨va, vc, rfl, -⟩ := own_form hown
      obtain ⟨b, o, rfl, hlt, hc0, hc1, hc2⟩ := (I.on LR).at k hkn
      have HS : Hid (Math.wholeAt ps (k + 1) = Math.step l ps[k]) := by
        show _ = _
        rw [Math.wholeAt_succ ps k l H.out, List.getD_eq_getElem?_getD, List.getElem?_eq_getElem hkn]
        rfl
      clear H
      generalize ps[k] = p at *
      have m1 := heap_new wr (.cells #[.int .i64 p.x, .int .i64 p.n, .int .i64 p.d] 30)
      have L1 : Below w.heap.size w (wr.alloc (.cells #[.int .i64 p.x, .int .i64 p.n, .int .i64 p.d] 30)) := LR.alloc LR.size _
      have hown1 := hown.alloc (.cells #[.int .i64 p.x, .int .i64 p.n, .int .i64 p.d] 30)
      have NO : Hid (Math.step l p = none → Math.wholeS ps = ⟨#[]⟩ ∧ Math.wholeB ps = false) := fun h => Math.whole_no ps (k + 1) (by omega) (by rw [HS.out]; exact h)
      by_cases hz0' : p.n = 0 ∧ p.d = 0
      · obtain ⟨hn0, hd0⟩ := hz0'
        rw [hn0] at hc1 m1 L1 hown1
        rw [hd0] at hc2 m1 L1 hown1
        by_cases hx : 0 ≤ p.x ∧ p.x ≤ 255
        · have HB : Hid (p.isB = true) := decide_eq_true ⟨hn0, hd0, hx.1, hx.2⟩
          have HU : Hid (_) := u8_of p.x hx.1 hx.2
          have HI : Hid (_) := decide_eq_true hx
          obtain ⟨hx0, hx1⟩ := hx
          clear hn0 hd0
          generalize hpx : p.x = x at *
          have HX : Hid (p.x = x) := hpx
          clear hpx
          generalize hlN : l.length = N at *
          have HLN : Hid (l.length = N) := hlN
          clear hlN
          by_cases h3 : 3000 ≤ N
          · have HN : Hid (_) := NO.out (Math.step_none l p ⟨fun _ => by (rw [HLN.out]; exact h3), fun h => by (rw [Math.isB_not_isC p HB.out] at h; cases h)⟩)
            have hdd : decide ((3000 : Int) ≤ (N : Int)) = true := decide_eq_true (by omega)
            clear h3 hl
            go_wp2_with fail
            refine (in_is' x 0 255 true HI.out _).mono ?_
            rintro e w2 ⟨rfl, rfl⟩
            go_wp2
            go_ret2
            rw [HN.out.1, HN.out.2]
            exact ⟨rfl, L1⟩
          · have HN : Hid (Math.wholeAt ps (k + 1) = some (l ++ [UInt8.ofNat x.toNat])) := by
              show _ = _
              rw [HS.out, Math.step_byte l p HB.out (by rw [HLN.out]; omega), HX.out]
            have hdd : decide ((3000 : Int) ≤ (N : Int)) = false := decide_eq_false (by omega)
            have H3 : Hid (N < 3000) := by show _ < _; omega
            clear h3 hl
            go_wp2_with fail
            refine (in_is' x 0 255 true HI.out _).mono ?_
            rintro e w2 ⟨rfl, rfl⟩
            generalize hP : wr.heap.size = P at *
            generalize wr.alloc (.cells #[.int .i64 x, .int .i64 0, .int .i64 0] 30) = w1 at *
            have hBr : w.heap.size ≤ w1.heap.size := L1.size
            have c0 : w1.cell? ⟨P, 0, none⟩ = some (.int .i64 x) := cell_at m1 0
            clear hc0 hc1 hc2 hP
            go_wp2_with (at_builtin; refine wpList_append_own _ rfl _ _ 22 rfl w.heap.size 5 i0 (.int .u8 0) 1 1 Try.underlying22 hi hz0 hz1 hz2 rfl (by decide) _ _ _ rfl (hown1.alloc _) ⟨w1.heap.size, 0, none⟩ 1 1 [.int .u8 x] rfl rfl ?c1 ?c2 ?c3 ?c4 ?c5 ?_)
            case c1 => exact cell_one_new _ _ _
            case c2 => intro u hu; simp at hu; subst hu; rfl
            case c3 => have := H3.out; unfold maxLen; omega
            case c4 => have := H3.out; omega
            case c5 => simp; omega
            · intro v' w3 hown3 hgrow _
              have L4 : Below w.heap.size w w3 := (L1.alloc hBr _).grown hgrow (by simp; omega) (fun m h => own_ge hown1 m h)
              have hs := bcells_snoc l (UInt8.ofNat x.toNat)
              rw [HU.out] at hs
              rw [hs] at hown3
              obtain ⟨va', vc', rfl, -⟩ := own_form hown3
              clear hs hown1 hgrow c0 m1 L1 hown
              generalize hm : N + 1 = m at *
              have HL : Hid ((l ++ [UInt8.ofNat x.toNat]).length = m) := by show _ = _; rw [List.length_append, HLN.out]; exact hm
              have hm3 : m ≤ 3000 := by have := H3.out; omega
              clear hm
              go_wp2
              go_roundw
              case rel => exact ⟨k + 1, l ++ [UInt8.ofNat x.toNat], by omega, by rw [HL.out]; exact hm3, by go_num, by rw [HL.out]; exact hown3, L4, HN⟩
              case measure => simp [intOf]; omega
        · have HN : Hid (_) := NO.out (Math.step_none l p ⟨fun h => by (have := of_decide_eq_true h; omega), fun h => by (have := of_decide_eq_true h; omega)⟩)
          have HI : Hid (_) := decide_eq_false hx
          clear hx hn0 hd0
          go_wp2_with fail
          refine (in_is' p.x 0 255 false HI.out _).mono ?_
          rintro e w2 ⟨rfl, rfl⟩
          go_wp2
          go_ret2
          rw [HN.out.1, HN.out.2]
          exact ⟨rfl, L1⟩
      · have HB : Hid (p.isB = false) := decide_eq_false (by omega)
        have hnb : ∀ q, Hid (p.isB = true → 3000 ≤ q) := fun q h => by (rw [HB.out] at h; cases h)
        have HH : Hid ((p.n == 0) = false ∨ ((p.n == 0) = true ∧ (p.d == 0) = false)) := by
          show _ ∨ _
          simp only [beq_eq_false_iff_ne, beq_iff_eq]
          omega
        by_cases hn : 3 ≤ p.n ∧ p.n ≤ 258
        · have hn0 : (p.n == 0) = false := by rw [beq_eq_false_iff_ne]; omega
          have HI : Hid (_) := decide_eq_true hn
          by_cases hd : 1 ≤ p.d ∧ p.d ≤ 1024
          · have HJ : Hid (_) := decide_eq_true hd
            obtain ⟨n, hn'⟩ := Int.eq_ofNat_of_zero_le (show 0 ≤ p.n by omega)
            obtain ⟨d, hd'⟩ := Int.eq_ofNat_of_zero_le (show 0 ≤ p.d by omega)
            have HE : Hid (p.n = n ∧ p.d = d) := ⟨hn', hd'⟩
            rw [hn'] at hc1 m1 L1 hown1 hn0 HI
            rw [hd'] at hc2 m1 L1 hown1 HJ
            have hp1 : 3 ≤ n ∧ n ≤ 258 ∧ 1 ≤ d ∧ d ≤ 1024 := by omega
            clear hn hd hn' hd' hz0' HH
            generalize hlN : l.length = N at *
            have HLN : Hid (l.length = N) := hlN
            clear hlN
            by_cases hdl : d ≤ N
            · by_cases hx : p.x = 0
              · have HC : Hid (p.isC = true) := decide_eq_true (by have := HE.out; omega)
                rw [hx] at hc0 m1 L1 hown1
                by_cases h3 : N + n ≤ 3000
                · have HN : Hid (Math.wholeAt ps (k + 1) = some (Math.copyN l d n)) := by
                    show _ = _
                    rw [HS.out, Math.step_copy l p HB.out HC.out (by rw [HE.out.2, HLN.out]; omega) (by rw [HE.out.1, HLN.out]; omega), HE.out.1, HE.out.2]
                    rfl
                  have hdN : decide (N < d) = false := decide_eq_false (by omega)
                  have hd3 : decide ((3000 : Int) < (N : Int) + (n : Int)) = false := decide_eq_false (by omega)
                  go_wp2_with (first | (go_at_call 21; (with_reducible refine (in_is' _ 3 258 true HI.out _).mono ?_); rintro e w' ⟨rfl, rfl⟩) | (go_at_call 21; (with_reducible refine (in_is' _ 1 1024 true HJ.out _).mono ?_); rintro e w' ⟨rfl, rfl⟩))
                  clear NO HS hc0 hc1 hc2
                  generalize hP : wr.heap.size = P at *
                  generalize wr.alloc (.cells #[.int .i64 0, .int .i64 n, .int .i64 d] 30) = w1 at *
                  have hBr : w.heap.size ≤ w1.heap.size := L1.size
                  go_loopw [4, 7] (fun v i wr2 => ∃ (j : Nat), j ≤ n ∧ i = .int .i64 j ∧ wr2.ownsRow w.heap.size 5 1 v (N + j) (bcells (Math.copyN l d j)) ∧ Below w.heap.size w wr2 ∧ wr2.heap[P]? = some (.cells #[.int .i64 0, .int .i64 n, .int .i64 d] 30)) (fun _ i _ => n - (intOf i).toNat)
                  case atStart => exact ⟨0, by omega, rfl, hown1, L1, m1⟩
                  case round =>
                    obtain ⟨j, hj, rfl, hownj, Lj, mj⟩ := hrel
                    have c1 : wr.cell? ⟨P, 1, none⟩ = some (.int .i64 n) := cell_at mj 1
                    have c2 : wr.cell? ⟨P, 2, none⟩ = some (.int .i64 d) := cell_at mj 2
                    have hlen : (Math.copyN l d j).length = N + j := by rw [Math.copyN_length, HLN.out]
                    have hBj : w.heap.size ≤ wr.heap.size := Lj.size
                    have hPj := lt_of mj
                    by_cases hjn : j < n
                    · have hne := own_ne hownj mj (by decide)
                      obtain ⟨g, cp, rfl, hg1, hg2, u, hu, hc⟩ := own_at hownj (N + j - d) (by omega)
                      rw [bcells_at _ _ (by omega)] at hu
                      simp only [Option.some.injEq] at hu
                      subst hu
                      have hgd : (Math.copyN l d j)[N + j - d]'(by omega) = (Math.copyN l d j).getD ((Math.copyN l d j).length - d) 0 := by
                        rw [List.getD_eq_getElem?_getD, show (Math.copyN l d j).length - d = N + j - d by omega, List.getElem?_eq_getElem (by omega)]
                        rfl
                      rw [hgd] at hc
                      have HSn : Hid (bcells (Math.copyN l d j) ++ [.int .u8 (((Math.copyN l d j).getD ((Math.copyN l d j).length - d) 0).toNat : Int)] = bcells (Math.copyN l d (j + 1))) := bcells_snoc (Math.copyN l d j) ((Math.copyN l d j).getD ((Math.copyN l d j).length - d) 0)
                      clear hgd
                      generalize (Math.copyN l d j).getD ((Math.copyN l d j).length - d) 0 = y at *
                      have hy := y.toNat_lt
                      have e1 : ((N : Int) + j - d) = ((N + j - d : Nat) : Int) := by omega
                      generalize N + j - d = q at *
                      go_wp2_with (at_builtin; refine wpList_append_own _ rfl _ _ 22 rfl w.heap.size 5 i0 (.int .u8 0) 1 1 Try.underlying22 hi hz0 hz1 hz2 rfl (by decide) _ _ _ rfl (hownj.alloc _) ⟨wr.heap.size, 0, none⟩ 1 1 [.int .u8 y.toNat] rfl rfl ?c1 ?c2 ?c3 ?c4 ?c5 ?_)
                      case c1 => exact cell_one_new _ _ _
                      case c2 => intro u hu; simp at hu; subst hu; rfl
                      case c3 => unfold maxLen; omega
                      case c4 => omega
                      case c5 => simp; omega
                      · intro v' w3 hown3 hgrow _
                        have L3 : Below w.heap.size w w3 := (Lj.alloc hBj _).grown hgrow (by simp; omega) (fun m h => own_ge hownj m h)
                        have m3 : w3.heap[P]? = some (.cells #[.int .i64 0, .int .i64 n, .int .i64 d] 30) := by
                          rw [hgrow.block P (by simp; omega) hne]
                          exact heap_old mj _
                        rw [HSn.out] at hown3
                        clear hownj hgrow hc mj c1 c2 hne
                        go_wp2
                        go_roundw
                        case rel => exact ⟨j + 1, by omega, by go_num, hown3, L3, m3⟩
                        case measure => simp [intOf]; omega
                    · obtain rfl : j = n := by omega
                      clear hown hown1 L1 m1
                      go_wp2
                      go_roundw
                      case rel => exact ⟨k + 1, Math.copyN l d j, by omega, by omega, by go_num, by rw [hlen]; exact hownj, Lj, HN⟩
                      case measure => simp [intOf]; omega
                · have HN : Hid (_) := NO.out (Math.step_none l p ⟨(hnb _).out, fun _ _ => by (rw [HE.out.1, HLN.out]; omega)⟩)
                  go_wp2_with (first | (go_at_call 21; (with_reducible refine (in_is' _ 3 258 true HI.out _).mono ?_); rintro e w' ⟨rfl, rfl⟩) | (go_at_call 21; (with_reducible refine (in_is' _ 1 1024 true HJ.out _).mono ?_); rintro e w' ⟨rfl, rfl⟩))
                  go_ret2
                  rw [HN.out.1, HN.out.2]
                  exact ⟨rfl, L1⟩
              · have hx' : (p.x == 0) = false := beq_eq_false_iff_ne.2 hx
                have hx'' : (p.x != 0) = true := bne_iff_ne.2 hx
                have HN : Hid (_) := NO.out (Math.step_none l p ⟨(hnb _).out, fun h => by (have := of_decide_eq_true h; omega)⟩)
                clear hx
                go_wp2_with (first | (go_at_call 21; (with_reducible refine (in_is' _ 3 258 true HI.out _).mono ?_); rintro e w' ⟨rfl, rfl⟩) | (go_at_call 21; (with_reducible refine (in_is' _ 1 1024 true HJ.out _).mono ?_); rintro e w' ⟨rfl, rfl⟩))
                go_ret2
                rw [HN.out.1, HN.out.2]
                exact ⟨rfl, L1⟩
            · have HN : Hid (_) := NO.out (Math.step_none l p ⟨(hnb _).out, fun _ h => by (rw [HE.out.2, HLN.out] at h; omega)⟩)
              go_wp2_with (first | (go_at_call 21; (with_reducible refine (in_is' _ 3 258 true HI.out _).mono ?_); rintro e w' ⟨rfl, rfl⟩) | (go_at_call 21; (with_reducible refine (in_is' _ 1 1024 true HJ.out _).mono ?_); rintro e w' ⟨rfl, rfl⟩))
              go_ret2
              rw [HN.out.1, HN.out.2]
              exact ⟨rfl, L1⟩
          · have HJ : Hid (_) := decide_eq_false hd
            have HN : Hid (_) := NO.out (Math.step_none l p ⟨(hnb _).out, fun h => by (have := of_decide_eq_true h; omega)⟩)
            clear hn hd hz0' HH
            go_wp2_with (first | (go_at_call 21; (with_reducible refine (in_is' _ 3 258 true HI.out _).mono ?_); rintro e w' ⟨rfl, rfl⟩) | (go_at_call 21; (with_reducible refine (in_is' _ 1 1024 false HJ.out _).mono ?_); rintro e w' ⟨rfl, rfl⟩))
            go_ret2
            rw [HN.out.1, HN.out.2]
            exact ⟨rfl, L1⟩
        · have HI : Hid (_) := decide_eq_false hn
          have HN : Hid (_) := NO.out (Math.step_none l p ⟨(hnb _).out, fun h => by (have := of_decide_eq_true h; omega)⟩)
          clear hn hz0'
          rcases HH.out with hn0 | ⟨hn0, hd0⟩
          · clear HH
            go_wp2_with (go_at_call 21; (with_reducible refine (in_is' _ 3 258 false HI.out _).mono ?_); rintro e w' ⟨rfl, rfl⟩)
            go_ret2
            rw [HN.out.1, HN.out.2]
            exact ⟨rfl, L1⟩
          · clear HH
            go_wp2_with (go_at_call 21; (with_reducible refine (in_is' _ 3 258 false HI.out _).mono ?_); rintro e w' ⟨rfl, rfl⟩)
            go_ret2
            rw [HN.out.1, HN.out.2]
            exact ⟨rfl, L1⟩
    · obtain rfl : k = ps.length := by omega
      have HN : Hid (_) := Math.whole_yes ps l H.out
      have hconv := conv_own hown
      go_wp2
      go_ret2
      rw [HN.out.1, HN.out.2]
      exact ⟨rfl, LR⟩

end Pk
end Go.Proofs.Ytllmmelnkkmfoab

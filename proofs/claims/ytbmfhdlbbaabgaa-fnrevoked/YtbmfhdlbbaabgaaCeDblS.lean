/- Doubles of the model. -/
import Derived.Test.YtbmfhdlbbaabgaaCeSorted
import Derived.Test.YtbmfhdlbbaabgaaCeDbl
namespace Go.Proofs.Ytbmfhdlbbaabgaa
namespace Hn
open Go.ChangeShapes Go.WideShapes Go.ChangeAt Go.RowKit Go.Joins
open Pk (new_below join_below cell_at heap_new frozen_at lt_of kept heap_old Drawn info_of Room own_form own_below)
set_option linter.unusedSimpArgs false
set_option linter.unusedVariables false

set_option maxRecDepth 100000 in
set_option maxHeartbeats 8000000 in
theorem specDbl_val (x0 : Pl) (o : Ctr) (w : World) (hz2 : o.sl.length ≤ 1048576) (I : In w x0 o) :
    Calls Try.prog 23 #[ceV x0 o] w fun e w' => ∃ v, e = .returned v ∧ w'.ownsRow w.heap.size 3 1 v (dblL o.sl).length (icells (dblL o.sl)) ∧ Below w.heap.size w w' := by
  obtain ⟨xa, xc, xb, xd⟩ := x0
  have N0 := new_below w (ceB ⟨xa, xc, xb, xd⟩ o 27)
  have m0 := heap_new w (ceB ⟨xa, xc, xb, xd⟩ o 27)
  have IS : Controls _ xb o.sl := I.seen.on N0
  clear I
  go_enter Try.func23, Try.ntmps23
  go_wp2
  obtain ⟨W0, hW0⟩ : ∃ W0, w.alloc (ceB ⟨xa, xc, xb, xd⟩ o 27) = W0 := ⟨_, rfl⟩
  rw [hW0] at N0 m0 IS
  have hW1 : w.alloc (.cells #[.int .i64 o.ve, .slice xa o.ol.length xc, .slice xb o.sl.length xd] 27) = W0 := hW0
  have hsz0 : W0.heap.size = w.heap.size + 1 := by rw [← hW1]; exact Array.size_push ..
  rw [hW1, ← hsz0]
  clear hW0 hW1 hsz0
  have N1 := new_below W0 (.cells #[] 3)
  have O0 : Hid (∃ g c, Value.slice (some ⟨W0.heap.size, 0, none⟩) 0 0 = Value.slice (some ⟨g, 0, none⟩) (dblI o.sl 0).length c ∧ (dblI o.sl 0).length ≤ c ∧ (W0.alloc (.cells #[] 3)).ownsRow W0.heap.size 3 1 (.slice (some ⟨g, 0, none⟩) (dblI o.sl 0).length c) (dblI o.sl 0).length (icells (dblI o.sl 0))) := ⟨W0.heap.size, 0, rfl, Nat.le_refl _, nil_row _ _ _⟩
  go_loopw [3, 4] (fun v i wr => ∃ (k : Nat), k ≤ o.sl.length ∧ i = .int .i64 k ∧ Below W0.heap.size W0 wr ∧ ∃ g c, v = .slice (some ⟨g, 0, none⟩) (dblI o.sl k).length c ∧ (dblI o.sl k).length ≤ c ∧ wr.ownsRow W0.heap.size 3 1 (.slice (some ⟨g, 0, none⟩) (dblI o.sl k).length c) (dblI o.sl k).length (icells (dblI o.sl k))) (fun _ i _ => o.sl.length - (intOf i).toNat)
  case atStart => exact ⟨0, by omega, rfl, N1, O0.out⟩
  case round =>
    clear O0 N1
    obtain ⟨i, hin, rfl, LX, g, c, rfl, hgc, OX⟩ := hrel
    have mX := kept LX (lt_of m0) m0
    have cX : wr.cell? ⟨w.heap.size, 2, none⟩ = some (.slice xb o.sl.length xd) := cell_at mX 2
    by_cases hil : i < o.sl.length
    · obtain ⟨b, u, eb, hlt, hc0, hc1, hc2, hc3, hc4, hc5⟩ := (IS.on LX).at i hil
      have HXI : Hid (dblI o.sl (i + 1) = dblK o.sl o.sl[i] i (dblI o.sl i)) := dblI_step hil
      subst eb
      generalize o.sl[i] = x at *
      have NX := new_below wr (.cells #[.int .i64 x.dv, .int .i64 x.no, .int .i64 x.tk, .int .i64 x.tr, .int .i64 x.dy, .int .i64 x.sa] 37)
      have hX := heap_new wr (.cells #[.int .i64 x.dv, .int .i64 x.no, .int .i64 x.tk, .int .i64 x.tr, .int .i64 x.dy, .int .i64 x.sa] 37)
      have OX1 := own_below OX NX (Nat.le_refl _)
      have L1 := join_below LX NX
      have mW := kept NX (lt_of mX) mX
      have HLW0 : Hid (W0.heap.size ≤ wr.heap.size) := LX.size
      clear OX LX mX
      go_wp2
      clear cX hc0 hc1 hc2 hc3 hc4 hc5
      obtain ⟨X, hXe⟩ : ∃ X, wr.heap.size = X := ⟨_, rfl⟩
      rw [hXe] at hX ⊢
      obtain ⟨W1, hW1⟩ : ∃ W1, wr.alloc (.cells #[.int .i64 x.dv, .int .i64 x.no, .int .i64 x.tk, .int .i64 x.tr, .int .i64 x.dy, .int .i64 x.sa] 37) = W1 := ⟨_, rfl⟩
      rw [hW1] at NX hX OX1 L1 mW
      rw [hW1]
      clear hW1 hXe NX
      have HLW1 : Hid (W0.heap.size ≤ W1.heap.size) := L1.size
      have HO0 : Hid (∃ g' c', Value.slice (some ⟨g, 0, none⟩) (dblI o.sl i).length c = Value.slice (some ⟨g', 0, none⟩) (dblK o.sl x 0 (dblI o.sl i)).length c' ∧ (dblK o.sl x 0 (dblI o.sl i)).length ≤ c' ∧ W1.ownsRow W0.heap.size 3 1 (.slice (some ⟨g', 0, none⟩) (dblK o.sl x 0 (dblI o.sl i)).length c') (dblK o.sl x 0 (dblI o.sl i)).length (icells (dblK o.sl x 0 (dblI o.sl i)))) := ⟨g, c, rfl, hgc, OX1⟩
      clear OX1 hgc HLW0
      go_loopw [3, 6] (fun v k wr => ∃ (q : Nat), q ≤ i ∧ k = .int .i64 q ∧ Below W1.heap.size W1 wr ∧ ∃ g c, v = .slice (some ⟨g, 0, none⟩) (dblK o.sl x q (dblI o.sl i)).length c ∧ (dblK o.sl x q (dblI o.sl i)).length ≤ c ∧ wr.ownsRow W0.heap.size 3 1 (.slice (some ⟨g, 0, none⟩) (dblK o.sl x q (dblI o.sl i)).length c) (dblK o.sl x q (dblI o.sl i)).length (icells (dblK o.sl x q (dblI o.sl i)))) (fun _ k _ => i - (intOf k).toNat)
      case atStart => exact ⟨0, by omega, rfl, Below.refl _ _, HO0.out⟩
      case round =>
        clear HO0
        obtain ⟨k, hk, rfl, LY, g, c, rfl, hgc, OY⟩ := hrel
        by_cases hki : k < i
        · have mY := kept LY (lt_of mW) mW
          have hY := kept LY (lt_of hX) hX
          have cY : wr.cell? ⟨w.heap.size, 2, none⟩ = some (.slice (some ⟨b, u, none⟩) o.sl.length xd) := cell_at mY 2
          have hkl : k < o.sl.length := by omega
          obtain ⟨b', u', e', -, hc0, hc1, hc2, hc3, hc4, hc5⟩ := (IS.on (join_below L1 LY)).at k hkl
          simp only [Option.some.injEq, Addr.mk.injEq, and_true] at e'
          obtain ⟨rfl, rfl⟩ := e'
          have HST : Hid (dblK o.sl x (k + 1) (dblI o.sl i) = if dblOk x o.sl[k] = true then addT x.tk (dblK o.sl x k (dblI o.sl i)) else dblK o.sl x k (dblI o.sl i)) := dblK_step hkl _
          generalize o.sl[k] = y at *
          have NY := new_below wr (.cells #[.int .i64 y.dv, .int .i64 y.no, .int .i64 y.tk, .int .i64 y.tr, .int .i64 y.dy, .int .i64 y.sa] 37)
          have LY6 := join_below LY NY
          have hY6 := kept NY (lt_of hY) hY
          have x0 : (wr.alloc (.cells #[.int .i64 y.dv, .int .i64 y.no, .int .i64 y.tk, .int .i64 y.tr, .int .i64 y.dy, .int .i64 y.sa] 37)).cell? ⟨X, 0, none⟩ = some (.int .i64 x.dv) := cell_at hY6 0
          have x2 : (wr.alloc (.cells #[.int .i64 y.dv, .int .i64 y.no, .int .i64 y.tk, .int .i64 y.tr, .int .i64 y.dy, .int .i64 y.sa] 37)).cell? ⟨X, 2, none⟩ = some (.int .i64 x.tk) := cell_at hY6 2
          have x3 : (wr.alloc (.cells #[.int .i64 y.dv, .int .i64 y.no, .int .i64 y.tk, .int .i64 y.tr, .int .i64 y.dy, .int .i64 y.sa] 37)).cell? ⟨X, 3, none⟩ = some (.int .i64 x.tr) := cell_at hY6 3
          have x4 : (wr.alloc (.cells #[.int .i64 y.dv, .int .i64 y.no, .int .i64 y.tk, .int .i64 y.tr, .int .i64 y.dy, .int .i64 y.sa] 37)).cell? ⟨X, 4, none⟩ = some (.int .i64 x.dy) := cell_at hY6 4
          have x5 : (wr.alloc (.cells #[.int .i64 y.dv, .int .i64 y.no, .int .i64 y.tk, .int .i64 y.tr, .int .i64 y.dy, .int .i64 y.sa] 37)).cell? ⟨X, 5, none⟩ = some (.int .i64 x.sa) := cell_at hY6 5
          have OY6 := own_below OY NY (Nat.le_refl _)
          obtain ⟨ga, gc, ge, IY⟩ := own_ints OY6
          simp only [Value.slice.injEq, true_and] at ge
          obtain ⟨rfl, rfl⟩ := ge
          have HLW : Hid (W0.heap.size ≤ (wr.alloc (.cells #[.int .i64 y.dv, .int .i64 y.no, .int .i64 y.tk, .int .i64 y.tr, .int .i64 y.dy, .int .i64 y.sa] 37)).heap.size) := Nat.le_trans HLW1.out LY6.size
          have HRW : Hid (∀ W, Below W1.heap.size W1 W → ∀ R, R = dblK o.sl x k (dblI o.sl i) → ∃ g' c', Value.slice (some ⟨g, 0, none⟩) (dblK o.sl x k (dblI o.sl i)).length c = Value.slice (some ⟨g', 0, none⟩) R.length c' ∧ R.length ≤ c' ∧ (wr.alloc (.cells #[.int .i64 y.dv, .int .i64 y.no, .int .i64 y.tk, .int .i64 y.tr, .int .i64 y.dy, .int .i64 y.sa] 37)).ownsRow W0.heap.size 3 1 (.slice (some ⟨g', 0, none⟩) R.length c') R.length (icells R)) := by
            intro W _ R e
            subst e
            exact ⟨g, c, rfl, hgc, OY6⟩
          clear OY OY6 mY hY hY6 NY LY
          by_cases h0 : 1 ≤ x.tk
          · have d0 : decide (1 ≤ x.tk) = true := decide_eq_true h0
            by_cases h1 : x.tk = y.tk
            · have d1 : (x.tk == y.tk) = true := by simp [h1]
              by_cases h2 : x.tr = y.tr
              · have d2 : (x.tr == y.tr) = true := by simp [h2]
                by_cases h3 : x.dy = y.dy
                · have d3 : (x.dy == y.dy) = true := by simp [h3]
                  by_cases h4 : x.sa = 0
                  · have d4 : (x.sa == 0) = true := by simp [h4]
                    by_cases h5 : y.sa = 0
                    · have d5 : (y.sa == 0) = true := by simp [h5]
                      by_cases hx : x.dv = y.dv
                      · have d6 : (x.dv != y.dv) = false := by simp [hx]
                        have HN : Hid (dblK o.sl x (k + 1) (dblI o.sl i) = dblK o.sl x k (dblI o.sl i)) := by
                          show _ = _
                          rw [HST.out, if_neg (by rw [dbl_iff]; rintro ⟨h1, h2, h3, h4, h5, h6, h7⟩; first | omega | exact h7 hx)]
                        have HO6 : Hid (_) := And.intro LY6 (HRW.out _ LY6 _ HN.out)
                        clear h0 h1 h2 h3 h4 h5 hx HST HRW
                        go_wp2
                        go_roundw
                        case rel => exact ⟨k + 1, by omega, by go_num, HO6.out.1, HO6.out.2⟩
                        case measure => simp [intOf]; omega
                      · have d6 : (x.dv != y.dv) = true := by simp [hx]
                        have HD : Hid (dblOk x y = true) := dbl_iff.2 ⟨h0, h1, h2, h3, h4, h5, hx⟩
                        clear h0 h1 h2 h3 h4 h5 hx
                        have hzd : (dblK o.sl x k (dblI o.sl i)).length ≤ 1048576 := by have := dblK_len o.sl x (dblI o.sl i) k; have := dblI_len o.sl i; omega
                        by_cases hm : x.tk ∈ dblK o.sl x k (dblI o.sl i)
                        · have HN : Hid (dblK o.sl x (k + 1) (dblI o.sl i) = dblK o.sl x k (dblI o.sl i)) := by
                            show _ = _
                            rw [HST.out, if_pos HD.out]
                            exact if_pos hm
                          have HHS := has_val (some ⟨g, 0, none⟩) (dblK o.sl x k (dblI o.sl i)) c x.tk _ hzd IY
                          rw [decide_eq_true hm] at HHS
                          have HO6 : Hid (_) := And.intro LY6 (HRW.out _ LY6 _ HN.out)
                          clear hm HST HRW HD
                          go_wp2_with fail
                          refine HHS.mono ?_
                          rintro e z1 ⟨rfl, rfl⟩
                          go_wp2
                          go_roundw
                          case rel => exact ⟨k + 1, by omega, by go_num, HO6.out.1, HO6.out.2⟩
                          case measure => simp [intOf]; omega
                        · have HN : Hid (dblK o.sl x (k + 1) (dblI o.sl i) = insI x.tk (dblK o.sl x k (dblI o.sl i))) := by
                            show _ = _
                            rw [HST.out, if_pos HD.out]
                            exact if_neg hm
                          have HHS := has_val (some ⟨g, 0, none⟩) (dblK o.sl x k (dblI o.sl i)) c x.tk _ hzd IY
                          rw [decide_eq_false hm] at HHS
                          have HSO := sorted_val g 0 (dblK o.sl x k (dblI o.sl i)) c x.tk _ hzd hgc IY
                          clear hm HST HRW HD
                          go_wp2_with fail
                          refine HHS.mono ?_
                          rintro e z1 ⟨rfl, hz1⟩
                          rw [hz1]
                          clear hz1
                          go_wp2_with fail
                          refine HSO.mono ?_
                          rintro e z2 ⟨g2, c2, rfl, hc2, O7, L7⟩
                          have LY7 := join_below LY6 L7
                          have HO7 : Hid (∃ g c, .slice (some ⟨g2, 0, none⟩) (insI x.tk (dblK o.sl x k (dblI o.sl i))).length c2 = Value.slice (some ⟨g, 0, none⟩) (dblK o.sl x (k + 1) (dblI o.sl i)).length c ∧ (dblK o.sl x (k + 1) (dblI o.sl i)).length ≤ c ∧ z2.ownsRow W0.heap.size 3 1 (.slice (some ⟨g, 0, none⟩) (dblK o.sl x (k + 1) (dblI o.sl i)).length c) (dblK o.sl x (k + 1) (dblI o.sl i)).length (icells (dblK o.sl x (k + 1) (dblI o.sl i)))) := by
                            rw [HN.out]
                            exact ⟨g2, c2, rfl, hc2, own_lower O7 HLW.out⟩
                          clear O7 L7 HN
                          go_wp2
                          go_roundw
                          case rel => exact ⟨k + 1, by omega, by go_num, LY7, HO7.out⟩
                          case measure => simp [intOf]; omega
                    · have d5 : (y.sa == 0) = false := by simp [h5]
                      have HN : Hid (dblK o.sl x (k + 1) (dblI o.sl i) = dblK o.sl x k (dblI o.sl i)) := by
                        show _ = _
                        rw [HST.out, if_neg (by rw [dbl_iff]; rintro ⟨h1, h2, h3, h4, h5, h6, h7⟩; omega)]
                      have HO6 : Hid (_) := And.intro LY6 (HRW.out _ LY6 _ HN.out)
                      clear h0 h1 h2 h3 h4 h5 HST HRW
                      go_wp2
                      go_roundw
                      case rel => exact ⟨k + 1, by omega, by go_num, HO6.out.1, HO6.out.2⟩
                      case measure => simp [intOf]; omega
                  · have d4 : (x.sa == 0) = false := by simp [h4]
                    have HN : Hid (dblK o.sl x (k + 1) (dblI o.sl i) = dblK o.sl x k (dblI o.sl i)) := by
                      show _ = _
                      rw [HST.out, if_neg (by rw [dbl_iff]; rintro ⟨h1, h2, h3, h4, h5, h6, h7⟩; omega)]
                    have HO6 : Hid (_) := And.intro LY6 (HRW.out _ LY6 _ HN.out)
                    clear h0 h1 h2 h3 h4 HST HRW
                    go_wp2
                    go_roundw
                    case rel => exact ⟨k + 1, by omega, by go_num, HO6.out.1, HO6.out.2⟩
                    case measure => simp [intOf]; omega
                · have d3 : (x.dy == y.dy) = false := by simp [h3]
                  have HN : Hid (dblK o.sl x (k + 1) (dblI o.sl i) = dblK o.sl x k (dblI o.sl i)) := by
                    show _ = _
                    rw [HST.out, if_neg (by rw [dbl_iff]; rintro ⟨h1, h2, h3, h4, h5, h6, h7⟩; omega)]
                  have HO6 : Hid (_) := And.intro LY6 (HRW.out _ LY6 _ HN.out)
                  clear h0 h1 h2 h3 HST HRW
                  go_wp2
                  go_roundw
                  case rel => exact ⟨k + 1, by omega, by go_num, HO6.out.1, HO6.out.2⟩
                  case measure => simp [intOf]; omega
              · have d2 : (x.tr == y.tr) = false := by simp [h2]
                have HN : Hid (dblK o.sl x (k + 1) (dblI o.sl i) = dblK o.sl x k (dblI o.sl i)) := by
                  show _ = _
                  rw [HST.out, if_neg (by rw [dbl_iff]; rintro ⟨h1, h2, h3, h4, h5, h6, h7⟩; omega)]
                have HO6 : Hid (_) := And.intro LY6 (HRW.out _ LY6 _ HN.out)
                clear h0 h1 h2 HST HRW
                go_wp2
                go_roundw
                case rel => exact ⟨k + 1, by omega, by go_num, HO6.out.1, HO6.out.2⟩
                case measure => simp [intOf]; omega
            · have d1 : (x.tk == y.tk) = false := by simp [h1]
              have HN : Hid (dblK o.sl x (k + 1) (dblI o.sl i) = dblK o.sl x k (dblI o.sl i)) := by
                show _ = _
                rw [HST.out, if_neg (by rw [dbl_iff]; rintro ⟨h1, h2, h3, h4, h5, h6, h7⟩; omega)]
              have HO6 : Hid (_) := And.intro LY6 (HRW.out _ LY6 _ HN.out)
              clear h0 h1 HST HRW
              go_wp2
              go_roundw
              case rel => exact ⟨k + 1, by omega, by go_num, HO6.out.1, HO6.out.2⟩
              case measure => simp [intOf]; omega
          · have d0 : decide (1 ≤ x.tk) = false := decide_eq_false h0
            have HN : Hid (dblK o.sl x (k + 1) (dblI o.sl i) = dblK o.sl x k (dblI o.sl i)) := by
              show _ = _
              rw [HST.out, if_neg (by rw [dbl_iff]; rintro ⟨h1, h2, h3, h4, h5, h6, h7⟩; omega)]
            have HO6 : Hid (_) := And.intro LY6 (HRW.out _ LY6 _ HN.out)
            clear h0 HST HRW
            go_wp2
            go_roundw
            case rel => exact ⟨k + 1, by omega, by go_num, HO6.out.1, HO6.out.2⟩
            case measure => simp [intOf]; omega
        · obtain rfl : k = i := by omega
          have L2 := join_below L1 LY
          have HO9 : Hid (∃ g' c', Value.slice (some ⟨g, 0, none⟩) (dblK o.sl x k (dblI o.sl k)).length c = Value.slice (some ⟨g', 0, none⟩) (dblI o.sl (k + 1)).length c' ∧ (dblI o.sl (k + 1)).length ≤ c' ∧ wr.ownsRow W0.heap.size 3 1 (.slice (some ⟨g', 0, none⟩) (dblI o.sl (k + 1)).length c') (dblI o.sl (k + 1)).length (icells (dblI o.sl (k + 1)))) := by
            rw [HXI.out]
            exact ⟨g, c, rfl, hgc, OY⟩
          clear OY hgc
          go_wp2
          go_roundw
          case rel => exact ⟨k + 1, by omega, by go_num, L2, HO9.out⟩
          case measure => simp [intOf]; omega
    · obtain rfl : i = o.sl.length := by omega
      have O2 : Hid (wr.ownsRow w.heap.size 3 1 (.slice (some ⟨g, 0, none⟩) (dblI o.sl o.sl.length).length c) (dblL o.sl).length (icells (dblL o.sl))) := own_lower OX N0.size
      have LL := N0.trans (LX.mono N0.size)
      clear OX LX
      go_wp2
      go_ret
      exact ⟨_, rfl, O2.out, LL⟩

end Hn
end Go.Proofs.Ytbmfhdlbbaabgaa

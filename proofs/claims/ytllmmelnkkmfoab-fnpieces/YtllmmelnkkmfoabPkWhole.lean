/- Contracts of Whole, of the program and of its model. -/
import Derived.Test.YtllmmelnkkmfoabPkRow
import Derived.Test.YtllmmelnkkmfoabMathWhole
namespace Go.Proofs.Ytllmmelnkkmfoab
namespace Pk
open Go.ChangeShapes Go.WideShapes Go.ChangeAt Go.RowKit
open Math (Pc)
set_option linter.unusedSimpArgs false
set_option linter.unusedVariables false

/-- A piece as a value. -/
abbrev pcV (x n d : Int) : Value := .agg #[.int .i64 x, .int .i64 n, .int .i64 d]

/-- A slice of pieces. -/
def Pcs (w : World) (a : Option Addr) (ps : List Pc) : Prop :=
  ps = [] ∨ ∃ b o, a = some ⟨b, o, none⟩ ∧ b < w.heap.size ∧ ∀ i (h : i < ps.length), w.cell? ⟨b, o + i * 3, none⟩ = some (.int .i64 ps[i].x) ∧ w.cell? ⟨b, o + i * 3 + 1, none⟩ = some (.int .i64 ps[i].n) ∧ w.cell? ⟨b, o + i * 3 + 2, none⟩ = some (.int .i64 ps[i].d)

theorem Pcs.on {w w1 : World} {a : Option Addr} {ps : List Pc} (h : Pcs w a ps) (L : Below w.heap.size w w1) : Pcs w1 a ps := by
  rcases h with h | ⟨b, o, ha, hb, hc⟩
  · exact Or.inl h
  · exact Or.inr ⟨b, o, ha, Nat.lt_of_lt_of_le hb L.size, fun i hi => by rw [L.cell (p := ⟨b, o + i * 3, none⟩) hb, L.cell (p := ⟨b, o + i * 3 + 1, none⟩) hb, L.cell (p := ⟨b, o + i * 3 + 2, none⟩) hb]; exact hc i hi⟩

theorem Pcs.at {w : World} {a : Option Addr} {ps : List Pc} (h : Pcs w a ps) (k : Nat) (hk : k < ps.length) : ∃ b o, a = some ⟨b, o, none⟩ ∧ b < w.heap.size ∧ w.cell? ⟨b, o + k * 3, none⟩ = some (.int .i64 ps[k].x) ∧ w.cell? ⟨b, o + k * 3 + 1, none⟩ = some (.int .i64 ps[k].n) ∧ w.cell? ⟨b, o + k * 3 + 2, none⟩ = some (.int .i64 ps[k].d) := by
  rcases h with h | ⟨b, o, ha, hb, hc⟩
  · subst h; simp at hk
  · exact ⟨b, o, ha, hb, hc k hk⟩

theorem isByte_val (p : Pc) (w : World) :
    Calls Try.prog 15 #[pcV p.x p.n p.d] w fun e w' => e = .returned (.bool p.isB) ∧ Below w.heap.size w w' := by
  obtain ⟨x, n, d⟩ := p
  show Calls Try.prog 15 #[pcV x n d] w fun e w' => e = .returned (.bool (decide (n = 0 ∧ d = 0 ∧ 0 ≤ x ∧ x ≤ 255))) ∧ Below w.heap.size w w'
  have hc : n ≠ 0 ∨ (n = 0 ∧ d ≠ 0) ∨ (n = 0 ∧ d = 0 ∧ x < 0) ∨ (n = 0 ∧ d = 0 ∧ 0 ≤ x ∧ 255 < x) ∨ (n = 0 ∧ d = 0 ∧ 0 ≤ x ∧ x ≤ 255) := by omega
  rcases hc with h | ⟨rfl, h⟩ | ⟨rfl, rfl, h⟩ | ⟨rfl, rfl, h, h'⟩ | ⟨rfl, rfl, h, h'⟩
  · have e1 : (n == 0) = false := beq_eq_false_iff_ne.2 h
    go_enter Try.func15, Try.ntmps15
    go_wp2
    go_ret
    exact ⟨by simp [h], new_below _ _⟩
  · have e1 : (d == 0) = false := beq_eq_false_iff_ne.2 h
    go_enter Try.func15, Try.ntmps15
    go_wp2
    go_ret
    exact ⟨by simp [h], new_below _ _⟩
  all_goals
    go_enter Try.func15, Try.ntmps15
    go_wp2
    go_ret
    exact ⟨by simp; try omega, new_below _ _⟩

theorem isCopy_val (p : Pc) (w : World) :
    Calls Try.prog 16 #[pcV p.x p.n p.d] w fun e w' => e = .returned (.bool p.isC) ∧ Below w.heap.size w w' := by
  obtain ⟨x, n, d⟩ := p
  show Calls Try.prog 16 #[pcV x n d] w fun e w' => e = .returned (.bool (decide (x = 0 ∧ 3 ≤ n ∧ n ≤ 258 ∧ 1 ≤ d ∧ d ≤ 1024))) ∧ Below w.heap.size w w'
  have hc : x ≠ 0 ∨ (x = 0 ∧ n < 3) ∨ (x = 0 ∧ 3 ≤ n ∧ 258 < n) ∨ (x = 0 ∧ 3 ≤ n ∧ n ≤ 258 ∧ d < 1) ∨ (x = 0 ∧ 3 ≤ n ∧ n ≤ 258 ∧ 1 ≤ d ∧ 1024 < d) ∨ (x = 0 ∧ 3 ≤ n ∧ n ≤ 258 ∧ 1 ≤ d ∧ d ≤ 1024) := by omega
  rcases hc with h | ⟨rfl, h⟩ | ⟨rfl, h1, h2⟩ | ⟨rfl, h1, h2, h3⟩ | ⟨rfl, h1, h2, h3, h4⟩ | ⟨rfl, h1, h2, h3, h4⟩
  · have e1 : (x == 0) = false := beq_eq_false_iff_ne.2 h
    go_enter Try.func16, Try.ntmps16
    go_wp2
    go_ret
    exact ⟨by simp [h], new_below _ _⟩
  all_goals
    first | rw [decide_eq_true (show (0 : Int) = 0 ∧ 3 ≤ n ∧ n ≤ 258 ∧ 1 ≤ d ∧ d ≤ 1024 by omega)] | rw [decide_eq_false (show ¬ ((0 : Int) = 0 ∧ 3 ≤ n ∧ n ≤ 258 ∧ 1 ≤ d ∧ d ≤ 1024) by omega)]
    go_enter Try.func16, Try.ntmps16
    go_wp2
    go_ret
    exact ⟨by first | rfl | (simp; omega), new_below _ _⟩

theorem withCopy_val (B : Nat) (v : Value) (l : List UInt8) (n d : Nat) (w : World) (hB : B ≤ w.heap.size) (hown : w.ownsRow B 5 1 v l.length (bcells l)) (hd1 : 1 ≤ d) (hd2 : d ≤ l.length) (hl : l.length ≤ 10000) (hn : n ≤ 1000) :
    Calls Try.prog 17 #[v, .int .i64 n, .int .i64 d] w fun e w' => ∃ v', e = .returned v' ∧ w'.ownsRow B 5 1 v' (l.length + n) (bcells (Math.copyN l d n)) ∧ Below B w w' := by
  obtain ⟨i0, hi, hz0, hz1, hz2⟩ := info_of info_u8
  go_enter Try.func17, Try.ntmps17
  go_wp2
  go_loopw [0, 8] (fun v i wr => ∃ (k : Nat), k ≤ n ∧ i = .int .i64 k ∧ wr.ownsRow B 5 1 v (l.length + k) (bcells (Math.copyN l d k)) ∧ Below B w wr) (fun _ i _ => n - (intOf i).toNat)
  case atStart => exact ⟨0, by omega, rfl, hown, Below.refl _ _⟩
  case round =>
    obtain ⟨k, hk, rfl, hown, L⟩ := hrel
    by_cases hkn : k < n
    · have hlen : (Math.copyN l d k).length = l.length + k := Math.copyN_length l d k
      obtain ⟨g, cap, rfl, hg1, hg2, u, hu, hc⟩ := own_at hown (l.length + k - d) (by omega)
      rw [bcells_at _ _ (by omega)] at hu
      simp only [Option.some.injEq] at hu
      subst hu
      have hgd : (Math.copyN l d k)[l.length + k - d]'(by omega) = (Math.copyN l d k).getD ((Math.copyN l d k).length - d) 0 := by
        rw [List.getD_eq_getElem?_getD, show (Math.copyN l d k).length - d = l.length + k - d by omega, List.getElem?_eq_getElem (by omega)]
        rfl
      rw [hgd] at hc
      have HS : Hid (bcells (Math.copyN l d k) ++ [.int .u8 (((Math.copyN l d k).getD ((Math.copyN l d k).length - d) 0).toNat : Int)] = bcells (Math.copyN l d (k + 1))) := bcells_snoc (Math.copyN l d k) ((Math.copyN l d k).getD ((Math.copyN l d k).length - d) 0)
      clear hgd
      generalize (Math.copyN l d k).getD ((Math.copyN l d k).length - d) 0 = b at *
      have hb := b.toNat_lt
      have hBr : B ≤ wr.heap.size := Nat.le_trans hB L.size
      have e1 : ((l.length : Int) + k - d) = ((l.length + k - d : Nat) : Int) := by omega
      generalize l.length + k - d = j at *
      go_wp2_with (at_builtin; refine wpList_append_own _ rfl _ _ 22 rfl B 5 i0 (.int .u8 0) 1 1 Try.underlying22 hi hz0 hz1 hz2 rfl (by decide) _ _ _ rfl (hown.alloc _) ⟨wr.heap.size, 0, none⟩ 1 1 [.int .u8 b.toNat] rfl rfl ?c1 ?c2 ?c3 ?c4 ?c5 ?_)
      case c1 => exact cell_one_new _ _ _
      case c2 => intro u hu; simp at hu; subst hu; rfl
      case c3 => unfold maxLen; omega
      case c4 => omega
      case c5 => simp; omega
      · intro v' w3 hown3 hgrow _
        have L3 : Below B w w3 := (L.alloc hBr _).grown hgrow (by simp; omega) (fun m h => own_ge hown m h)
        rw [HS.out] at hown3
        clear hown hgrow hc
        go_wp2
        go_roundw
        case rel => exact ⟨k + 1, by omega, by go_num, hown3, L3⟩
        case measure => simp [intOf]; omega
    · obtain rfl : k = n := by omega
      go_wp2
      go_ret
      exact ⟨_, rfl, hown, L⟩

theorem u8_of (x : Int) (h0 : 0 ≤ x) (h1 : x ≤ 255) : ((UInt8.ofNat x.toNat).toNat : Int) = x := by
  rw [UInt8.toNat_ofNat']
  omega

/-- A text and whether it is one, as a result. -/
abbrev t2 (s : ByteArray) (b : Bool) : Value := .tuple #[.string s, .bool b]

set_option maxHeartbeats 2000000 in
theorem implWhole_val (a : Option Addr) (ps : List Pc) (cap : Nat) (w : World) (hz : ps.length ≤ 1048576) (I : Pcs w a ps) :
    Calls Try.prog 7 #[.slice a ps.length cap] w fun e w' => e = .returned (t2 (Math.wholeS ps) (Math.wholeB ps)) ∧ Below w.heap.size w w' := by
  obtain ⟨i0, hi, hz0, hz1, hz2⟩ := info_of info_u8
  go_enter Try.func7, Try.ntmps7
  go_wp2
  go_loopw [4, 10] (fun v i wr => ∃ (k : Nat) (l : List UInt8), k ≤ ps.length ∧ l.length ≤ 3000 ∧ i = .int .i64 k ∧ wr.ownsRow w.heap.size 5 1 v l.length (bcells l) ∧ Below w.heap.size w wr ∧ Hid (Math.wholeAt ps k = some l)) (fun _ i _ => ps.length - (intOf i).toNat)
  case atStart => exact ⟨0, [], by omega, by simp, rfl, ⟨rfl, Or.inr ⟨w.heap.size, 0, #[], rfl, Nat.le_refl _, heap_new w _, by simp, by unfold maxLen; omega, rfl, rfl⟩⟩, new_below _ _, rfl⟩
  case round =>
    obtain ⟨k, l, hk, hl, rfl, hown, LR, H⟩ := hrel
    obtain ⟨va, vc, rfl, -⟩ := own_form hown
    by_cases hkn : k < ps.length
    · obtain ⟨b, o, rfl, hlt, hc0, hc1, hc2⟩ := (I.on LR).at k hkn
      have HS : Hid (Math.wholeAt ps (k + 1) = Math.step l ps[k]) := by
        show _ = _
        rw [Math.wholeAt_succ ps k l H.out, List.getD_eq_getElem?_getD, List.getElem?_eq_getElem hkn]
        rfl
      clear H
      generalize ps[k] = p at *
      have m1 := heap_new wr (.cells #[.int .i64 p.x, .int .i64 p.n, .int .i64 p.d] 30)
      have L1 : Below w.heap.size w (wr.alloc (.cells #[.int .i64 p.x, .int .i64 p.n, .int .i64 p.d] 30)) := LR.alloc LR.size _
      have hown1 := hown.alloc (.cells #[.int .i64 p.x, .int .i64 p.n, .int .i64 p.d] 30)
      go_wp2_with fail
      refine (isByte_val p _).mono ?_
      rintro e w2 ⟨rfl, L2⟩
      have m2 := kept L2 (lt_of m1) m1
      have hown2 := own_below hown1 L2 (Nat.le_refl _)
      have L3 := L1.trans (L2.mono L1.size)
      clear hc0 hc1 hc2 m1 L1 hown1 hown L2 LR
      have c0 : w2.cell? ⟨wr.heap.size, 0, none⟩ = some (.int .i64 p.x) := cell_at m2 0
      have c1 : w2.cell? ⟨wr.heap.size, 1, none⟩ = some (.int .i64 p.n) := cell_at m2 1
      have c2 : w2.cell? ⟨wr.heap.size, 2, none⟩ = some (.int .i64 p.d) := cell_at m2 2
      cases hB : p.isB
      · have HB : Hid (p.isB = false) := hB
        clear hB
        go_wp2_with fail
        refine (isCopy_val p _).mono ?_
        rintro e w4 ⟨rfl, L4⟩
        have m4 := kept L4 (lt_of m2) m2
        have hown4 := own_below hown2 L4 (Nat.le_refl _)
        have L5 := L3.trans (L4.mono L3.size)
        clear c0 c1 c2 hown2 L3 L4 m2
        have c0 : w4.cell? ⟨wr.heap.size, 0, none⟩ = some (.int .i64 p.x) := cell_at m4 0
        have c1 : w4.cell? ⟨wr.heap.size, 1, none⟩ = some (.int .i64 p.n) := cell_at m4 1
        have c2 : w4.cell? ⟨wr.heap.size, 2, none⟩ = some (.int .i64 p.d) := cell_at m4 2
        clear m4
        cases hC : p.isC
        · have HN : Hid (Math.wholeS ps = ⟨#[]⟩ ∧ Math.wholeB ps = false) := Math.whole_no ps (k + 1) (by omega) (by rw [HS.out]; exact Math.step_none l p ⟨fun h => by (rw [HB.out] at h; cases h), fun h => by (rw [hC] at h; cases h)⟩)
          clear hC
          go_wp2
          go_ret2
          rw [HN.out.1, HN.out.2]
          exact ⟨rfl, L5⟩
        · have hp := of_decide_eq_true hC
          have HC : Hid (p.isC = true) := hC
          clear hC
          obtain ⟨n, hn⟩ := Int.eq_ofNat_of_zero_le (show 0 ≤ p.n by omega)
          obtain ⟨d, hd⟩ := Int.eq_ofNat_of_zero_le (show 0 ≤ p.d by omega)
          rw [hn] at c1
          rw [hd] at c2
          have hp1 : 3 ≤ n ∧ n ≤ 258 ∧ 1 ≤ d ∧ d ≤ 1024 := by omega
          have HE : Hid (p.n = n ∧ p.d = d) := ⟨hn, hd⟩
          clear hp hn hd
          by_cases hdl : d ≤ l.length
          · have hBw : w.heap.size ≤ w4.heap.size := L5.size
            go_wp2_with fail
            refine (withCopy_val w.heap.size _ l n d _ hBw hown4 (by omega) hdl (by omega) (by omega)).mono ?_
            rintro e w6 ⟨v', rfl, hown6, L6⟩
            have L7 := L5.trans L6
            have hlen := Math.copyN_length l d n
            obtain ⟨va', vc', rfl, -⟩ := own_form hown6
            clear hown4 L5 L6 c0 c1 c2
            by_cases h3 : l.length + n ≤ 3000
            · have HN : Hid (Math.wholeAt ps (k + 1) = some (Math.copyN l d n)) := by
                show _ = _
                rw [HS.out, Math.step_copy l p HB.out HC.out (by rw [HE.out.2]; omega) (by rw [HE.out.1]; omega), HE.out.1, HE.out.2]
                rfl
              go_wp2
              go_roundw
              case rel => exact ⟨k + 1, Math.copyN l d n, by omega, by omega, by go_num, by rw [hlen]; exact hown6, L7, HN⟩
              case measure => simp [intOf]; omega
            · have HN : Hid (Math.wholeS ps = ⟨#[]⟩ ∧ Math.wholeB ps = false) := Math.whole_no ps (k + 1) (by omega) (by rw [HS.out]; exact Math.step_none l p ⟨fun h => by (rw [HB.out] at h; cases h), fun _ _ => by (rw [HE.out.1]; omega)⟩)
              go_wp2
              go_ret2
              rw [HN.out.1, HN.out.2]
              exact ⟨rfl, L7⟩
          · have HN : Hid (Math.wholeS ps = ⟨#[]⟩ ∧ Math.wholeB ps = false) := Math.whole_no ps (k + 1) (by omega) (by rw [HS.out]; exact Math.step_none l p ⟨fun h => by (rw [HB.out] at h; cases h), fun _ h => by (rw [HE.out.2] at h; omega)⟩)
            go_wp2
            go_ret2
            rw [HN.out.1, HN.out.2]
            exact ⟨rfl, L5⟩
      · have hp := of_decide_eq_true hB
        have HB : Hid (p.isB = true) := hB
        clear hB
        have HU : Hid (_) := u8_of p.x hp.2.2.1 hp.2.2.2
        have hx0 := hp.2.2.1
        have hx1 := hp.2.2.2
        clear hp
        generalize hpx : p.x = x at *
        have HX : Hid (p.x = x) := hpx
        clear hpx
        have hBr : w.heap.size ≤ w2.heap.size := L3.size
        go_wp2_with (at_builtin; refine wpList_append_own _ rfl _ _ 22 rfl w.heap.size 5 i0 (.int .u8 0) 1 1 Try.underlying22 hi hz0 hz1 hz2 rfl (by decide) _ _ _ rfl (hown2.alloc _) ⟨w2.heap.size, 0, none⟩ 1 1 [.int .u8 x] rfl rfl ?c1 ?c2 ?c3 ?c4 ?c5 ?_)
        case c1 => exact cell_one_new _ _ _
        case c2 => intro u hu; simp at hu; subst hu; rfl
        case c3 => unfold maxLen; omega
        case c4 => omega
        case c5 => simp; omega
        · intro v' w3 hown3 hgrow _
          have L4 : Below w.heap.size w w3 := (L3.alloc hBr _).grown hgrow (by simp; omega) (fun m h => own_ge hown2 m h)
          have hs := bcells_snoc l (UInt8.ofNat x.toNat)
          rw [HU.out] at hs
          rw [hs] at hown3
          obtain ⟨va', vc', rfl, -⟩ := own_form hown3
          clear hs hown2 hgrow c0 c1 c2 m2 L3
          generalize hm : l.length + 1 = m at *
          have HM : Hid (l.length + 1 = m) := hm
          clear hm
          by_cases h3 : m ≤ 3000
          · have HN : Hid (Math.wholeAt ps (k + 1) = some (l ++ [UInt8.ofNat x.toNat])) := by
              show _ = _
              rw [HS.out, Math.step_byte l p HB.out (by have := HM.out; omega), HX.out]
            have HL : Hid ((l ++ [UInt8.ofNat x.toNat]).length = m) := by show _ = _; rw [List.length_append]; exact HM.out
            go_wp2
            go_roundw
            case rel => exact ⟨k + 1, l ++ [UInt8.ofNat x.toNat], by omega, by rw [HL.out]; exact h3, by go_num, by rw [HL.out]; exact hown3, L4, HN⟩
            case measure => simp [intOf]; omega
          · have HN : Hid (Math.wholeS ps = ⟨#[]⟩ ∧ Math.wholeB ps = false) := Math.whole_no ps (k + 1) (by omega) (by rw [HS.out]; exact Math.step_none l p ⟨fun _ => by (have := HM.out; omega), fun h => by (rw [Math.isB_not_isC p HB.out] at h; cases h)⟩)
            go_wp2
            go_ret2
            rw [HN.out.1, HN.out.2]
            exact ⟨rfl, L4⟩
    · obtain rfl : k = ps.length := by omega
      have HN : Hid (_) := Math.whole_yes ps l H.out
      have hconv := conv_own hown
      go_wp2
      go_ret2
      rw [HN.out.1, HN.out.2]
      exact ⟨rfl, LR⟩

end Pk
end Go.Proofs.Ytllmmelnkkmfoab

/- For every code the law of ranges answers true: the program's LenCode, BackCode and FixedCode answer as their models at what is drawn, each code's bits tell its numbers in full, and one length's code follows another's. The program's table of runs is as its text lays it (the card ties it; over a pruned copy of the project). -/
import Derived.Test.YtaocindfopipnabDoorErrs
import Derived.Test.YtaocindfopipnabDoorPkRuns
import Derived.ShutString
import Derived.Lib.SmallJoins
import Derived.Test.YtaocindfopipnabDoorCards
import Derived.Test.YtaocindfopipnabDoorTie
import Derived.Test.YtaocindfopipnabDoorCurPack
import Derived.Test.YtaocindfopipnabDoorPkRange
namespace Go.Proofs.YtaocindfopipnabDoor.fnRanges
open Go.ChangeShapes Go.WideShapes Go.ChangeAt Go.RowKit Go.Joins
open Go.ChangeMaps (open_string shut_string)
set_option linter.unusedVariables false

def IsRow (k : IntKind) (w : World) (a : Option Addr) (len cap : Nat) (zs : List Int) : Prop :=
  (a = none ∧ len = 0 ∧ cap = 0 ∧ zs = []) ∨
  ∃ x, a = some x ∧ len ≤ cap ∧ cap ≤ maxLen ∧ zs.length = cap ∧ (∀ i, i < zs.length → w.cell? (x.add i) = some (.int k (zs.getD i 0))) ∧ ∀ n ∈ zs, (Lit.int k n).wf = true

theorem len_cases (n : Int) : (Pk.lenC n = -1 ∧ Pk.lenB n = 0) ∨ (257 ≤ Pk.lenC n ∧ Pk.lenC n ≤ 285 ∧ ∃ B : Nat, B ≤ 15 ∧ Pk.lenB n = B ∧ Pk.lenX n < (Pk.p2 B : Int)) := by
  by_cases h : 3 ≤ n ∧ n ≤ 258
  · exact Or.inr (Pk.len_facts n h)
  · exact Or.inl ⟨(Pk.len_no n h).1, (Pk.len_no n h).2.1⟩

theorem back_cases (n : Int) : (Pk.backC n = -1 ∧ Pk.backB n = 0) ∨ (0 ≤ Pk.backC n ∧ Pk.backC n ≤ 29 ∧ ∃ B : Nat, B ≤ 15 ∧ Pk.backB n = B ∧ Pk.backX n < (Pk.p2 B : Int)) := by
  by_cases h : 1 ≤ n ∧ n ≤ 32768
  · exact Or.inr (Pk.back_facts n h)
  · exact Or.inl ⟨(Pk.back_no n h).1, (Pk.back_no n h).2.1⟩

/-- Whether a code is one, its numbers in their bounds. -/
def fitsL (c x t : Int) : Prop := c = -1 ∨ (257 ≤ c ∧ c ≤ 285 ∧ x < t)
def fitsB (h y f : Int) : Prop := h = -1 ∨ (0 ≤ h ∧ h ≤ 29 ∧ y < f)

theorem len_all (n : Int) : ∃ B : Nat, B ≤ 15 ∧ Pk.lenB n = B ∧ fitsL (Pk.lenC n) (Pk.lenX n) (Pk.p2 B) := by
  rcases len_cases n with ⟨h1, h2⟩ | ⟨h1, h2, B, h3, h4, h5⟩
  · exact ⟨0, by omega, h2, Or.inl h1⟩
  · exact ⟨B, h3, h4, Or.inr ⟨h1, h2, h5⟩⟩

theorem back_all (n : Int) : ∃ B : Nat, B ≤ 15 ∧ Pk.backB n = B ∧ fitsB (Pk.backC n) (Pk.backX n) (Pk.p2 B) := by
  rcases back_cases n with ⟨h1, h2⟩ | ⟨h1, h2, B, h3, h4, h5⟩
  · exact ⟨0, by omega, h2, Or.inl h1⟩
  · exact ⟨B, h3, h4, Or.inr ⟨h1, h2, h5⟩⟩

set_option maxRecDepth 100000 in

set_option maxHeartbeats 4000000 in
theorem walk (a0 : Option Addr) (len0 cap0 : Nat) (z0 : List Int) (w : World) (w0 : IsRow .u8 w a0 len0 cap0 z0) (R : Pk.Runs w) :
    Calls Tryd.prog 6 #[.slice a0 len0 cap0] w fun e w' => e = .returned (.bool true) ∧ Below w.heap.size w w' := by
  by_cases hb : len0 ≤ 1048576
  · have By := Cur.bytes_of w a0 len0 cap0 z0 w0
    clear w0
    go_enter Tryd.func6, Tryd.ntmps6
    go_wp2_with fail
    refine (Cur.big_no a0 len0 cap0 _ hb).mono ?_
    rintro e w1 ⟨rfl, rfl⟩
    go_wp2_with fail
    refine (Cur.drawLenCode _ a0 len0 cap0 hb By).mono ?_
    rintro e w2 ⟨⟨n, rfl, hn0, hn1⟩, L2⟩
    have B2 := By.on L2
    have R2 := R.on L2 R.lt
    clear By R
    obtain ⟨NB, hNB, eNB, FL⟩ := len_all n
    have HNX : Hid (3 ≤ n ∧ n < 257 → Pk.lenC (n + 1) = Pk.lenC n ∨ Pk.lenC (n + 1) = Pk.lenC n + 1) := Pk.len_next n
    go_wp2_with fail
    refine (Pk.implLen_val n _).mono ?_
    rintro e w3 ⟨rfl, D3⟩
    go_wp2_with fail
    refine (Pk.specLen_val n _).mono ?_
    rintro e w4 ⟨rfl, rfl⟩
    have L3 := D3.below w2.heap.size
    have B3 := B2.on L3
    have R3 := R2.on L3 R2.lt
    have L4 := Pk.join_below L2 L3
    clear B2 R2 L2 L3 D3
    go_wp2_with fail
    refine (Cur.drawBackCode _ a0 len0 cap0 hb B3).mono ?_
    rintro e w5 ⟨⟨d, rfl⟩, L5⟩
    have B5 := B3.on L5
    have R5 := R3.on L5 R3.lt
    have L6 := Pk.join_below L4 L5
    clear B3 R3 L4 L5
    obtain ⟨DB, hDB, eDB, FB⟩ := back_all d
    go_wp2_with fail
    refine (Pk.implBack_val d _).mono ?_
    rintro e w7 ⟨rfl, D7⟩
    go_wp2_with fail
    refine (Pk.specBack_val d _).mono ?_
    rintro e w8 ⟨rfl, rfl⟩
    have L7 := D7.below w5.heap.size
    have B7 := B5.on L7
    have R7 := R5.on L7 R5.lt
    have L8 := Pk.join_below L6 L7
    clear B5 R5 L6 L7 D7
    simp only [eDB]
    have HLN : Hid (_) := FL
    have HLB : Hid (_) := FB
    clear FL FB eNB eDB
    generalize Pk.lenX n = X at *
    generalize hC : Pk.lenC n = C at *
    generalize Pk.backX d = Y at *
    generalize Pk.backC d = D at *
    go_wp2
    go_loop [17, 18] (fun t i => ∃ (k y : Nat), k ≤ NB ∧ y ≤ 1099511627776 ∧ t = .int .i64 y ∧ i = .int .i64 k ∧ Hid (y = Pk.p2 k)) (fun _ i => NB - (intOf i).toNat)
    case atStart => exact ⟨0, 1, by omega, by omega, rfl, rfl, rfl⟩
    case round =>
      obtain ⟨k, y, hk, hy, rfl, rfl, H⟩ := hrel
      by_cases hlt : k < NB
      · have HN : Hid (2 * y = Pk.p2 (k + 1)) := by show _ = _; rw [Pk.p2_succ, H.out]
        have hy2 : 2 * y ≤ 1099511627776 := by
          rw [HN.out]
          exact Pk.p2_bd _ (by omega)
        go_wp2
        go_round
        case rel => exact ⟨k + 1, 2 * y, by omega, by omega, by go_num, by go_num, HN⟩
        case measure => simp [intOf]; omega
      · obtain rfl : k = NB := by omega
        rw [← H.out] at HLN
        clear H
        go_wp2
        go_loop [19, 20] (fun t i => ∃ (k y : Nat), k ≤ DB ∧ y ≤ 1099511627776 ∧ t = .int .i64 y ∧ i = .int .i64 k ∧ Hid (y = Pk.p2 k)) (fun _ i => DB - (intOf i).toNat)
        case atStart => exact ⟨0, 1, by omega, by omega, rfl, rfl, rfl⟩
        case round =>
          obtain ⟨j, z, hj, hz, rfl, rfl, H⟩ := hrel
          by_cases hlt : j < DB
          · have HN : Hid (2 * z = Pk.p2 (j + 1)) := by show _ = _; rw [Pk.p2_succ, H.out]
            have hz2 : 2 * z ≤ 1099511627776 := by
              rw [HN.out]
              exact Pk.p2_bd _ (by omega)
            go_wp2
            go_round
            case rel => exact ⟨j + 1, 2 * z, by omega, by omega, by go_num, by go_num, HN⟩
            case measure => simp [intOf]; omega
          · obtain rfl : j = DB := by omega
            rw [← H.out] at HLB
            clear H
            by_cases hrange : 3 ≤ n ∧ n < 257
            · have hnx := HNX.out hrange
              obtain ⟨hr1, hr2⟩ := hrange
              go_wp2_with fail
              refine (Pk.implLen_val (n + 1) _).mono ?_
              generalize Pk.lenC (n + 1) = C2 at *
              generalize Pk.lenB (n + 1) = B2
              generalize Pk.lenX (n + 1) = X2
              rintro e w9 ⟨rfl, D9⟩
              have L9 := D9.below w8.heap.size
              have B9 := B7.on L9
              have R9 := R7.on L9 R7.lt
              have L9' := Pk.join_below L8 L9
              clear L8 B7 R7 L9 D9 HNX
              rcases hnx with rfl | hC2
              · have hne : (C2 != C2) = false := by simp
                go_wp2_with fail
                refine (Cur.drawFixedCode _ a0 len0 cap0 hb B9).mono ?_
                rintro e w10 ⟨⟨sy, rfl⟩, L10⟩
                have R10 := R9.on L10 R9.lt
                have L11 := Pk.join_below L9' L10
                have hfl := Pk.fixL_length sy
                clear L10
                rcases HLN.out with hc | ⟨hc1, hc2, hc3⟩ <;> rcases HLB.out with hd | ⟨hd1, hd2, hd3⟩
                all_goals
                  first | subst hc | have hcn : (C2 == -1) = false := beq_eq_false_iff_ne.2 (by omega)
                  first | subst hd | have hdn : (D == -1) = false := beq_eq_false_iff_ne.2 (by omega)
                  first
                    | (exfalso; omega)
                    | (go_wp2_with fail
                       refine (Pk.implFix_val sy _ R10).mono ?_
                       rintro e w12 ⟨v1, rfl, I1, L12⟩
                       go_wp2_with fail
                       refine (Pk.specFix_val sy _).mono ?_
                       rintro e w13 ⟨v2, rfl, I2, L13⟩
                       have I3 := Pk.own_below I1 L13 (Nat.le_refl _)
                       have L14 := Pk.join_below L11 (Pk.join_below L12 L13)
                       go_wp2_with fail
                       refine (Pk.sameInts_same _ _ v1 v2 (Pk.fixL sy) _ _ (by omega) rfl I3 I2).mono ?_
                       rintro e w15 ⟨rfl, D15⟩
                       go_wp2
                       go_ret
                       exact ⟨rfl, L14.trans (D15.below _)⟩)
              · have hCb : -1 ≤ C ∧ C ≤ 285 := by rcases HLN.out with h | ⟨h1, h2, -⟩ <;> omega
                obtain ⟨hCb1, hCb2⟩ := hCb
                subst hC2
                have hq1 : (C + 1 != C) = true := by rw [bne_iff_ne]; omega
                have hq2 : (C + 1 != C + 1) = false := by simp
                go_wp2_with fail
                refine (Cur.drawFixedCode _ a0 len0 cap0 hb B9).mono ?_
                rintro e w10 ⟨⟨sy, rfl⟩, L10⟩
                have R10 := R9.on L10 R9.lt
                have L11 := Pk.join_below L9' L10
                have hfl := Pk.fixL_length sy
                clear L10
                rcases HLN.out with hc | ⟨hc1, hc2, hc3⟩ <;> rcases HLB.out with hd | ⟨hd1, hd2, hd3⟩
                all_goals
                  first | subst hc | have hcn : (C == -1) = false := beq_eq_false_iff_ne.2 (by omega)
                  first | subst hd | have hdn : (D == -1) = false := beq_eq_false_iff_ne.2 (by omega)
                  first
                    | (exfalso; omega)
                    | (go_wp2_with fail
                       refine (Pk.implFix_val sy _ R10).mono ?_
                       rintro e w12 ⟨v1, rfl, I1, L12⟩
                       go_wp2_with fail
                       refine (Pk.specFix_val sy _).mono ?_
                       rintro e w13 ⟨v2, rfl, I2, L13⟩
                       have I3 := Pk.own_below I1 L13 (Nat.le_refl _)
                       have L14 := Pk.join_below L11 (Pk.join_below L12 L13)
                       go_wp2_with fail
                       refine (Pk.sameInts_same _ _ v1 v2 (Pk.fixL sy) _ _ (by omega) rfl I3 I2).mono ?_
                       rintro e w15 ⟨rfl, D15⟩
                       go_wp2
                       go_ret
                       exact ⟨rfl, L14.trans (D15.below _)⟩)
            · have hrd : decide (n < 257) = false ∨ decide (3 ≤ n) = false := by
                by_cases h3 : n < 257
                · right; exact decide_eq_false (by omega)
                · left; exact decide_eq_false h3
              clear hrange
              rcases hrd with hrd | hrd
              · have hge : 257 ≤ n := by have := of_decide_eq_false hrd; omega
                go_wp2_with fail
                refine (Cur.drawFixedCode _ a0 len0 cap0 hb B7).mono ?_
                rintro e w10 ⟨⟨sy, rfl⟩, L10⟩
                have R10 := R7.on L10 R7.lt
                have L11 := Pk.join_below L8 L10
                have hfl := Pk.fixL_length sy
                clear L10
                rcases HLN.out with hc | ⟨hc1, hc2, hc3⟩ <;> rcases HLB.out with hd | ⟨hd1, hd2, hd3⟩
                all_goals
                  first | subst hc | have hcn : (C == -1) = false := beq_eq_false_iff_ne.2 (by omega)
                  first | subst hd | have hdn : (D == -1) = false := beq_eq_false_iff_ne.2 (by omega)
                  first
                    | (exfalso; omega)
                    | (go_wp2_with fail
                       refine (Pk.implFix_val sy _ R10).mono ?_
                       rintro e w12 ⟨v1, rfl, I1, L12⟩
                       go_wp2_with fail
                       refine (Pk.specFix_val sy _).mono ?_
                       rintro e w13 ⟨v2, rfl, I2, L13⟩
                       have I3 := Pk.own_below I1 L13 (Nat.le_refl _)
                       have L14 := Pk.join_below L11 (Pk.join_below L12 L13)
                       go_wp2_with fail
                       refine (Pk.sameInts_same _ _ v1 v2 (Pk.fixL sy) _ _ (by omega) rfl I3 I2).mono ?_
                       rintro e w15 ⟨rfl, D15⟩
                       go_wp2
                       go_ret
                       exact ⟨rfl, L14.trans (D15.below _)⟩)
              · have hge : n < 3 := by have := of_decide_eq_false hrd; omega
                have hlt7 : n < 257 := by omega
                go_wp2_with fail
                refine (Cur.drawFixedCode _ a0 len0 cap0 hb B7).mono ?_
                rintro e w10 ⟨⟨sy, rfl⟩, L10⟩
                have R10 := R7.on L10 R7.lt
                have L11 := Pk.join_below L8 L10
                have hfl := Pk.fixL_length sy
                clear L10
                rcases HLN.out with hc | ⟨hc1, hc2, hc3⟩ <;> rcases HLB.out with hd | ⟨hd1, hd2, hd3⟩
                all_goals
                  first | subst hc | have hcn : (C == -1) = false := beq_eq_false_iff_ne.2 (by omega)
                  first | subst hd | have hdn : (D == -1) = false := beq_eq_false_iff_ne.2 (by omega)
                  first
                    | (exfalso; omega)
                    | (go_wp2_with fail
                       refine (Pk.implFix_val sy _ R10).mono ?_
                       rintro e w12 ⟨v1, rfl, I1, L12⟩
                       go_wp2_with fail
                       refine (Pk.specFix_val sy _).mono ?_
                       rintro e w13 ⟨v2, rfl, I2, L13⟩
                       have I3 := Pk.own_below I1 L13 (Nat.le_refl _)
                       have L14 := Pk.join_below L11 (Pk.join_below L12 L13)
                       go_wp2_with fail
                       refine (Pk.sameInts_same _ _ v1 v2 (Pk.fixL sy) _ _ (by omega) rfl I3 I2).mono ?_
                       rintro e w15 ⟨rfl, D15⟩
                       go_wp2
                       go_ret
                       exact ⟨rfl, L14.trans (D15.below _)⟩)
  · go_enter Tryd.func6, Tryd.ntmps6
    go_wp2_with fail
    refine (Cur.big_yes a0 len0 cap0 _ hb).mono ?_
    rintro e w1 ⟨rfl, rfl⟩
    go_wp2
    go_ret
    exact ⟨rfl, Below.refl _ _⟩

theorem errs {W : World} (hL : laidMetH Tryd.prog Rows.fnRangesRow.laid W) : Pk.Runs W := by
  have h0 : laidMet Tryd.prog [("loop.example/g00211/impl.fixedRuns", Rows.laid_loop_example_g00211_impl_fixedRuns)] W := hL
  exact Pk.runs_of h0

set_option maxRecDepth 100000 in
theorem contract (H : Type) (enc : TypeId × Value → H) (W : World) (base : Nat) (args : Array Value) (ds gs : List (DataW H)) (before : List MemPlace)
    (hval : ∀ (j : Nat) t v, Tryd.f6.params[j]? = some t → args[j]? = some v → Value.okWide Tryd.prog W .any base t v)
    (hW : DataW.Whole enc Tryd.prog Tryd.f6.params.toList Rows.fnRangesSpec.vars false W args.toList ds gs before) (hL : laidMetH Tryd.prog Rows.fnRangesRow.laid W) :
    Calls Tryd.prog 6 args W fun e W' => ∃ v, e = .returned v ∧ Rows.fnRangesSpec.post enc Tryd.prog Tryd.f6 false true false false W args v W' := by
  have hW' := hW
  obtain ⟨p, q, hA0, hV, rfl, hfz, hnd⟩ := hW
  have hA : DataW.TrodAll enc Tryd.prog W 0 (fun _ => true) true Tryd.f6.params.toList args.toList ds p := hA0
  rw [Tryd.params6] at hA hval
  obtain ⟨v0, vs0, d0, ds0, p0, q0, hargs, rfl, rfl, h0, r0⟩ := trodAll_cons hA
  obtain ⟨rfl, rfl, rfl⟩ := trodAll_nil r0
  obtain rfl : args = #[v0] := by cases args; simp_all
  have hlen := Errs.vars_len hV
  obtain ⟨g0, gs0, rfl, hl0⟩ := Errs.len_cons hlen
  obtain rfl := List.length_eq_zero_iff.1 hl0
  have k0 := h0
  have lt0 : ∀ x ∈ p0, x.block < W.heap.size := by obtain ⟨m, hm⟩ := k0; exact DataW.trod_lt m _ _ _ hm
  obtain ⟨a0, len0, cap0, rfl⟩ := okWide_slice Tryd.underlying22 (hval 0 22 v0 rfl rfl)
  obtain ⟨z0, w0⟩ : ∃ zs, IsRow .u8 W a0 len0 cap0 zs := by
    obtain ⟨fuel, hf⟩ := h0
    rcases open_ints Tryd.underlying22 Tryd.underlying5 (by kernel_rfl) hf with ⟨hcs, _⟩ | ⟨x, l, c, zs, hcs, _, hl, hm, hz, _, hcell, hwz⟩
    · simp [Value.cells] at hcs
      obtain ⟨rfl, rfl, rfl⟩ := hcs
      exact ⟨[], .inl ⟨rfl, rfl, rfl, rfl⟩⟩
    · simp [Value.cells] at hcs
      obtain ⟨rfl, rfl, rfl⟩ := hcs
      exact ⟨zs, .inr ⟨_, rfl, hl, hm, by simpa using hz, hcell, hwz⟩⟩
  clear hA0
  refine (walk a0 len0 cap0 z0 W w0 (errs hL)).mono fun e W' ⟨he, bel⟩ => ?_
  subst he
  exact ⟨_, rfl, _, _, _, [], _, _, hW', trodAll_mk1 (shut_bool Tryd.underlying4 _), (trodAll_cons_mk (Below.trod Errs.laidOut (by kernel_rfl) (of_decide_eq_true (by kernel_rfl)) k0 bel lt0) trodAll_mk0), (Below.trodVars Errs.laidOut bel (by kernel_rfl) hV), bel.frame _, fun h => by cases h⟩

theorem laid_met (os : Os) : laidMet Tryd.prog Rows.fnRangesRow.laid ((Pk.runsW (World.holding Tryd.prog os ⟨#[], #[], []⟩)).forCall (fun _ _ => 0) ⟨#[], #[.slice none 0 0], []⟩).memory :=
  laidMet_of_run' 8 (by kernel_rfl) (by kernel_rfl)

theorem reads (os : Os) {H : Type} (enc : TypeId × Value → H) : ∃ x, DataW.whole enc Tryd.prog ((Pk.runsW (World.holding Tryd.prog os ⟨#[], #[], []⟩)).forCall (fun _ _ => 0) ⟨#[], #[.slice none 0 0], []⟩).memory Tryd.f6.params.toList Rows.fnRangesSpec.vars false (#[.slice none 0 0] : Array Value).toList 8 = some x :=
  Option.isSome_iff_exists.1 (by kernel_rfl)

set_option maxRecDepth 100000 in
theorem lifted (os : Os) (started : os.Started) (H : Type) (enc : TypeId × Value → H) (F : Stop.Interp) :
    ReturnsInHanded {} Tryd.checked os 6 .any ((OpenSpec.ofChange Rows.fnRangesSpec).preRow enc Tryd.prog Tryd.f6 Rows.fnRangesRow.domain false Rows.fnRangesRow.laid) (((OpenSpec.ofChange Rows.fnRangesSpec).at F).post enc Tryd.prog Tryd.f6 false true false false) := by
  obtain ⟨x, hx⟩ := reads os enc
  refine returnsInHanded_of_row (C := Tryd.checked) (s := OpenSpec.ofChange Rows.fnRangesSpec) Errs.own started (by kernel_rfl) Tryd.func6
    (witness_row_at (enc := enc) (C := Tryd.checked) false (Pk.runsW (World.holding Tryd.prog os ⟨#[], #[], []⟩)) #[.slice none 0 0] rfl (by kernel_rfl) (by kernel_rfl) (by kernel_rfl)
      (OpenSpec.preRow_of_cond 8 hx rfl (fun k hk => by cases hk) (by kernel_rfl) (laid_met os))) ?_
  intro W base args ds gs before hval hW _ _ _ hL _ _
  exact contract H enc W base args ds gs before hval hW hL

theorem said : Rows.FnRangesSaid :=
  OpenClaim.holds_of_cond 6 Tryd.f6 rfl rfl rfl rfl rfl rfl rfl ⟨rfl, rfl, rfl, rfl, rfl⟩ rfl rfl rfl rfl rfl (by kernel_rfl) Tryd.func6 (by kernel_rfl)
    (of_decide_eq_true (by kernel_rfl)) (by unfold Func.isWrapper; first | (rw [if_pos (by decide +kernel)]; kernel_rfl) | (rw [if_neg (by decide +kernel)]; exact ⟨rfl, rfl⟩))
    (fun os started H enc _ F => by rw [OpenClaim.pre_eq_preRow]; exact lifted os started H enc F)

theorem plain (f : FuncId) (fn : Func) (hf : Tryd.pinned.checked.prog.funcNamed "loop.example/g00211/laws.FnRanges" = some f) (hfn : Tryd.pinned.checked.prog.funcs[f]? = some fn) :
    true = Tryd.pinned.checked.prog.looks [] ∧ ∀ (j : Nat) t, fn.params[j]? = some t → Tryd.pinned.checked.prog.wantsStandIn t = false := by
  obtain rfl : f = 6 := Option.some.inj ((show Tryd.prog.funcNamed "loop.example/g00211/laws.FnRanges" = some 6 by kernel_rfl).symm.trans hf) |>.symm
  obtain rfl : fn = Tryd.f6 := (Option.some.inj (Tryd.func6.symm.trans hfn)).symm
  refine ⟨by kernel_rfl, fun j t ht => ?_⟩
  rw [Tryd.params6] at ht
  obtain rfl : t = 22 := by simpa using Array.mem_of_getElem? ht
  exact (show Tryd.prog.wantsStandIn 22 = false by kernel_rfl)

theorem card : Rows.FnRangesCardSaid :=
  Claim7.holds_tied_plain_at .later [] _ _ _ _ said (fun _ h => by cases h) (by kernel_rfl) (fun _ h => by cases h) fnRanges_row_tie rfl ⟨rfl, rfl⟩ (by kernel_rfl) rfl plain (by kernel_rfl)
end Go.Proofs.YtaocindfopipnabDoor.fnRanges
namespace Go.Proofs.YtaocindfopipnabDoor
theorem FnRanges_holds : Rows.FnRangesCardSaid := fnRanges.card
end Go.Proofs.YtaocindfopipnabDoor

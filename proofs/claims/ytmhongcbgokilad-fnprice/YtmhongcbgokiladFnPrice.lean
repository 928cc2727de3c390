/- For every code the law of prices answers true: fare, rate and fee are those of the model, no fee is above the price or falls nearer to the day, and a fare that is said is the least multiple of ten that covers the rate's share of the cheapest way's cost. No condition. -/
import Derived.Test.YtmhongcbgokiladErrs
import Derived.ShutString
import Derived.Lib.SmallJoins
import Derived.Test.YtmhongcbgokiladCurTf2
import Derived.Test.YtmhongcbgokiladTfFare
import Derived.Test.YtmhongcbgokiladCurNum
namespace Go.Proofs.Ytmhongcbgokilad.fnPrice
open Go.ChangeShapes Go.WideShapes Go.ChangeAt Go.RowKit Go.Joins
open Go.ChangeMaps (open_string shut_string)
set_option linter.unusedVariables false

def IsRow (k : IntKind) (w : World) (a : Option Addr) (len cap : Nat) (zs : List Int) : Prop :=
  (a = none ∧ len = 0 ∧ cap = 0 ∧ zs = []) ∨
  ∃ x, a = some x ∧ len ≤ cap ∧ cap ≤ maxLen ∧ zs.length = cap ∧ (∀ i, i < zs.length → w.cell? (x.add i) = some (.int k (zs.getD i 0))) ∧ ∀ n ∈ zs, (Lit.int k n).wf = true

/-- What is said of a fare. -/
theorem far_said {l : List Tf.Ed} {a b V A S : Int} (h : Tf.FarR l a b V A S) (hV : V = -1 ∨ (50 ≤ V ∧ V ≤ 160)) :
    (S ≠ 0 → A = 0) ∧ (S = 0 → (50 ≤ V ∧ V ≤ 160) ∧ ∃ m, Tf.bw l a b (some m) ∧ A = Tf.fareV m.c V ∧ m.c ≤ 10000000 ∧ A ≤ 10000000) := by
  rcases h with ⟨-, rfl, rfl⟩ | ⟨h1, x, hx, rfl, rfl⟩
  · exact ⟨fun _ => rfl, fun h => by omega⟩
  · have hV' := hV.resolve_left h1
    have h0 : ¬ V < 0 := by omega
    cases x with
    | none =>
      unfold Tf.farA Tf.farS
      rw [if_neg h0, if_neg h0]
      exact ⟨fun _ => rfl, fun h => by simp at h⟩
    | some m =>
      unfold Tf.farA Tf.farS
      rw [if_neg h0, if_neg h0]
      dsimp only
      split
      · exact ⟨fun _ => rfl, fun h => by omega⟩
      · rename_i hc
        exact ⟨fun h => absurd rfl h, fun _ => ⟨hV', m, hx, rfl, by omega, by omega⟩⟩

theorem fee_le {p d : Int} (h : 0 ≤ Tf.feeV p d) : Tf.feeV p d ≤ p := by
  unfold Tf.feeV at h ⊢
  repeat' split
  all_goals (try omega)
  all_goals simp_all
  all_goals omega

theorem fee_later {p d : Int} (h : 0 ≤ Tf.feeV p d) (hd : 0 < d) : Tf.feeV p d ≤ Tf.feeV p (d.tdiv 2) := by
  have e : d.tdiv 2 = d / 2 := Int.tdiv_eq_ediv_of_nonneg (by omega)
  rw [e]
  unfold Tf.feeV at h ⊢
  by_cases hp : 0 ≤ p ∧ p ≤ 10000000
  · rw [if_neg (fun h => h hp)]
    (repeat' split) <;> omega
  · rw [if_pos hp] at h
    omega

theorem half_wrap {d : Int} (h1 : -9223372036854775808 ≤ d) (h2 : d ≤ 9223372036854775807) : -9223372036854775808 ≤ d.tdiv 2 ∧ d.tdiv 2 ≤ 9223372036854775807 := by
  by_cases h : 0 ≤ d
  · rw [Int.tdiv_eq_ediv_of_nonneg h]
    omega
  · have : d.tdiv 2 = -((-d) / 2) := by
      rw [← Int.neg_neg d, Int.neg_tdiv, Int.neg_neg, Int.tdiv_eq_ediv_of_nonneg (by omega)]
    rw [this]
    omega


set_option maxRecDepth 100000 in
set_option maxHeartbeats 4000000 in
theorem walk (a0 : Option Addr) (len0 cap0 : Nat) (z0 : List Int) (w : World) (w0 : IsRow .u8 w a0 len0 cap0 z0)  :
    Calls Try.prog 6 #[.slice a0 len0 cap0] w fun e w' => e = .returned (.bool true) ∧ Below w.heap.size w w' := by
  by_cases hb : len0 ≤ 1048576
  · have B := Cur.bytes_of w a0 len0 cap0 z0 w0
    clear w0
    go_enter Try.func6, Try.ntmps6
    go_wp2_with fail
    refine (Cur.big_no a0 len0 cap0 _ hb).mono ?_
    rintro e w1 ⟨rfl, rfl⟩
    go_wp2_with fail
    refine (Tf.drawFare a0 len0 cap0 _ hb B).mono ?_
    rintro e w2 ⟨⟨l, va, vc, x, y, p, q, rfl, hl, E2⟩, L2⟩
    have hm : l.length ≤ maxLen := by unfold maxLen; omega
    go_wp2_with fail
    refine (Tf.implFare_val va l vc x y p q _ hm E2).mono ?_
    rintro e w3 ⟨A, S, F3, rfl, L3⟩
    have E3 := E2.on L3
    have K3 := Pk.join_below L2 L3
    clear L2 L3 E2
    go_wp2_with fail
    refine (Tf.specFare_val va l vc x y p q _ hm E3).mono ?_
    rintro e w4 ⟨A', S', F4, rfl, L4⟩
    obtain ⟨rfl, rfl⟩ := Tf.far_one F3 F4
    have E4 := E3.on L4
    have K4 := Pk.join_below K3 L4
    have HF : Hid (_ ∧ _) := far_said F3 (Tf.rate_bd p q)
    have HSR : Hid (∀ w, _) := fun w => Tf.specRate_val p q w
    have HIR : Hid (∀ w, _) := fun w => Tf.implRate_val p q w
    clear F3 F4 E3 K3 L4
    generalize Tf.rateV p q = V at *
    go_wp2_with fail
    refine (HIR.out _).mono ?_
    rintro e w5 ⟨rfl, rfl⟩
    go_wp2_with fail
    refine (Tf.drawFee a0 len0 cap0 _ hb (B.on K4)).mono ?_
    rintro e w6 ⟨⟨r, d, rfl, hd0, hd1⟩, L6⟩
    have E6 := E4.on L6
    have K6 := Pk.join_below K4 L6
    have HH := half_wrap hd0 hd1
    obtain ⟨hh0, hh1⟩ := HH
    have HFL : Hid (0 ≤ Tf.feeV r d → Tf.feeV r d ≤ r) := fee_le
    have HFD : Hid (0 ≤ Tf.feeV r d → 0 < d → Tf.feeV r d ≤ Tf.feeV r (d.tdiv 2)) := fee_later
    have HIF : Hid (∀ w, _) := fun w => Tf.implFee_val r d w
    have HSF : Hid (∀ w, _) := fun w => Tf.specFee_val r d w
    have HIL : Hid (∀ w, _) := fun w => Tf.implFee_val r (d.tdiv 2) w
    generalize Tf.feeV r (d.tdiv 2) = G at *
    generalize Tf.feeV r d = F at *
    have hwd : IntKind.i64.wrap (d.tdiv 2) = d.tdiv 2 := by rw [IntKind.wrap_i64]; omega
    clear K4 L6 E4
    go_wp2_with fail
    refine (HIF.out _).mono ?_
    rintro e w7 ⟨rfl, rfl⟩
    go_wp2_with fail
    refine (HSR.out _).mono ?_
    rintro e w8 ⟨rfl, L8⟩
    have E8 := E6.on L8
    have K8 := Pk.join_below K6 L8
    clear K6 L8 E6
    go_wp2_with fail
    refine (HSF.out _).mono ?_
    rintro e w9 ⟨rfl, rfl⟩
    have HB : Hid (∀ w, Tf.Edges w va l → _) := fun w h => Tf.implBase_val va l vc x y w hm h
    by_cases hF : 0 ≤ F
    · have hF1 := HFL.out hF
      have dF : decide (0 ≤ F) = true := decide_eq_true hF
      have dF1 : decide (r < F) = false := decide_eq_false (by omega)
      go_wp2_with fail
      refine (HIL.out _).mono ?_
      rintro e w10 ⟨rfl, rfl⟩
      by_cases hd : 0 < d
      · have hF2 := HFD.out hF hd
        have dd : decide (0 < d) = true := decide_eq_true hd
        have dF2 : decide (G < F) = false := decide_eq_false (by omega)
        clear HFL HFD HIF HSF HIL HSR HIR
        by_cases hS : S = 0
        · subst hS
          obtain ⟨hV, m, hx, hA, hc, hA1⟩ := HF.out.2 rfl
          have HA : Hid (A = Tf.fareV m.c V) := hA
          clear hA
          go_wp2_with fail
          refine (HB.out _ E8).mono ?_
          rintro e w11 ⟨z, hz, rfl, hz0, L11⟩
          obtain rfl := Tf.bw_one hx hz
          have K11 := Pk.join_below K8 L11
          have hm0 : 0 ≤ m.c := hz0.1
          have hA : A = Tf.fareV m.c V := HA.out
          clear HA
          dsimp only [Tf.cOf, Option.isSome] at *
          unfold Tf.fareV at hA
          generalize m.c = b0 at *
          obtain ⟨P, hP⟩ : ∃ P, b0 * V = P := ⟨_, rfl⟩
          have hP0 : 0 ≤ P := by rw [← hP]; exact Int.mul_nonneg hm0 (by omega)
          have hP1 : P ≤ 10000000 * 160 := by rw [← hP]; exact Int.mul_le_mul hc hV.2 (by omega) (by omega)
          rw [hP] at hA
          have hw0 : IntKind.i64.wrap P = P := by rw [IntKind.wrap_i64]; omega
          have t0 : A.tmod 10 = 0 := by rw [Int.tmod_eq_emod_of_nonneg (by omega)]; omega
          have t1 : decide (P ≤ 100 * A) = true := decide_eq_true (by omega)
          have t2 : decide (100 * (A - 10) < P) = true := decide_eq_true (by omega)
          have t3 : decide (A ≤ 10000000) = true := decide_eq_true hA1
          have hA0 : 0 ≤ A := by omega
          clear hx hz hz0 HB HF L11 K8 E8 hA
          go_wp2
          go_ret
          exact ⟨rfl, K11⟩
        · obtain rfl := HF.out.1 hS
          go_wp2
          go_ret
          exact ⟨rfl, K8⟩
      · have dd : decide (0 < d) = false := decide_eq_false hd
        clear HFL HFD HIF HSF HIL HSR HIR
        by_cases hS : S = 0
        · subst hS
          obtain ⟨hV, m, hx, hA, hc, hA1⟩ := HF.out.2 rfl
          have HA : Hid (A = Tf.fareV m.c V) := hA
          clear hA
          go_wp2_with fail
          refine (HB.out _ E8).mono ?_
          rintro e w11 ⟨z, hz, rfl, hz0, L11⟩
          obtain rfl := Tf.bw_one hx hz
          have K11 := Pk.join_below K8 L11
          have hm0 : 0 ≤ m.c := hz0.1
          have hA : A = Tf.fareV m.c V := HA.out
          clear HA
          dsimp only [Tf.cOf, Option.isSome] at *
          unfold Tf.fareV at hA
          generalize m.c = b0 at *
          obtain ⟨P, hP⟩ : ∃ P, b0 * V = P := ⟨_, rfl⟩
          have hP0 : 0 ≤ P := by rw [← hP]; exact Int.mul_nonneg hm0 (by omega)
          have hP1 : P ≤ 10000000 * 160 := by rw [← hP]; exact Int.mul_le_mul hc hV.2 (by omega) (by omega)
          rw [hP] at hA
          have hw0 : IntKind.i64.wrap P = P := by rw [IntKind.wrap_i64]; omega
          have t0 : A.tmod 10 = 0 := by rw [Int.tmod_eq_emod_of_nonneg (by omega)]; omega
          have t1 : decide (P ≤ 100 * A) = true := decide_eq_true (by omega)
          have t2 : decide (100 * (A - 10) < P) = true := decide_eq_true (by omega)
          have t3 : decide (A ≤ 10000000) = true := decide_eq_true hA1
          have hA0 : 0 ≤ A := by omega
          clear hx hz hz0 HB HF L11 K8 E8 hA
          go_wp2
          go_ret
          exact ⟨rfl, K11⟩
        · obtain rfl := HF.out.1 hS
          go_wp2
          go_ret
          exact ⟨rfl, K8⟩
    · have dF : decide (0 ≤ F) = false := decide_eq_false hF
      clear HFL HFD HIF HSF HIL HSR HIR
      by_cases hS : S = 0
      · subst hS
        obtain ⟨hV, m, hx, hA, hc, hA1⟩ := HF.out.2 rfl
        have HA : Hid (A = Tf.fareV m.c V) := hA
        clear hA
        go_wp2_with fail
        refine (HB.out _ E8).mono ?_
        rintro e w11 ⟨z, hz, rfl, hz0, L11⟩
        obtain rfl := Tf.bw_one hx hz
        have K11 := Pk.join_below K8 L11
        have hm0 : 0 ≤ m.c := hz0.1
        have hA : A = Tf.fareV m.c V := HA.out
        clear HA
        dsimp only [Tf.cOf, Option.isSome] at *
        unfold Tf.fareV at hA
        generalize m.c = b0 at *
        obtain ⟨P, hP⟩ : ∃ P, b0 * V = P := ⟨_, rfl⟩
        have hP0 : 0 ≤ P := by rw [← hP]; exact Int.mul_nonneg hm0 (by omega)
        have hP1 : P ≤ 10000000 * 160 := by rw [← hP]; exact Int.mul_le_mul hc hV.2 (by omega) (by omega)
        rw [hP] at hA
        have hw0 : IntKind.i64.wrap P = P := by rw [IntKind.wrap_i64]; omega
        have t0 : A.tmod 10 = 0 := by rw [Int.tmod_eq_emod_of_nonneg (by omega)]; omega
        have t1 : decide (P ≤ 100 * A) = true := decide_eq_true (by omega)
        have t2 : decide (100 * (A - 10) < P) = true := decide_eq_true (by omega)
        have t3 : decide (A ≤ 10000000) = true := decide_eq_true hA1
        have hA0 : 0 ≤ A := by omega
        clear hx hz hz0 HB HF L11 K8 E8 hA
        go_wp2
        go_ret
        exact ⟨rfl, K11⟩
      · obtain rfl := HF.out.1 hS
        go_wp2
        go_ret
        exact ⟨rfl, K8⟩
  · go_enter Try.func6, Try.ntmps6
    go_wp2_with fail
    refine (Cur.big_yes a0 len0 cap0 _ hb).mono ?_
    rintro e w1 ⟨rfl, rfl⟩
    go_wp2
    go_ret
    exact ⟨rfl, Below.refl _ _⟩

set_option maxRecDepth 100000 in
theorem contract (H : Type) (enc : TypeId × Value → H) (W : World) (base : Nat) (args : Array Value) (ds gs : List (DataW H)) (before : List MemPlace)
    (hval : ∀ (j : Nat) t v, Try.f6.params[j]? = some t → args[j]? = some v → Value.okWide Try.prog W .any base t v)
    (hW : DataW.Whole enc Try.prog Try.f6.params.toList Rows.fnPriceSpec.vars false W args.toList ds gs before) :
    Calls Try.prog 6 args W fun e W' => ∃ v, e = .returned v ∧ Rows.fnPriceSpec.post enc Try.prog Try.f6 false true false false W args v W' := by
  have hW' := hW
  obtain ⟨p, q, hA0, hV, rfl, hfz, hnd⟩ := hW
  have hA : DataW.TrodAll enc Try.prog W 0 (fun _ => true) true Try.f6.params.toList args.toList ds p := hA0
  rw [Try.params6] at hA hval
  obtain ⟨v0, vs0, d0, ds0, p0, q0, hargs, rfl, rfl, h0, r0⟩ := trodAll_cons hA
  obtain ⟨rfl, rfl, rfl⟩ := trodAll_nil r0
  obtain rfl : args = #[v0] := by cases args; simp_all
  obtain ⟨rfl, rfl⟩ := trodVars_none hV
  have k0 := h0
  have lt0 : ∀ x ∈ p0, x.block < W.heap.size := by obtain ⟨m, hm⟩ := k0; exact DataW.trod_lt m _ _ _ hm
  obtain ⟨a0, len0, cap0, rfl⟩ := okWide_slice Try.underlying22 (hval 0 22 v0 rfl rfl)
  obtain ⟨z0, w0⟩ : ∃ zs, IsRow .u8 W a0 len0 cap0 zs := by
    obtain ⟨fuel, hf⟩ := h0
    rcases open_ints Try.underlying22 Try.underlying5 (by kernel_rfl) hf with ⟨hcs, _⟩ | ⟨x, l, c, zs, hcs, _, hl, hm, hz, _, hcell, hwz⟩
    · simp [Value.cells] at hcs
      obtain ⟨rfl, rfl, rfl⟩ := hcs
      exact ⟨[], .inl ⟨rfl, rfl, rfl, rfl⟩⟩
    · simp [Value.cells] at hcs
      obtain ⟨rfl, rfl, rfl⟩ := hcs
      exact ⟨zs, .inr ⟨_, rfl, hl, hm, by simpa using hz, hcell, hwz⟩⟩
  clear hA0
  refine (walk a0 len0 cap0 z0 W w0 ).mono fun e W' ⟨he, bel⟩ => ?_
  subst he
  exact ⟨_, rfl, _, _, _, [], _, [], hW', trodAll_mk1 (shut_bool Try.underlying4 _), (trodAll_cons_mk (Below.trod Errs.laidOut (by kernel_rfl) (of_decide_eq_true (by kernel_rfl)) k0 bel lt0) trodAll_mk0), rfl, bel.frame _, fun h => by cases h⟩

set_option maxRecDepth 100000 in
theorem lifted (os : Os) (started : os.Started) (H : Type) (enc : TypeId × Value → H) :
    ReturnsInHanded {} Try.checked os 6 .any (Rows.fnPriceSpec.pre6 enc Try.prog Try.f6 Rows.fnPriceRow.domain false) (Rows.fnPriceSpec.post enc Try.prog Try.f6 false true false false) := by
  refine returnsInHanded_of_change (C := Try.checked) Errs.own started (by kernel_rfl) Try.func6
    (ChangeSpec.witness6 (enc := enc) (C := Try.checked) false ⟨#[], #[.slice none 0 0], []⟩ 8 (by kernel_rfl) (by kernel_rfl) (by kernel_rfl) (by kernel_rfl)) ?_
  intro W base args ds gs before hval hW _ _
  exact contract H enc W base args ds gs before hval hW

set_option maxRecDepth 100000 in
theorem over : Rows.fnPriceRow.holds Try.pinned (OpenSpec.ofChange Rows.fnPriceSpec) :=
  OpenClaim.holds_of_wide 6 Try.f6 rfl rfl rfl rfl rfl rfl rfl ⟨rfl, rfl, rfl, rfl, rfl⟩ rfl rfl rfl rfl rfl (by kernel_rfl) Try.func6 (by kernel_rfl)
    (of_decide_eq_true (by kernel_rfl)) (by unfold Func.isWrapper; first | (rw [if_pos (by decide +kernel)]; kernel_rfl) | (rw [if_neg (by decide +kernel)]; exact ⟨rfl, rfl⟩))
    (fun os started H enc _ => lifted os started H enc)
end Go.Proofs.Ytmhongcbgokilad.fnPrice
namespace Go.Proofs.Ytmhongcbgokilad
theorem FnPrice_holds : Rows.FnPriceSaid := fnPrice.over
end Go.Proofs.Ytmhongcbgokilad

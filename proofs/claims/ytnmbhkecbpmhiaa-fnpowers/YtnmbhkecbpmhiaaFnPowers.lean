/- For every code the law of powers and inverses answers true. No condition. -/
import Derived.Test.YtnmbhkecbpmhiaaRows
import Derived.WalkKit
import Derived.ProofKit
import Derived.OpenShut
import Derived.ShutString
import Derived.ChangeOld
import Derived.Below
import Derived.Test.YtnmbhkecbpmhiaaCurNum
import Derived.Test.YtnmbhkecbpmhiaaNumAll
namespace Go.Proofs.Ytnmbhkecbpmhiaa.fnPowers
open Go.ChangeShapes Go.WideShapes Go.ChangeAt Go.RowKit
open Go.ChangeMaps (open_string shut_string)
set_option linter.unusedVariables false

theorem own : ownKnob Try.prog.godebug = none := by kernel_rfl
theorem laidOut : laidOutB Try.prog = true := by kernel_rfl

def IsRow (k : IntKind) (w : World) (a : Option Addr) (len cap : Nat) (zs : List Int) : Prop :=
  (a = none ∧ len = 0 ∧ cap = 0 ∧ zs = []) ∨
  ∃ x, a = some x ∧ len ≤ cap ∧ cap ≤ maxLen ∧ zs.length = cap ∧ (∀ i, i < zs.length → w.cell? (x.add i) = some (.int k (zs.getD i 0))) ∧ ∀ n ∈ zs, (Lit.int k n).wf = true

theorem walk (a0 : Option Addr) (len0 cap0 : Nat) (z0 : List Int) (w : World) (w0 : IsRow .u8 w a0 len0 cap0 z0) :
    Calls Try.prog 3 #[.slice a0 len0 cap0] w fun e w' => e = .returned (.bool true) ∧ Below w.heap.size w w' := by
  by_cases hb : len0 ≤ 1048576
  · have B := Cur.bytes_of w a0 len0 cap0 z0 w0
    clear w0
    go_enter Try.func3, Try.ntmps3
    go_wp2_with fail
    refine (Cur.big_no a0 len0 cap0 _ hb).mono ?_
    rintro e w1 ⟨rfl, rfl⟩
    go_wp2_with fail
    refine (Cur.drawPowMod _ a0 len0 cap0 hb B).mono ?_
    rintro e w2 ⟨⟨a, n, m, rfl, ⟨ha0, ha1⟩, ⟨hn0, hn1⟩, ⟨hm0, hm1⟩⟩, L2⟩
    have B2 := B.on L2
    clear B
    go_wp2_with fail
    refine (Num.implPowMod_val a n m _).mono ?_
    rintro e w3 ⟨rfl, rfl⟩
    go_wp2_with fail
    refine (Num.specPowMod_val a n m _).mono ?_
    rintro e w4 ⟨rfl, D4⟩
    have B4 := B2.on (Cur.below_drawn _ D4)
    have L4 := Cur.below_join L2 (Cur.below_drawn _ D4)
    clear L2 D4 B2
    go_wp2_with fail
    refine (Num.implMod_val a m _).mono ?_
    rintro e w5 ⟨rfl, rfl⟩
    go_wp2_with fail
    refine (Num.specMod_val a m _).mono ?_
    rintro e w6 ⟨rfl, rfl⟩
    go_wp2_with fail
    refine (Cur.drawInverse _ a0 len0 cap0 hb B4).mono ?_
    rintro e w7 ⟨⟨b, k, rfl, ⟨hb0, hb1⟩, ⟨hk0, hk1⟩⟩, L7⟩
    have B7 := B4.on L7
    have L8 := Cur.below_join L4 L7
    clear B4 L4 L7
    go_wp2_with fail
    refine (Num.implInverse_val b k _).mono ?_
    rintro e w8 ⟨rfl, D8⟩
    have B8 := B7.on (Cur.below_drawn _ D8)
    have L9 := Cur.below_join L8 (Cur.below_drawn _ D8)
    clear D8 B7 L8
    go_wp2_with fail
    refine (Num.specInverse_val b k _).mono ?_
    rintro e w9 ⟨rfl, rfl⟩
    go_wp2
    cases hI : Num.invB b k
    · have HI : Hid (Num.invB b k = false) := hI
      clear hI
      go_quiet (fail)
      have BE0 : Cur.Bytes (w9.drewN nq) a0 len0 := B8.on (Cur.below_drawn _ ⟨nq, rfl⟩)
      have LE0 := Cur.below_join L9 (Cur.below_drawn (w1 := w9.drewN nq) _ ⟨nq, rfl⟩)
      clear B8 L9
      by_cases hM : Num.Meas k
      · have hk2 := hM.1
        have hk3 := hM.2
        have HG : Hid ((Num.gcdV (b % k) k == 1) = false) := (Num.invB_gcd b k hM).symm.trans HI.out
        have H1 : Hid (Num.modV 1 k = 1) := by
          show _ = _
          rw [Num.modV_yes 1 hM]
          exact Int.emod_eq_of_lt (by omega) (by omega)
        have H2 : Hid (Num.modV b k = b % k) := Num.modV_yes b hM
        clear hM
        go_wp2_with fail
        refine (Num.specMod_val 1 k _).mono ?_
        rw [H1.out]
        rintro e w10 ⟨rfl, rfl⟩
        go_wp2_with fail
        refine (Num.specMod_val b k _).mono ?_
        rw [H2.out]
        rintro e w11 ⟨rfl, rfl⟩
        go_wp2_with fail
        refine (Num.implGcd_val (b % k) k _).mono ?_
        have hg := HG.out
        generalize Num.gcdV (b % k) k = G at *
        rintro e w12 ⟨rfl, D12⟩
        have BE := BE0.on (Cur.below_drawn _ D12)
        have LE := Cur.below_join LE0 (Cur.below_drawn _ D12)
        clear BE0 LE0 D12
        by_cases hP : Num.PowOk n m
        · rw [Num.powV_yes a hP]
          obtain ⟨hp0, hp1⟩ := Math.pw_bd a m n.toNat hP.1
          have h1 := hP.1
          have h2 := hP.2.1
          have h3 := hP.2.2.1
          have h4 := hP.2.2.2
          have HPP : Hid (Num.PowOk n m) := hP
          clear hP
          generalize hX : Math.pw a n.toNat m = X at *
          have HX : Hid (Math.pw a n.toNat m = X) := hX
          clear hX
          go_wp2_with fail
          refine (Cur.at_any a0 len0 cap0 3 _ hb (by omega) BE).mono ?_
          rintro e w20 ⟨⟨k3, rfl, hk30, hk31⟩, rfl⟩
          by_cases hr : n < k3 * 1000
          · go_wp2_with fail
            refine (Num.implPowMod_yes a n m _ h1 h2 h3 h4).mono ?_
            rintro e w21 ⟨rfl, rfl⟩
            go_wp2_with fail
            refine (Num.implPowMod_yes a 0 m _ h1 h2 (by omega) (by omega)).mono ?_
            rintro e w22 ⟨rfl, rfl⟩
            go_wp2_with fail
            refine (Num.pow_split a m n n 0 _ HPP.out h3 (by omega) (by omega)).mono ?_
            rintro e w23 ⟨rfl, rfl⟩
            rw [HX.out]
            go_wp2
            go_ret
            exact ⟨by simp; try omega, LE⟩
          · go_wp2_with fail
            refine (Num.implPowMod_yes a (k3 * 1000) m _ h1 h2 (by omega) (by omega)).mono ?_
            rintro e w21 ⟨rfl, rfl⟩
            go_wp2_with fail
            refine (Num.implPowMod_yes a (n - k3 * 1000) m _ h1 h2 (by omega) (by omega)).mono ?_
            rintro e w22 ⟨rfl, rfl⟩
            go_wp2_with fail
            refine (Num.pow_split a m n (k3 * 1000) (n - k3 * 1000) _ HPP.out (by omega) (by omega) (by omega)).mono ?_
            rintro e w23 ⟨rfl, rfl⟩
            rw [HX.out]
            go_wp2
            go_ret
            exact ⟨by simp; try omega, LE⟩
        · rw [Num.powV_no a hP]
          clear hP
          go_wp2
          go_ret
          exact ⟨rfl, LE⟩
      · have H1 : Hid (Num.modV 1 k = -1) := Num.modV_no 1 hM
        clear hM
        go_wp2_with fail
        refine (Num.specMod_val 1 k _).mono ?_
        rw [H1.out]
        rintro e w10 ⟨rfl, rfl⟩
        have BE := BE0
        have LE := LE0
        clear BE0 LE0
        by_cases hP : Num.PowOk n m
        · rw [Num.powV_yes a hP]
          obtain ⟨hp0, hp1⟩ := Math.pw_bd a m n.toNat hP.1
          have h1 := hP.1
          have h2 := hP.2.1
          have h3 := hP.2.2.1
          have h4 := hP.2.2.2
          have HPP : Hid (Num.PowOk n m) := hP
          clear hP
          generalize hX : Math.pw a n.toNat m = X at *
          have HX : Hid (Math.pw a n.toNat m = X) := hX
          clear hX
          go_wp2_with fail
          refine (Cur.at_any a0 len0 cap0 3 _ hb (by omega) BE).mono ?_
          rintro e w20 ⟨⟨k3, rfl, hk30, hk31⟩, rfl⟩
          by_cases hr : n < k3 * 1000
          · go_wp2_with fail
            refine (Num.implPowMod_yes a n m _ h1 h2 h3 h4).mono ?_
            rintro e w21 ⟨rfl, rfl⟩
            go_wp2_with fail
            refine (Num.implPowMod_yes a 0 m _ h1 h2 (by omega) (by omega)).mono ?_
            rintro e w22 ⟨rfl, rfl⟩
            go_wp2_with fail
            refine (Num.pow_split a m n n 0 _ HPP.out h3 (by omega) (by omega)).mono ?_
            rintro e w23 ⟨rfl, rfl⟩
            rw [HX.out]
            go_wp2
            go_ret
            exact ⟨by simp; try omega, LE⟩
          · go_wp2_with fail
            refine (Num.implPowMod_yes a (k3 * 1000) m _ h1 h2 (by omega) (by omega)).mono ?_
            rintro e w21 ⟨rfl, rfl⟩
            go_wp2_with fail
            refine (Num.implPowMod_yes a (n - k3 * 1000) m _ h1 h2 (by omega) (by omega)).mono ?_
            rintro e w22 ⟨rfl, rfl⟩
            go_wp2_with fail
            refine (Num.pow_split a m n (k3 * 1000) (n - k3 * 1000) _ HPP.out (by omega) (by omega) (by omega)).mono ?_
            rintro e w23 ⟨rfl, rfl⟩
            rw [HX.out]
            go_wp2
            go_ret
            exact ⟨by simp; try omega, LE⟩
        · rw [Num.powV_no a hP]
          clear hP
          go_wp2
          go_ret
          exact ⟨rfl, LE⟩
    · have HI : Hid (Num.invB b k = true) := hI
      obtain ⟨hM, hi0, hi1, hmul⟩ := Num.invB_ok b k hI
      clear hI
      have hk2 := hM.1
      have hk3 := hM.2
      have HK : Hid (∀ w, Calls Try.prog 15 #[.int .i64 b, .int .i64 (Num.invI b k), .int .i64 k] w fun e w' => e = .returned (.int .i64 1) ∧ w' = w) := by
        intro w
        have h := Num.implMulMod_val b (Num.invI b k) k w
        rw [hmul] at h
        exact h
      clear hmul
      have HG : Hid ((Num.gcdV (b % k) k == 1) = true) := (Num.invB_gcd b k hM).symm.trans HI.out
      have H1 : Hid (Num.modV 1 k = 1) := by
        show _ = _
        rw [Num.modV_yes 1 hM]
        exact Int.emod_eq_of_lt (by omega) (by omega)
      have H2 : Hid (Num.modV b k = b % k) := Num.modV_yes b hM
      clear hM
      have h1k : (1 : Int) % k = 1 := Int.emod_eq_of_lt (by omega) (by omega)
      generalize Num.invI b k = I at *
      have hi0' : decide (I < 0) = false := by simp; omega
      have hi1' : decide (k ≤ I) = false := by simp; omega
      go_quiet ((go_at_call 15; exact Calls.quiet_of_same (HK.out _)))
      have BE0 : Cur.Bytes (w9.drewN nq) a0 len0 := B8.on (Cur.below_drawn _ ⟨nq, rfl⟩)
      have LE0 := Cur.below_join L9 (Cur.below_drawn (w1 := w9.drewN nq) _ ⟨nq, rfl⟩)
      clear B8 L9 h1k
      go_wp2_with fail
      refine (Num.specMod_val 1 k _).mono ?_
      rw [H1.out]
      rintro e w10 ⟨rfl, rfl⟩
      go_wp2_with fail
      refine (Num.specMod_val b k _).mono ?_
      rw [H2.out]
      rintro e w11 ⟨rfl, rfl⟩
      go_wp2_with fail
      refine (Num.implGcd_val (b % k) k _).mono ?_
      have hg := HG.out
      generalize Num.gcdV (b % k) k = G at *
      rintro e w12 ⟨rfl, D12⟩
      have BE := BE0.on (Cur.below_drawn _ D12)
      have LE := Cur.below_join LE0 (Cur.below_drawn _ D12)
      clear BE0 LE0 D12
      by_cases hP : Num.PowOk n m
      · rw [Num.powV_yes a hP]
        obtain ⟨hp0, hp1⟩ := Math.pw_bd a m n.toNat hP.1
        have h1 := hP.1
        have h2 := hP.2.1
        have h3 := hP.2.2.1
        have h4 := hP.2.2.2
        have HPP : Hid (Num.PowOk n m) := hP
        clear hP
        generalize hX : Math.pw a n.toNat m = X at *
        have HX : Hid (Math.pw a n.toNat m = X) := hX
        clear hX
        go_wp2_with fail
        refine (Cur.at_any a0 len0 cap0 3 _ hb (by omega) BE).mono ?_
        rintro e w20 ⟨⟨k3, rfl, hk30, hk31⟩, rfl⟩
        by_cases hr : n < k3 * 1000
        · go_wp2_with fail
          refine (Num.implPowMod_yes a n m _ h1 h2 h3 h4).mono ?_
          rintro e w21 ⟨rfl, rfl⟩
          go_wp2_with fail
          refine (Num.implPowMod_yes a 0 m _ h1 h2 (by omega) (by omega)).mono ?_
          rintro e w22 ⟨rfl, rfl⟩
          go_wp2_with fail
          refine (Num.pow_split a m n n 0 _ HPP.out h3 (by omega) (by omega)).mono ?_
          rintro e w23 ⟨rfl, rfl⟩
          rw [HX.out]
          go_wp2
          go_ret
          exact ⟨by simp; try omega, LE⟩
        · go_wp2_with fail
          refine (Num.implPowMod_yes a (k3 * 1000) m _ h1 h2 (by omega) (by omega)).mono ?_
          rintro e w21 ⟨rfl, rfl⟩
          go_wp2_with fail
          refine (Num.implPowMod_yes a (n - k3 * 1000) m _ h1 h2 (by omega) (by omega)).mono ?_
          rintro e w22 ⟨rfl, rfl⟩
          go_wp2_with fail
          refine (Num.pow_split a m n (k3 * 1000) (n - k3 * 1000) _ HPP.out (by omega) (by omega) (by omega)).mono ?_
          rintro e w23 ⟨rfl, rfl⟩
          rw [HX.out]
          go_wp2
          go_ret
          exact ⟨by simp; try omega, LE⟩
      · rw [Num.powV_no a hP]
        clear hP
        go_wp2
        go_ret
        exact ⟨rfl, LE⟩
  · go_enter Try.func3, Try.ntmps3
    go_wp2_with (go_at_call 6; refine (Cur.big_yes _ _ _ _ hb).mono ?_; rintro e w' ⟨rfl, rfl⟩)
    go_ret
    exact ⟨rfl, Below.refl _ _⟩

set_option maxRecDepth 100000 in
theorem lifted (os : Os) (started : os.Started) (H : Type) (enc : TypeId × Value → H) :
    ReturnsInHanded {} Try.checked os 3 .any (Rows.fnPowersSpec.pre6 enc Try.prog Try.f3 Rows.fnPowersRow.domain false) (Rows.fnPowersSpec.post enc Try.prog Try.f3 false true false false) := by
  refine returnsInHanded_of_change (C := Try.checked) own started (by kernel_rfl) Try.func3
    (ChangeSpec.witness6 (enc := enc) (C := Try.checked) false ⟨#[], #[.slice none 0 0], []⟩ 8 (by kernel_rfl) (by kernel_rfl) (by kernel_rfl) (by kernel_rfl)) ?_
  intro W base args ds gs before hval0 hW hcnd _
  have hval : ∀ (j : Nat) t v, Try.f3.params[j]? = some t → args[j]? = some v → Value.okWide Try.prog W .any base t v := hval0
  have hW' := hW
  obtain ⟨p, q, hA0, hV, rfl, hfz, hnd⟩ := hW
  have hA : DataW.TrodAll enc Try.prog W 0 (fun _ => true) true Try.f3.params.toList args.toList ds p := hA0
  rw [Try.params3] at hA hval
  obtain ⟨v0, vs0, d0, ds0, p0, q0, hargs, rfl, rfl, h0, r0⟩ := trodAll_cons hA
  obtain ⟨rfl, rfl, rfl⟩ := trodAll_nil r0
  obtain rfl : args = #[v0] := by cases args; simp_all
  obtain ⟨rfl, rfl⟩ := trodVars_none hV
  obtain ⟨a0, len0, cap0, rfl⟩ := okWide_slice Try.underlying22 (hval 0 22 v0 rfl rfl)
  have k0 := h0
  have lt0 : ∀ x ∈ p0, x.block < W.heap.size := by obtain ⟨m, hm⟩ := k0; exact DataW.trod_lt m _ _ _ hm
  obtain ⟨z0, w0⟩ : ∃ zs, IsRow .u8 W a0 len0 cap0 zs := by
    obtain ⟨fuel, hf⟩ := h0
    rcases open_ints Try.underlying22 Try.underlying5 (by kernel_rfl) hf with ⟨hcs, _⟩ | ⟨x, l, c, zs, hcs, _, hl, hm, hz, _, hcell, hwz⟩
    · simp [Value.cells] at hcs
      obtain ⟨rfl, rfl, rfl⟩ := hcs
      exact ⟨[], .inl ⟨rfl, rfl, rfl, rfl⟩⟩
    · simp [Value.cells] at hcs
      obtain ⟨rfl, rfl, rfl⟩ := hcs
      exact ⟨zs, .inr ⟨_, rfl, hl, hm, by simpa using hz, hcell, hwz⟩⟩
  clear hA0 hval0
  refine (walk a0 len0 cap0 z0 W w0).mono fun e W' ⟨he, bel⟩ => ?_
  subst he
  exact ⟨_, rfl, _, _, _, [], _, [], hW', trodAll_mk1 (shut_bool Try.underlying4 _), (trodAll_cons_mk (Below.trod laidOut (by kernel_rfl) (of_decide_eq_true (by kernel_rfl)) k0 bel lt0) trodAll_mk0), rfl, bel.frame _, fun h => by cases h⟩

theorem over : Rows.fnPowersRow.holds Try.pinned (OpenSpec.ofChange Rows.fnPowersSpec) :=
  OpenClaim.holds_of_wide 3 Try.f3 rfl rfl rfl rfl rfl rfl rfl ⟨rfl, rfl, rfl, rfl, rfl⟩ rfl rfl rfl rfl rfl (by kernel_rfl) Try.func3 (by kernel_rfl)
    (of_decide_eq_true (by kernel_rfl)) (by unfold Func.isWrapper; first | (rw [if_pos (by decide +kernel)]; kernel_rfl) | (rw [if_neg (by decide +kernel)]; exact ⟨rfl, rfl⟩))
    (fun os started H enc _ => lifted os started H enc)

theorem proved : Rows.FnPowersSaid := over
end Go.Proofs.Ytnmbhkecbpmhiaa.fnPowers
namespace Go.Proofs.Ytnmbhkecbpmhiaa
theorem FnPowers_holds : Rows.FnPowersSaid := fnPowers.proved
end Go.Proofs.Ytnmbhkecbpmhiaa

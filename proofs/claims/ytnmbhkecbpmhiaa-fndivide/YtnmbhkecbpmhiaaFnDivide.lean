/- For every code the law of divisors and primes answers true. No condition. -/
import Derived.Test.YtnmbhkecbpmhiaaRows
import Derived.WalkKit
import Derived.ProofKit
import Derived.OpenShut
import Derived.ShutString
import Derived.ChangeOld
import Derived.Below
import Derived.Test.YtnmbhkecbpmhiaaCurNum
import Derived.Test.YtnmbhkecbpmhiaaNumAll
namespace Go.Proofs.Ytnmbhkecbpmhiaa.fnDivide
open Go.ChangeShapes Go.WideShapes Go.ChangeAt Go.RowKit
open Go.ChangeMaps (open_string shut_string)
set_option linter.unusedVariables false

theorem own : ownKnob Try.prog.godebug = none := by kernel_rfl
theorem laidOut : laidOutB Try.prog = true := by kernel_rfl

def IsRow (k : IntKind) (w : World) (a : Option Addr) (len cap : Nat) (zs : List Int) : Prop :=
  (a = none ∧ len = 0 ∧ cap = 0 ∧ zs = []) ∨
  ∃ x, a = some x ∧ len ≤ cap ∧ cap ≤ maxLen ∧ zs.length = cap ∧ (∀ i, i < zs.length → w.cell? (x.add i) = some (.int k (zs.getD i 0))) ∧ ∀ n ∈ zs, (Lit.int k n).wf = true

theorem walk (a0 : Option Addr) (len0 cap0 : Nat) (z0 : List Int) (w : World) (w0 : IsRow .u8 w a0 len0 cap0 z0) :
    Calls Try.prog 4 #[.slice a0 len0 cap0] w fun e w' => e = .returned (.bool true) ∧ Below w.heap.size w w' := by
  by_cases hb : len0 ≤ 1048576
  · have B := Cur.bytes_of w a0 len0 cap0 z0 w0
    clear w0
    go_enter Try.func4, Try.ntmps4
    go_wp2_with fail
    refine (Cur.big_no a0 len0 cap0 _ hb).mono ?_
    rintro e w1 ⟨rfl, rfl⟩
    go_wp2_with fail
    refine (Cur.drawGcd _ a0 len0 cap0 hb B).mono ?_
    rintro e w2 ⟨⟨x, y, rfl, hx, hy⟩, L2⟩
    have B2 := B.on L2
    obtain ⟨hx0, hx1⟩ := hx
    obtain ⟨hy0, hy1⟩ := hy
    go_wp2_with fail
    refine (Num.implGcd_val x y _).mono ?_
    rintro e w3 ⟨rfl, D3⟩
    have B3 := B2.on (Cur.below_drawn _ D3)
    go_wp2_with fail
    refine (Num.specGcd_val x y _).mono ?_
    rintro e w4 ⟨rfl, rfl⟩
    go_wp2_with fail
    refine (Num.implGcd_val y x _).mono ?_
    rw [Num.gcdV_comm x y]
    rintro e w5 ⟨rfl, D5⟩
    have B5 := B3.on (Cur.below_drawn _ D5)
    have L5 := Cur.below_join (Cur.below_join L2 (Cur.below_drawn _ D3)) (Cur.below_drawn _ D5)
    clear L2 D3 D5 B2 B3 B
    by_cases hg : 0 < Num.gcdV x y
    · obtain ⟨g1, g2, g3, g4, g5, g6⟩ := Num.gcdV_pos x y hg
      have HK : Hid (∀ w, Calls Try.prog 16 #[.int .i64 (x / Num.gcdV x y), .int .i64 (y / Num.gcdV x y)] w fun e w' => e = .returned (.int .i64 1) ∧ Num.Drawn w w') := by
        intro w
        have h := Num.implGcd_val (x / Num.gcdV x y) (y / Num.gcdV x y) w
        rw [g6] at h
        exact h
      clear g6
      generalize Num.gcdV x y = g at *
      have g4' : (x % g != 0) = false := by rw [g4]; rfl
      have g5' : (y % g != 0) = false := by rw [g5]; rfl
      clear g4 g5
      have hg' : decide (0 < g) = true := decide_eq_true hg
      go_wp2
      go_quiet ((go_at_call 16; exact Calls.quiet_of (HK.out _)))
      have B6 : Cur.Bytes (w5.drewN nq) a0 len0 := B5.on (Cur.below_drawn _ ⟨nq, rfl⟩)
      have L6 := Cur.below_join L5 (Cur.below_drawn (w1 := w5.drewN nq) _ ⟨nq, rfl⟩)
      clear L5 B5 HK g4' g5'
      go_wp2_with fail
      refine (Cur.drawPrime _ a0 len0 cap0 hb B6).mono ?_
      rintro e w7 ⟨⟨n, rfl, hn0, hn1⟩, L7⟩
      have B7 := B6.on L7
      have L8 := Cur.below_join L6 L7
      clear L6 L7 B6
      go_wp2_with fail
      refine (Num.implPrime_val n _).mono ?_
      rintro e w8 ⟨rfl, rfl⟩
      go_wp2_with fail
      refine (Num.specPrime_val n _).mono ?_
      rintro e w9 ⟨rfl, rfl⟩
      cases hP : Num.primeV n
      · have HP : Hid (Num.primeV n = false) := hP
        clear hP
        go_wp2_with fail
        refine (Cur.at_any a0 len0 cap0 3 _ hb (by omega) B7).mono ?_
        rintro e w10 ⟨⟨k, rfl, hk0, hk1⟩, rfl⟩
        go_wp2
        go_ret
        exact ⟨rfl, L8⟩
      · have hq := Num.primeV_ok n
        have hm := Num.primeV_meas n hP
        have HQ : Hid (∀ k : Int, 2 ≤ k → k < n → n % k ≠ 0) := fun k => hq k hP
        obtain ⟨hm0, hm1⟩ := hm
        clear hq hP
        go_wp2_with fail
        refine (Cur.at_any a0 len0 cap0 3 _ hb (by omega) B7).mono ?_
        rintro e w10 ⟨⟨k, rfl, hk0, hk1⟩, rfl⟩
        by_cases hkn : n ≤ 2 + k * 7
        · go_wp2
          go_ret
          exact ⟨rfl, L8⟩
        · have hz := HQ.out (2 + k * 7) (by omega) (by omega)
          have hz' : (n % (2 + k * 7) != 0) = true := by rw [bne_iff_ne]; exact hz
          clear hz
          go_wp2
          go_ret
          exact ⟨rfl, L8⟩
    · generalize Num.gcdV x y = g at *
      have hg' : decide (0 < g) = false := decide_eq_false hg
      go_wp2
      go_quiet (fail)
      have B6 : Cur.Bytes (w5.drewN nq) a0 len0 := B5.on (Cur.below_drawn _ ⟨nq, rfl⟩)
      have L6 := Cur.below_join L5 (Cur.below_drawn (w1 := w5.drewN nq) _ ⟨nq, rfl⟩)
      clear L5 B5
      go_wp2_with fail
      refine (Cur.drawPrime _ a0 len0 cap0 hb B6).mono ?_
      rintro e w7 ⟨⟨n, rfl, hn0, hn1⟩, L7⟩
      have B7 := B6.on L7
      have L8 := Cur.below_join L6 L7
      clear L6 L7 B6
      go_wp2_with fail
      refine (Num.implPrime_val n _).mono ?_
      rintro e w8 ⟨rfl, rfl⟩
      go_wp2_with fail
      refine (Num.specPrime_val n _).mono ?_
      rintro e w9 ⟨rfl, rfl⟩
      cases hP : Num.primeV n
      · have HP : Hid (Num.primeV n = false) := hP
        clear hP
        go_wp2_with fail
        refine (Cur.at_any a0 len0 cap0 3 _ hb (by omega) B7).mono ?_
        rintro e w10 ⟨⟨k, rfl, hk0, hk1⟩, rfl⟩
        go_wp2
        go_ret
        exact ⟨rfl, L8⟩
      · have hq := Num.primeV_ok n
        have hm := Num.primeV_meas n hP
        have HQ : Hid (∀ k : Int, 2 ≤ k → k < n → n % k ≠ 0) := fun k => hq k hP
        obtain ⟨hm0, hm1⟩ := hm
        clear hq hP
        go_wp2_with fail
        refine (Cur.at_any a0 len0 cap0 3 _ hb (by omega) B7).mono ?_
        rintro e w10 ⟨⟨k, rfl, hk0, hk1⟩, rfl⟩
        by_cases hkn : n ≤ 2 + k * 7
        · go_wp2
          go_ret
          exact ⟨rfl, L8⟩
        · have hz := HQ.out (2 + k * 7) (by omega) (by omega)
          have hz' : (n % (2 + k * 7) != 0) = true := by rw [bne_iff_ne]; exact hz
          clear hz
          go_wp2
          go_ret
          exact ⟨rfl, L8⟩
  · go_enter Try.func4, Try.ntmps4
    go_wp2_with (go_at_call 6; refine (Cur.big_yes _ _ _ _ hb).mono ?_; rintro e w' ⟨rfl, rfl⟩)
    go_ret
    exact ⟨rfl, Below.refl _ _⟩

set_option maxRecDepth 100000 in
theorem lifted (os : Os) (started : os.Started) (H : Type) (enc : TypeId × Value → H) :
    ReturnsInHanded {} Try.checked os 4 .any (Rows.fnDivideSpec.pre6 enc Try.prog Try.f4 Rows.fnDivideRow.domain false) (Rows.fnDivideSpec.post enc Try.prog Try.f4 false true false false) := by
  refine returnsInHanded_of_change (C := Try.checked) own started (by kernel_rfl) Try.func4
    (ChangeSpec.witness6 (enc := enc) (C := Try.checked) false ⟨#[], #[.slice none 0 0], []⟩ 8 (by kernel_rfl) (by kernel_rfl) (by kernel_rfl) (by kernel_rfl)) ?_
  intro W base args ds gs before hval0 hW hcnd _
  have hval : ∀ (j : Nat) t v, Try.f4.params[j]? = some t → args[j]? = some v → Value.okWide Try.prog W .any base t v := hval0
  have hW' := hW
  obtain ⟨p, q, hA0, hV, rfl, hfz, hnd⟩ := hW
  have hA : DataW.TrodAll enc Try.prog W 0 (fun _ => true) true Try.f4.params.toList args.toList ds p := hA0
  rw [Try.params4] at hA hval
  obtain ⟨v0, vs0, d0, ds0, p0, q0, hargs, rfl, rfl, h0, r0⟩ := trodAll_cons hA
  obtain ⟨rfl, rfl, rfl⟩ := trodAll_nil r0
  obtain rfl : args = #[v0] := by cases args; simp_all
  obtain ⟨rfl, rfl⟩ := trodVars_none hV
  obtain ⟨a0, len0, cap0, rfl⟩ := okWide_slice Try.underlying22 (hval 0 22 v0 rfl rfl)
  have k0 := h0
  have lt0 : ∀ x ∈ p0, x.block < W.heap.size := by obtain ⟨m, hm⟩ := k0; exact DataW.trod_lt m _ _ _ hm
  obtain ⟨z0, w0⟩ : ∃ zs, IsRow .u8 W a0 len0 cap0 zs := by
    obtain ⟨fuel, hf⟩ := h0
    rcases open_ints Try.underlying22 Try.underlying5 (by kernel_rfl) hf with ⟨hcs, _⟩ | ⟨x, l, c, zs, hcs, _, hl, hm, hz, _, hcell, hwz⟩
    · simp [Value.cells] at hcs
      obtain ⟨rfl, rfl, rfl⟩ := hcs
      exact ⟨[], .inl ⟨rfl, rfl, rfl, rfl⟩⟩
    · simp [Value.cells] at hcs
      obtain ⟨rfl, rfl, rfl⟩ := hcs
      exact ⟨zs, .inr ⟨_, rfl, hl, hm, by simpa using hz, hcell, hwz⟩⟩
  clear hA0 hval0
  refine (walk a0 len0 cap0 z0 W w0).mono fun e W' ⟨he, bel⟩ => ?_
  subst he
  exact ⟨_, rfl, _, _, _, [], _, [], hW', trodAll_mk1 (shut_bool Try.underlying4 _), (trodAll_cons_mk (Below.trod laidOut (by kernel_rfl) (of_decide_eq_true (by kernel_rfl)) k0 bel lt0) trodAll_mk0), rfl, bel.frame _, fun h => by cases h⟩

theorem over : Rows.fnDivideRow.holds Try.pinned (OpenSpec.ofChange Rows.fnDivideSpec) :=
  OpenClaim.holds_of_wide 4 Try.f4 rfl rfl rfl rfl rfl rfl rfl ⟨rfl, rfl, rfl, rfl, rfl⟩ rfl rfl rfl rfl rfl (by kernel_rfl) Try.func4 (by kernel_rfl)
    (of_decide_eq_true (by kernel_rfl)) (by unfold Func.isWrapper; first | (rw [if_pos (by decide +kernel)]; kernel_rfl) | (rw [if_neg (by decide +kernel)]; exact ⟨rfl, rfl⟩))
    (fun os started H enc _ => lifted os started H enc)

theorem proved : Rows.FnDivideSaid := over
end Go.Proofs.Ytnmbhkecbpmhiaa.fnDivide
namespace Go.Proofs.Ytnmbhkecbpmhiaa
theorem FnDivide_holds : Rows.FnDivideSaid := fnDivide.proved
end Go.Proofs.Ytnmbhkecbpmhiaa

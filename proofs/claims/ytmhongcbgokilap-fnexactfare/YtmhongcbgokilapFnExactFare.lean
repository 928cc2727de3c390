/- For every list of edges, every two numbers of stations, every class and every card the law of Fare answers true: the program's Fare and its model return the same, and no edge of the list is turned. No condition. -/
import Derived.Test.YtmhongcbgokilapErrs
import Derived.ShutString
import Derived.Lib.SmallJoins
import Derived.Test.YtmhongcbgokilapTfOpen
import Derived.Test.YtmhongcbgokilapTfFare
namespace Go.Proofs.Ytmhongcbgokilap.fnExactFare
open Go.ChangeShapes Go.WideShapes Go.ChangeAt Go.RowKit Go.Joins
open Go.ChangeMaps (open_string shut_string)
set_option linter.unusedVariables false

set_option maxRecDepth 100000 in
set_option maxHeartbeats 4000000 in
theorem walk (a0 : Option Addr) (cap0 : Nat) (z0 : List Tf.Ed) (a1 : Int) (w1 : (Lit.int .i64 a1).wf = true) (a2 : Int) (w2 : (Lit.int .i64 a2).wf = true) (a3 : Int) (w3 : (Lit.int .i64 a3).wf = true) (a4 : Int) (w4 : (Lit.int .i64 a4).wf = true) (w : World) (w0 : Tf.Edges w a0 z0 ∧ z0.length ≤ maxLen)  :
    Calls Try.prog 3 #[.slice a0 z0.length cap0, .int .i64 a1, .int .i64 a2, .int .i64 a3, .int .i64 a4] w fun e w' => e = .returned (.bool true) ∧ Below w.heap.size w w' := by
  obtain ⟨I, hm⟩ := w0
  have HM : Hid (z0.length ≤ maxLen) := hm
  by_cases hb : z0.length ≤ 1048576
  · have hz : z0.length ≤ 1048576 := hb
    have hd : decide (1048576 - (z0.length : Int) < 0) = false := decide_eq_false (by omega)
    clear hm
    go_enter Try.func3, Try.ntmps3
    go_wp2_with fail
    refine (Tf.szEdgeS_yes a0 z0.length cap0 1048576 _ (by omega) (by omega)).mono ?_
    rintro e w1 ⟨rfl, rfl⟩
    go_wp2_with fail
    refine (Tf.toEdgeS_val a0 z0 cap0 _ hz I).mono ?_
    rintro e w2 ⟨rfl, L2, I2, -, -⟩
    go_wp2_with fail
    refine (Tf.specFare_val _ z0 _ a1 a2 a3 a4 _ HM.out I2).mono ?_
    rintro e w3 ⟨fA, fS, hx, rfl, L3⟩
    have K3 := Pk.join_below L2 L3
    clear I2 L2 L3
    go_wp2_with fail
    refine (Tf.toEdgeS_val a0 z0 cap0 _ hz (I.on K3)).mono ?_
    rintro e w4 ⟨rfl, L4, I4, -, -⟩
    have K4 := Pk.join_below K3 L4
    clear K3 L4
    go_wp2_with fail
    refine (Tf.implFare_val _ z0 _ a1 a2 a3 a4 _ HM.out I4).mono ?_
    rintro e w5 ⟨gA, gS, hy, rfl, L5⟩
    obtain ⟨rfl, rfl⟩ := Tf.far_one hx hy
    have I5 := I4.on L5
    have K5 := Pk.join_below K4 L5
    clear I4 K4 L5 hx hy
    go_wp2_with fail
    refine (Tf.toEdgeS_val a0 z0 cap0 _ hz (I.on K5)).mono ?_
    rintro e w6 ⟨rfl, L6, I6, -, -⟩
    have J6 := I5.on L6
    have K6 := Pk.join_below K5 L6
    go_wp2_with fail
    refine (Tf.eqEdgeS_same _ _ z0 _ _ _ hz J6 I6).mono ?_
    rintro e w7 ⟨rfl, L7⟩
    have K7 := Pk.join_below K6 L7
    go_wp2
    go_ret
    exact ⟨rfl, K7⟩
  · have HB : Hid (¬ z0.length ≤ 1048576) := hb
    clear hm hb
    go_enter Try.func3, Try.ntmps3
    go_wp2_with fail
    refine (Tf.szEdgeS_no a0 z0.length cap0 1048576 _ (by omega) (by omega) HM.out (by have := HB.out; omega)).mono ?_
    rintro e w1 ⟨rfl, rfl⟩
    go_wp2
    go_ret
    exact ⟨rfl, Below.refl _ _⟩

set_option maxRecDepth 100000 in
theorem contract (H : Type) (enc : TypeId × Value → H) (W : World) (base : Nat) (args : Array Value) (ds gs : List (DataW H)) (before : List MemPlace)
    (hval : ∀ (j : Nat) t v, Try.f3.params[j]? = some t → args[j]? = some v → Value.okWide Try.prog W .any base t v)
    (hW : DataW.Whole enc Try.prog Try.f3.params.toList Rows.fnExactFareSpec.vars false W args.toList ds gs before) :
    Calls Try.prog 3 args W fun e W' => ∃ v, e = .returned v ∧ Rows.fnExactFareSpec.post enc Try.prog Try.f3 false true false false W args v W' := by
  have hW' := hW
  obtain ⟨p, q, hA0, hV, rfl, hfz, hnd⟩ := hW
  have hA : DataW.TrodAll enc Try.prog W 0 (fun _ => true) true Try.f3.params.toList args.toList ds p := hA0
  rw [Try.params3] at hA hval
  obtain ⟨v0, vs0, d0, ds0, p0, q0, hargs, rfl, rfl, h0, r0⟩ := trodAll_cons hA
  obtain ⟨v1, vs1, d1, ds1, p1, q1, rfl, rfl, rfl, h1, r1⟩ := trodAll_cons r0
  obtain ⟨v2, vs2, d2, ds2, p2, q2, rfl, rfl, rfl, h2, r2⟩ := trodAll_cons r1
  obtain ⟨v3, vs3, d3, ds3, p3, q3, rfl, rfl, rfl, h3, r3⟩ := trodAll_cons r2
  obtain ⟨v4, vs4, d4, ds4, p4, q4, rfl, rfl, rfl, h4, r4⟩ := trodAll_cons r3
  obtain ⟨rfl, rfl, rfl⟩ := trodAll_nil r4
  obtain rfl : args = #[v0, v1, v2, v3, v4] := by cases args; simp_all
  obtain ⟨rfl, rfl⟩ := trodVars_none hV
  have k0 := h0
  have lt0 : ∀ x ∈ p0, x.block < W.heap.size := by obtain ⟨m, hm⟩ := k0; exact DataW.trod_lt m _ _ _ hm
  obtain ⟨a0, len0, cap0, rfl⟩ := okWide_slice Try.underlying22 (hval 0 22 v0 rfl rfl)
  obtain ⟨z0, w0, rfl⟩ : ∃ zs : List Tf.Ed, (Tf.Edges W a0 zs ∧ zs.length ≤ maxLen) ∧ zs.length = len0 := by
    obtain ⟨fuel, hf⟩ := h0
    obtain ⟨a, cap, ts, e, hh⟩ := Tf.edges_open hf
    simp [Value.cells] at e
    obtain ⟨rfl, rfl, rfl⟩ := e
    exact ⟨ts, ⟨hh.2, hh.1⟩, rfl⟩
  have k1 := h1
  have lt1 : ∀ x ∈ p1, x.block < W.heap.size := by obtain ⟨m, hm⟩ := k1; exact DataW.trod_lt m _ _ _ hm
  obtain ⟨a1, rfl, rfl, rfl, w1⟩ := open_int Try.underlying3 (hval 1 3 v1 rfl rfl) h1
  have k2 := h2
  have lt2 : ∀ x ∈ p2, x.block < W.heap.size := by obtain ⟨m, hm⟩ := k2; exact DataW.trod_lt m _ _ _ hm
  obtain ⟨a2, rfl, rfl, rfl, w2⟩ := open_int Try.underlying3 (hval 2 3 v2 rfl rfl) h2
  have k3 := h3
  have lt3 : ∀ x ∈ p3, x.block < W.heap.size := by obtain ⟨m, hm⟩ := k3; exact DataW.trod_lt m _ _ _ hm
  obtain ⟨a3, rfl, rfl, rfl, w3⟩ := open_int Try.underlying3 (hval 3 3 v3 rfl rfl) h3
  have k4 := h4
  have lt4 : ∀ x ∈ p4, x.block < W.heap.size := by obtain ⟨m, hm⟩ := k4; exact DataW.trod_lt m _ _ _ hm
  obtain ⟨a4, rfl, rfl, rfl, w4⟩ := open_int Try.underlying3 (hval 4 3 v4 rfl rfl) h4
  clear hA0
  refine (walk a0 cap0 z0 a1 w1 a2 w2 a3 w3 a4 w4 W w0 ).mono fun e W' ⟨he, bel⟩ => ?_
  subst he
  exact ⟨_, rfl, _, _, _, [], _, [], hW', trodAll_mk1 (shut_bool Try.underlying4 _), (trodAll_cons_mk (Below.trod Errs.laidOut (by kernel_rfl) (of_decide_eq_true (by kernel_rfl)) k0 bel lt0) (trodAll_cons_mk (Below.trod Errs.laidOut (by kernel_rfl) (of_decide_eq_true (by kernel_rfl)) k1 bel lt1) (trodAll_cons_mk (Below.trod Errs.laidOut (by kernel_rfl) (of_decide_eq_true (by kernel_rfl)) k2 bel lt2) (trodAll_cons_mk (Below.trod Errs.laidOut (by kernel_rfl) (of_decide_eq_true (by kernel_rfl)) k3 bel lt3) (trodAll_cons_mk (Below.trod Errs.laidOut (by kernel_rfl) (of_decide_eq_true (by kernel_rfl)) k4 bel lt4) trodAll_mk0))))), rfl, bel.frame _, fun h => by cases h⟩

set_option maxRecDepth 100000 in
theorem lifted (os : Os) (started : os.Started) (H : Type) (enc : TypeId × Value → H) :
    ReturnsInHanded {} Try.checked os 3 .any (Rows.fnExactFareSpec.pre6 enc Try.prog Try.f3 Rows.fnExactFareRow.domain false) (Rows.fnExactFareSpec.post enc Try.prog Try.f3 false true false false) := by
  refine returnsInHanded_of_change (C := Try.checked) Errs.own started (by kernel_rfl) Try.func3
    (ChangeSpec.witness6 (enc := enc) (C := Try.checked) false ⟨#[], #[.slice none 0 0, .int .i64 0, .int .i64 0, .int .i64 0, .int .i64 0], []⟩ 8 (by kernel_rfl) (by kernel_rfl) (by kernel_rfl) (by kernel_rfl)) ?_
  intro W base args ds gs before hval hW _ _
  exact contract H enc W base args ds gs before hval hW

set_option maxRecDepth 100000 in
theorem over : Rows.fnExactFareRow.holds Try.pinned (OpenSpec.ofChange Rows.fnExactFareSpec) :=
  OpenClaim.holds_of_wide 3 Try.f3 rfl rfl rfl rfl rfl rfl rfl ⟨rfl, rfl, rfl, rfl, rfl⟩ rfl rfl rfl rfl rfl (by kernel_rfl) Try.func3 (by kernel_rfl)
    (of_decide_eq_true (by kernel_rfl)) (by unfold Func.isWrapper; first | (rw [if_pos (by decide +kernel)]; kernel_rfl) | (rw [if_neg (by decide +kernel)]; exact ⟨rfl, rfl⟩))
    (fun os started H enc _ => lifted os started H enc)
end Go.Proofs.Ytmhongcbgokilap.fnExactFare
namespace Go.Proofs.Ytmhongcbgokilap
theorem FnExactFare_holds : Rows.FnExactFareSaid := fnExactFare.over
end Go.Proofs.Ytmhongcbgokilap

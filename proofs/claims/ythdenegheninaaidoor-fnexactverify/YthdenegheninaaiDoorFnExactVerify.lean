/- For every parameters, open key, text and mark the law of Verify answers true: the program's Verify and its model return the same. The errors of the program's own variables are as its text lays them (the card ties them; over a pruned copy of the project). -/
import Derived.Test.YthdenegheninaaiDoorErrs
import Derived.ShutString
import Derived.Lib.SmallJoins
import Derived.Test.YthdenegheninaaiDoorCards
import Derived.Test.YthdenegheninaaiDoorTie
import Derived.Test.YthdenegheninaaiDoorSignVerify
import Derived.Test.YthdenegheninaaiDoorSignText
namespace Go.Proofs.YthdenegheninaaiDoor.fnExactVerify
open Go.ChangeShapes Go.WideShapes Go.ChangeAt Go.RowKit Go.Joins
open Go.ChangeMaps (open_string shut_string)
set_option linter.unusedVariables false

set_option maxHeartbeats 4000000 in
theorem walk (a0_0 : Int) (w0_0 : (Lit.int .i64 a0_0).wf = true) (a0_1 : Int) (w0_1 : (Lit.int .i64 a0_1).wf = true) (a0_2 : Int) (w0_2 : (Lit.int .i64 a0_2).wf = true) (a1 : Int) (w1 : (Lit.int .i64 a1).wf = true) (a2 : ByteArray) (w2 : a2.size ≤ maxLen) (a3_0 : Int) (w3_0 : (Lit.int .i64 a3_0).wf = true) (a3_1 : Int) (w3_1 : (Lit.int .i64 a3_1).wf = true) (w : World)  (E_errParams : Errs.ErrAt 1 w) (E_errOpen : Errs.ErrAt 4 w) (E_errMark : Errs.ErrAt 5 w) (E_errText : Errs.ErrAt 3 w) :
    Calls Tryd.prog 6 #[.agg #[.int .i64 a0_0, .int .i64 a0_1, .int .i64 a0_2], .int .i64 a1, .string a2, .agg #[.int .i64 a3_0, .int .i64 a3_1]] w fun e w' => e = .returned (.bool true) ∧ Below w.heap.size w w' := by
  by_cases hb : a2.size ≤ 1048576
  · obtain ⟨L0, b1, b2⟩ := Num.two_new w (.cells #[.int .i64 a0_0, .int .i64 a0_1, .int .i64 a0_2] 23) (.cells #[.int .i64 a3_0, .int .i64 a3_1] 41)
    go_enter Tryd.func6, Tryd.ntmps6
    go_wp2
    go_region_with (first
      | (go_at_call 8; refine (Num.toParams_val a0_0 a0_1 a0_2 _).mono ?_; rintro e x1 ⟨rfl, L1⟩; have L1 := Num.undrew L1; have hA := Num.kept_new L1 b1; have hB := Num.kept_new L1 b2; have L2 := Num.join_below L0 L1; have m0 : x1.cell? ⟨w.heap.size + 1, 0, none⟩ = some (.int .i64 a3_0) := Num.cell_at hB 0; have m1 : x1.cell? ⟨w.heap.size + 1, 1, none⟩ = some (.int .i64 a3_1) := Num.cell_at hB 1; clear L1)
      | (go_at_call 18; refine (Num.toMark_val a3_0 a3_1 _).mono ?_; rintro e x2 ⟨rfl, L3⟩)
      | (go_at_call 17; refine (Num.specVerify_val a0_0 a0_1 a0_2 a1 a3_0 a3_1 a2 _ w2).mono ?_; rintro e x3 ⟨rfl, L4⟩))
    all_goals
      have L5 := Num.join_below L3 L4
      have hA3 := Num.kept_new L5 hA
      have hB3 := Num.kept_new L5 hB
      have L6 := Num.join_below L2 L5
      clear hA hB L2 L3 L4 L5 m0 m1 L0 b1 b2
      have c0 : x3.cell? ⟨w.heap.size, 0, none⟩ = some (.int .i64 a0_0) := Num.cell_at hA3 0
      have c1 : x3.cell? ⟨w.heap.size, 1, none⟩ = some (.int .i64 a0_1) := Num.cell_at hA3 1
      have c2 : x3.cell? ⟨w.heap.size, 2, none⟩ = some (.int .i64 a0_2) := Num.cell_at hA3 2
      have c3 : x3.cell? ⟨w.heap.size + 1, 0, none⟩ = some (.int .i64 a3_0) := Num.cell_at hB3 0
      have c4 : x3.cell? ⟨w.heap.size + 1, 1, none⟩ = some (.int .i64 a3_1) := Num.cell_at hB3 1
      go_wp2
      go_region_with (first
        | (go_at_call 8; refine (Num.toParams_val a0_0 a0_1 a0_2 _).mono ?_; rintro e x4 ⟨rfl, L7⟩; have L7 := Num.undrew L7; have hB4 := Num.kept_new L7 hB3; have L8 := Num.join_below L6 L7; have m0 : x4.cell? ⟨w.heap.size + 1, 0, none⟩ = some (.int .i64 a3_0) := Num.cell_at hB4 0; have m1 : x4.cell? ⟨w.heap.size + 1, 1, none⟩ = some (.int .i64 a3_1) := Num.cell_at hB4 1; clear L7)
        | (go_at_call 18; refine (Num.toMark_val a3_0 a3_1 _).mono ?_; rintro e x5 ⟨rfl, L9⟩; have L10 := Num.join_below L8 L9)
        | (go_at_call 19; refine (Num.implVerify_val a0_0 a0_1 a0_2 a1 a3_0 a3_1 a2 _ w2 ?_ ?_ ?_ ?_).mono ?_; (exact E_errParams.on L10); (exact E_errOpen.on L10); (exact E_errMark.on L10); (exact E_errText.on L10); rintro e x6 ⟨rfl, L11⟩))
      all_goals
        have L12 := Num.join_below L10 L11
        clear L10 L11 L9 L8 hB4 m0 m1 c0 c1 c2 c3 c4 hA3 hB3 L6
        generalize Num.verV a0_0 a0_1 a0_2 a1 a3_0 a3_1 a2 = b
        cases b
        all_goals
          go_wp2
          go_ret
          exact ⟨rfl, L12⟩
  · go_enter Tryd.func6, Tryd.ntmps6
    go_wp2
    go_ret
    exact ⟨rfl, Num.join_below (Num.new_below _ _) (Num.new_below _ _)⟩

theorem errs {W : World} (hL : laidMetH Tryd.prog Rows.fnExactVerifyRow.laid W) : Errs.ErrAt 1 W ∧ Errs.ErrAt 4 W ∧ Errs.ErrAt 5 W ∧ Errs.ErrAt 3 W := by
  have h0 : laidMet Tryd.prog [("loop.example/g00211/impl.errParams", Rows.laid_loop_example_g00211_impl_errParams), ("loop.example/g00211/impl.errOpen", Rows.laid_loop_example_g00211_impl_errOpen), ("loop.example/g00211/impl.errMark", Rows.laid_loop_example_g00211_impl_errMark), ("loop.example/g00211/impl.errText", Rows.laid_loop_example_g00211_impl_errText)] W := hL
  exact ⟨Errs.head h0 ⟨_, rfl⟩ (by kernel_rfl) (by kernel_rfl), Errs.head (laidMet.tail h0) ⟨_, rfl⟩ (by kernel_rfl) (by kernel_rfl), Errs.head (laidMet.tail (laidMet.tail h0)) ⟨_, rfl⟩ (by kernel_rfl) (by kernel_rfl), Errs.head (laidMet.tail (laidMet.tail (laidMet.tail h0))) ⟨_, rfl⟩ (by kernel_rfl) (by kernel_rfl)⟩

set_option maxRecDepth 100000 in
theorem contract (H : Type) (enc : TypeId × Value → H) (W : World) (base : Nat) (args : Array Value) (ds gs : List (DataW H)) (before : List MemPlace)
    (hval : ∀ (j : Nat) t v, Tryd.f6.params[j]? = some t → args[j]? = some v → Value.okWide Tryd.prog W .any base t v)
    (hW : DataW.Whole enc Tryd.prog Tryd.f6.params.toList Rows.fnExactVerifySpec.vars false W args.toList ds gs before) (hL : laidMetH Tryd.prog Rows.fnExactVerifyRow.laid W) :
    Calls Tryd.prog 6 args W fun e W' => ∃ v, e = .returned v ∧ Rows.fnExactVerifySpec.post enc Tryd.prog Tryd.f6 false true false false W args v W' := by
  have hW' := hW
  obtain ⟨p, q, hA0, hV, rfl, hfz, hnd⟩ := hW
  have hA : DataW.TrodAll enc Tryd.prog W 0 (fun _ => true) true Tryd.f6.params.toList args.toList ds p := hA0
  rw [Tryd.params6] at hA hval
  obtain ⟨v0, vs0, d0, ds0, p0, q0, hargs, rfl, rfl, h0, r0⟩ := trodAll_cons hA
  obtain ⟨v1, vs1, d1, ds1, p1, q1, rfl, rfl, rfl, h1, r1⟩ := trodAll_cons r0
  obtain ⟨v2, vs2, d2, ds2, p2, q2, rfl, rfl, rfl, h2, r2⟩ := trodAll_cons r1
  obtain ⟨v3, vs3, d3, ds3, p3, q3, rfl, rfl, rfl, h3, r3⟩ := trodAll_cons r2
  obtain ⟨rfl, rfl, rfl⟩ := trodAll_nil r3
  obtain rfl : args = #[v0, v1, v2, v3] := by cases args; simp_all
  have hlen := Errs.vars_len hV
  obtain ⟨g0, gs0, rfl, hl0⟩ := Errs.len_cons hlen
  obtain ⟨g1, gs1, rfl, hl1⟩ := Errs.len_cons hl0
  obtain ⟨g2, gs2, rfl, hl2⟩ := Errs.len_cons hl1
  obtain ⟨g3, gs3, rfl, hl3⟩ := Errs.len_cons hl2
  obtain rfl := List.length_eq_zero_iff.1 hl3
  have k0 := h0
  have lt0 : ∀ x ∈ p0, x.block < W.heap.size := by obtain ⟨m, hm⟩ := k0; exact DataW.trod_lt m _ _ _ hm
  obtain ⟨c0_0, c0_1, c0_2, y0_0, y0_1, y0_2, m0, rfl, rfl, rfl, hy0_0, hy0_1, hy0_2⟩ := open_agg3 Tryd.underlying23 (by kernel_rfl) (by kernel_rfl) (hval 0 23 v0 rfl rfl) h0
  obtain ⟨a0_0, e0_0, rfl, w0_0⟩ := DataW.trod_int Tryd.underlying3 hy0_0
  obtain ⟨a0_1, e0_1, rfl, w0_1⟩ := DataW.trod_int Tryd.underlying3 hy0_1
  obtain ⟨a0_2, e0_2, rfl, w0_2⟩ := DataW.trod_int Tryd.underlying3 hy0_2
  simp at e0_0 e0_1 e0_2
  subst e0_0 e0_1 e0_2
  have k1 := h1
  have lt1 : ∀ x ∈ p1, x.block < W.heap.size := by obtain ⟨m, hm⟩ := k1; exact DataW.trod_lt m _ _ _ hm
  obtain ⟨a1, rfl, rfl, rfl, w1⟩ := open_int Tryd.underlying3 (hval 1 3 v1 rfl rfl) h1
  have k2 := h2
  have lt2 : ∀ x ∈ p2, x.block < W.heap.size := by obtain ⟨m, hm⟩ := k2; exact DataW.trod_lt m _ _ _ hm
  obtain ⟨a2, rfl, rfl, rfl, w2⟩ := open_string Tryd.underlying9 (hval 2 9 v2 rfl rfl) h2
  have k3 := h3
  have lt3 : ∀ x ∈ p3, x.block < W.heap.size := by obtain ⟨m, hm⟩ := k3; exact DataW.trod_lt m _ _ _ hm
  obtain ⟨c3_0, c3_1, y3_0, y3_1, m3, rfl, rfl, rfl, hy3_0, hy3_1⟩ := open_agg2 Tryd.underlying41 (by kernel_rfl) (by kernel_rfl) (hval 3 41 v3 rfl rfl) h3
  obtain ⟨a3_0, e3_0, rfl, w3_0⟩ := DataW.trod_int Tryd.underlying3 hy3_0
  obtain ⟨a3_1, e3_1, rfl, w3_1⟩ := DataW.trod_int Tryd.underlying3 hy3_1
  simp at e3_0 e3_1
  subst e3_0 e3_1
  clear hA0
  refine (walk a0_0 w0_0 a0_1 w0_1 a0_2 w0_2 a1 w1 a2 w2 a3_0 w3_0 a3_1 w3_1 W  (errs hL).1 (errs hL).2.1 (errs hL).2.2.1 (errs hL).2.2.2).mono fun e W' ⟨he, bel⟩ => ?_
  subst he
  exact ⟨_, rfl, _, _, _, [], _, _, hW', trodAll_mk1 (shut_bool Tryd.underlying4 _), (trodAll_cons_mk (Below.trod Errs.laidOut (by kernel_rfl) (of_decide_eq_true (by kernel_rfl)) k0 bel lt0) (trodAll_cons_mk (Below.trod Errs.laidOut (by kernel_rfl) (of_decide_eq_true (by kernel_rfl)) k1 bel lt1) (trodAll_cons_mk (Below.trod Errs.laidOut (by kernel_rfl) (of_decide_eq_true (by kernel_rfl)) k2 bel lt2) (trodAll_cons_mk (Below.trod Errs.laidOut (by kernel_rfl) (of_decide_eq_true (by kernel_rfl)) k3 bel lt3) trodAll_mk0)))), (Below.trodVars Errs.laidOut bel (by kernel_rfl) hV), bel.frame _, fun h => by cases h⟩

theorem laid_met (os : Os) : laidMet Tryd.prog Rows.fnExactVerifyRow.laid ((Errs.errW 3 Rows.laid_loop_example_g00211_impl_errText (Errs.errW 5 Rows.laid_loop_example_g00211_impl_errMark (Errs.errW 4 Rows.laid_loop_example_g00211_impl_errOpen (Errs.errW 1 Rows.laid_loop_example_g00211_impl_errParams (World.holding Tryd.prog os ⟨#[], #[], []⟩))))).forCall (fun _ _ => 0) ⟨#[], #[.agg #[.int .i64 0, .int .i64 0, .int .i64 0], .int .i64 0, .string ByteArray.empty, .agg #[.int .i64 0, .int .i64 0]], []⟩).memory :=
  laidMet_of_run' 8 (by kernel_rfl) (by kernel_rfl)

theorem reads (os : Os) {H : Type} (enc : TypeId × Value → H) : ∃ x, DataW.whole enc Tryd.prog ((Errs.errW 3 Rows.laid_loop_example_g00211_impl_errText (Errs.errW 5 Rows.laid_loop_example_g00211_impl_errMark (Errs.errW 4 Rows.laid_loop_example_g00211_impl_errOpen (Errs.errW 1 Rows.laid_loop_example_g00211_impl_errParams (World.holding Tryd.prog os ⟨#[], #[], []⟩))))).forCall (fun _ _ => 0) ⟨#[], #[.agg #[.int .i64 0, .int .i64 0, .int .i64 0], .int .i64 0, .string ByteArray.empty, .agg #[.int .i64 0, .int .i64 0]], []⟩).memory Tryd.f6.params.toList Rows.fnExactVerifySpec.vars false (#[.agg #[.int .i64 0, .int .i64 0, .int .i64 0], .int .i64 0, .string ByteArray.empty, .agg #[.int .i64 0, .int .i64 0]] : Array Value).toList 8 = some x :=
  Option.isSome_iff_exists.1 (by kernel_rfl)

set_option maxRecDepth 100000 in
theorem lifted (os : Os) (started : os.Started) (H : Type) (enc : TypeId × Value → H) (F : Stop.Interp) :
    ReturnsInHanded {} Tryd.checked os 6 .any ((OpenSpec.ofChange Rows.fnExactVerifySpec).preRow enc Tryd.prog Tryd.f6 Rows.fnExactVerifyRow.domain false Rows.fnExactVerifyRow.laid) (((OpenSpec.ofChange Rows.fnExactVerifySpec).at F).post enc Tryd.prog Tryd.f6 false true false false) := by
  obtain ⟨x, hx⟩ := reads os enc
  refine returnsInHanded_of_row (C := Tryd.checked) (s := OpenSpec.ofChange Rows.fnExactVerifySpec) Errs.own started (by kernel_rfl) Tryd.func6
    (witness_row_at (enc := enc) (C := Tryd.checked) false (Errs.errW 3 Rows.laid_loop_example_g00211_impl_errText (Errs.errW 5 Rows.laid_loop_example_g00211_impl_errMark (Errs.errW 4 Rows.laid_loop_example_g00211_impl_errOpen (Errs.errW 1 Rows.laid_loop_example_g00211_impl_errParams (World.holding Tryd.prog os ⟨#[], #[], []⟩))))) #[.agg #[.int .i64 0, .int .i64 0, .int .i64 0], .int .i64 0, .string ByteArray.empty, .agg #[.int .i64 0, .int .i64 0]] rfl (by kernel_rfl) (by kernel_rfl) (by kernel_rfl)
      (OpenSpec.preRow_of_cond 8 hx rfl (fun k hk => by cases hk) (by kernel_rfl) (laid_met os))) ?_
  intro W base args ds gs before hval hW _ _ _ hL _ _
  exact contract H enc W base args ds gs before hval hW hL

theorem said : Rows.FnExactVerifySaid :=
  OpenClaim.holds_of_cond 6 Tryd.f6 rfl rfl rfl rfl rfl rfl rfl ⟨rfl, rfl, rfl, rfl, rfl⟩ rfl rfl rfl rfl rfl (by kernel_rfl) Tryd.func6 (by kernel_rfl)
    (of_decide_eq_true (by kernel_rfl)) (by unfold Func.isWrapper; first | (rw [if_pos (by decide +kernel)]; kernel_rfl) | (rw [if_neg (by decide +kernel)]; exact ⟨rfl, rfl⟩))
    (fun os started H enc _ F => by rw [OpenClaim.pre_eq_preRow]; exact lifted os started H enc F)

theorem plain (f : FuncId) (fn : Func) (hf : Tryd.pinned.checked.prog.funcNamed "loop.example/g00211/laws.FnExactVerify" = some f) (hfn : Tryd.pinned.checked.prog.funcs[f]? = some fn) :
    true = Tryd.pinned.checked.prog.looks [] ∧ ∀ (j : Nat) t, fn.params[j]? = some t → Tryd.pinned.checked.prog.wantsStandIn t = false := by
  obtain rfl : f = 6 := Option.some.inj ((show Tryd.prog.funcNamed "loop.example/g00211/laws.FnExactVerify" = some 6 by kernel_rfl).symm.trans hf) |>.symm
  obtain rfl : fn = Tryd.f6 := (Option.some.inj (Tryd.func6.symm.trans hfn)).symm
  refine ⟨by kernel_rfl, fun j t ht => ?_⟩
  rw [Tryd.params6] at ht
  have hm : t = 23 ∨ t = 3 ∨ t = 9 ∨ t = 41 := by simpa using Array.mem_of_getElem? ht
  rcases hm with rfl | rfl | rfl | rfl
  · exact (show Tryd.prog.wantsStandIn 23 = false by kernel_rfl)
  · exact (show Tryd.prog.wantsStandIn 3 = false by kernel_rfl)
  · exact (show Tryd.prog.wantsStandIn 9 = false by kernel_rfl)
  · exact (show Tryd.prog.wantsStandIn 41 = false by kernel_rfl)

theorem card : Rows.FnExactVerifyCardSaid :=
  Claim7.holds_tied_plain_at .later [] _ _ _ _ said (fun _ h => by cases h) (by kernel_rfl) (fun _ h => by cases h) fnExactVerify_row_tie rfl ⟨rfl, rfl⟩ (by kernel_rfl) rfl plain (by kernel_rfl)
end Go.Proofs.YthdenegheninaaiDoor.fnExactVerify
namespace Go.Proofs.YthdenegheninaaiDoor
theorem FnExactVerify_holds : Rows.FnExactVerifyCardSaid := fnExactVerify.card
end Go.Proofs.YthdenegheninaaiDoor

/- For every parameters, secret, text and draw the law of SignOnce answers true: the program's SignOnce and its model return the same. The errors of the program's own variables are as its text lays them (the card ties them; over a pruned copy of the project). -/
import Derived.Test.YthdenegheninaaiDoorErrs
import Derived.ShutString
import Derived.Lib.SmallJoins
import Derived.Test.YthdenegheninaaiDoorCards
import Derived.Test.YthdenegheninaaiDoorTie
import Derived.Test.YthdenegheninaaiDoorSignOnce4
import Derived.Test.YthdenegheninaaiDoorSignSpec3
namespace Go.Proofs.YthdenegheninaaiDoor.fnExactSignOnce
open Go.ChangeShapes Go.WideShapes Go.ChangeAt Go.RowKit Go.Joins
open Go.ChangeMaps (open_string shut_string)
set_option linter.unusedVariables false

theorem walk (a0_0 : Int) (w0_0 : (Lit.int .i64 a0_0).wf = true) (a0_1 : Int) (w0_1 : (Lit.int .i64 a0_1).wf = true) (a0_2 : Int) (w0_2 : (Lit.int .i64 a0_2).wf = true) (a1 : Int) (w1 : (Lit.int .i64 a1).wf = true) (a2 : ByteArray) (w2 : a2.size ≤ maxLen) (a3 : Int) (w3 : (Lit.int .i64 a3).wf = true) (w : World)  (E_errParams : Errs.ErrAt 1 w) (E_errSecret : Errs.ErrAt 2 w) (E_errText : Errs.ErrAt 3 w) (E_errDraw : Errs.ErrAt 0 w) :
    Calls Tryd.prog 4 #[.agg #[.int .i64 a0_0, .int .i64 a0_1, .int .i64 a0_2], .int .i64 a1, .string a2, .int .i64 a3] w fun e w' => e = .returned (.bool true) ∧ Below w.heap.size w w' := by
  by_cases hb : a2.size ≤ 1048576
  · go_enter Tryd.func4, Tryd.ntmps4
    go_wp2_with fail
    refine (Num.toParams_val a0_0 a0_1 a0_2 _).mono ?_
    rintro e w1' ⟨rfl, L1⟩
    go_wp2_with fail
    refine (Num.specSignOnce_val a0_0 a0_1 a0_2 a1 a3 a2 _ w2).mono ?_
    rintro e w2' ⟨rfl, L2⟩
    have L3 := Num.join_below (Num.join_below L1 L2) (Num.new_below w2' (Num.mb (Num.soR a0_0 a0_1 a0_2 a1 a2 a3) (Num.soS a0_0 a0_1 a0_2 a1 a2 a3)))
    obtain ⟨c0, c1, c2⟩ := Num.cells3 L3
    clear L1 L2
    have m1 := Num.heap_new w2' (Num.mb (Num.soR a0_0 a0_1 a0_2 a1 a2 a3) (Num.soS a0_0 a0_1 a0_2 a1 a2 a3))
    generalize hr : Num.soR a0_0 a0_1 a0_2 a1 a2 a3 = r at *
    generalize hs : Num.soS a0_0 a0_1 a0_2 a1 a2 a3 = s at *
    have HR : Hid (Num.soR a0_0 a0_1 a0_2 a1 a2 a3 = r) := hr
    have HS : Hid (Num.soS a0_0 a0_1 a0_2 a1 a2 a3 = s) := hs
    clear hr hs
    go_wp2_with fail
    refine (Num.toParams_val a0_0 a0_1 a0_2 _).mono ?_
    rintro e w4 ⟨rfl, L4⟩
    have L5 := Num.join_below (Num.join_below (Num.new_below w _) L3) L4
    clear L3 c0 c1 c2
    go_wp2_with fail
    refine (Num.implSignOnce_val a0_0 a0_1 a0_2 a1 a3 a2 _ w2 (E_errParams.on L5) (E_errSecret.on L5) (E_errText.on L5) (E_errDraw.on L5)).mono ?_
    rw [HR.out, HS.out]
    rintro e w5 ⟨rfl, L6⟩
    have L7 := Num.join_below L5 L6
    have m2 := Num.heap_old (Num.kept_new (Num.join_below L4 L6) m1) (Num.mb r s)
    have d0 : (w5.alloc (Num.mb r s)).cell? ⟨w2'.heap.size, 0, none⟩ = some (.int .i64 r) := Num.cell_at m2 0
    have d1 : (w5.alloc (Num.mb r s)).cell? ⟨w2'.heap.size, 1, none⟩ = some (.int .i64 s) := Num.cell_at m2 1
    clear L4 L5 L6 m1 m2
    go_wp2_with fail
    refine (Num.eqMark_same r s _).mono ?_
    rintro e w6 ⟨rfl, L8⟩
    have L9 := Num.join_below (Num.join_below L7 (Num.new_below w5 _)) L8
    clear L7 L8 d0 d1
    generalize Num.soB a0_0 a0_1 a0_2 a1 a2 a3 = b
    cases b
    all_goals
      go_wp2
      go_ret
      exact ⟨by simp, L9⟩
  · go_enter Tryd.func4, Tryd.ntmps4
    go_wp2
    go_ret
    exact ⟨rfl, Num.new_below _ _⟩

theorem errs {W : World} (hL : laidMetH Tryd.prog Rows.fnExactSignOnceRow.laid W) : Errs.ErrAt 1 W ∧ Errs.ErrAt 2 W ∧ Errs.ErrAt 3 W ∧ Errs.ErrAt 0 W := by
  have h0 : laidMet Tryd.prog [("loop.example/g00211/impl.errParams", Rows.laid_loop_example_g00211_impl_errParams), ("loop.example/g00211/impl.errSecret", Rows.laid_loop_example_g00211_impl_errSecret), ("loop.example/g00211/impl.errText", Rows.laid_loop_example_g00211_impl_errText), ("loop.example/g00211/impl.errDraw", Rows.laid_loop_example_g00211_impl_errDraw)] W := hL
  exact ⟨Errs.head h0 ⟨_, rfl⟩ (by kernel_rfl) (by kernel_rfl), Errs.head (laidMet.tail h0) ⟨_, rfl⟩ (by kernel_rfl) (by kernel_rfl), Errs.head (laidMet.tail (laidMet.tail h0)) ⟨_, rfl⟩ (by kernel_rfl) (by kernel_rfl), Errs.head (laidMet.tail (laidMet.tail (laidMet.tail h0))) ⟨_, rfl⟩ (by kernel_rfl) (by kernel_rfl)⟩

set_option maxRecDepth 100000 in
theorem contract (H : Type) (enc : TypeId × Value → H) (W : World) (base : Nat) (args : Array Value) (ds gs : List (DataW H)) (before : List MemPlace)
    (hval : ∀ (j : Nat) t v, Tryd.f4.params[j]? = some t → args[j]? = some v → Value.okWide Tryd.prog W .any base t v)
    (hW : DataW.Whole enc Tryd.prog Tryd.f4.params.toList Rows.fnExactSignOnceSpec.vars false W args.toList ds gs before) (hL : laidMetH Tryd.prog Rows.fnExactSignOnceRow.laid W) :
    Calls Tryd.prog 4 args W fun e W' => ∃ v, e = .returned v ∧ Rows.fnExactSignOnceSpec.post enc Tryd.prog Tryd.f4 false true false false W args v W' := by
  have hW' := hW
  obtain ⟨p, q, hA0, hV, rfl, hfz, hnd⟩ := hW
  have hA : DataW.TrodAll enc Tryd.prog W 0 (fun _ => true) true Tryd.f4.params.toList args.toList ds p := hA0
  rw [Tryd.params4] at hA hval
  obtain ⟨v0, vs0, d0, ds0, p0, q0, hargs, rfl, rfl, h0, r0⟩ := trodAll_cons hA
  obtain ⟨v1, vs1, d1, ds1, p1, q1, rfl, rfl, rfl, h1, r1⟩ := trodAll_cons r0
  obtain ⟨v2, vs2, d2, ds2, p2, q2, rfl, rfl, rfl, h2, r2⟩ := trodAll_cons r1
  obtain ⟨v3, vs3, d3, ds3, p3, q3, rfl, rfl, rfl, h3, r3⟩ := trodAll_cons r2
  obtain ⟨rfl, rfl, rfl⟩ := trodAll_nil r3
  obtain rfl : args = #[v0, v1, v2, v3] := by cases args; simp_all
  have hlen := Errs.vars_len hV
  obtain ⟨g0, gs0, rfl, hl0⟩ := Errs.len_cons hlen
  obtain ⟨g1, gs1, rfl, hl1⟩ := Errs.len_cons hl0
  obtain ⟨g2, gs2, rfl, hl2⟩ := Errs.len_cons hl1
  obtain ⟨g3, gs3, rfl, hl3⟩ := Errs.len_cons hl2
  obtain rfl := List.length_eq_zero_iff.1 hl3
  have k0 := h0
  have lt0 : ∀ x ∈ p0, x.block < W.heap.size := by obtain ⟨m, hm⟩ := k0; exact DataW.trod_lt m _ _ _ hm
  obtain ⟨c0_0, c0_1, c0_2, y0_0, y0_1, y0_2, m0, rfl, rfl, rfl, hy0_0, hy0_1, hy0_2⟩ := open_agg3 Tryd.underlying23 (by kernel_rfl) (by kernel_rfl) (hval 0 23 v0 rfl rfl) h0
  obtain ⟨a0_0, e0_0, rfl, w0_0⟩ := DataW.trod_int Tryd.underlying3 hy0_0
  obtain ⟨a0_1, e0_1, rfl, w0_1⟩ := DataW.trod_int Tryd.underlying3 hy0_1
  obtain ⟨a0_2, e0_2, rfl, w0_2⟩ := DataW.trod_int Tryd.underlying3 hy0_2
  simp at e0_0 e0_1 e0_2
  subst e0_0 e0_1 e0_2
  have k1 := h1
  have lt1 : ∀ x ∈ p1, x.block < W.heap.size := by obtain ⟨m, hm⟩ := k1; exact DataW.trod_lt m _ _ _ hm
  obtain ⟨a1, rfl, rfl, rfl, w1⟩ := open_int Tryd.underlying3 (hval 1 3 v1 rfl rfl) h1
  have k2 := h2
  have lt2 : ∀ x ∈ p2, x.block < W.heap.size := by obtain ⟨m, hm⟩ := k2; exact DataW.trod_lt m _ _ _ hm
  obtain ⟨a2, rfl, rfl, rfl, w2⟩ := open_string Tryd.underlying9 (hval 2 9 v2 rfl rfl) h2
  have k3 := h3
  have lt3 : ∀ x ∈ p3, x.block < W.heap.size := by obtain ⟨m, hm⟩ := k3; exact DataW.trod_lt m _ _ _ hm
  obtain ⟨a3, rfl, rfl, rfl, w3⟩ := open_int Tryd.underlying3 (hval 3 3 v3 rfl rfl) h3
  clear hA0
  refine (walk a0_0 w0_0 a0_1 w0_1 a0_2 w0_2 a1 w1 a2 w2 a3 w3 W  (errs hL).1 (errs hL).2.1 (errs hL).2.2.1 (errs hL).2.2.2).mono fun e W' ⟨he, bel⟩ => ?_
  subst he
  exact ⟨_, rfl, _, _, _, [], _, _, hW', trodAll_mk1 (shut_bool Tryd.underlying4 _), (trodAll_cons_mk (Below.trod Errs.laidOut (by kernel_rfl) (of_decide_eq_true (by kernel_rfl)) k0 bel lt0) (trodAll_cons_mk (Below.trod Errs.laidOut (by kernel_rfl) (of_decide_eq_true (by kernel_rfl)) k1 bel lt1) (trodAll_cons_mk (Below.trod Errs.laidOut (by kernel_rfl) (of_decide_eq_true (by kernel_rfl)) k2 bel lt2) (trodAll_cons_mk (Below.trod Errs.laidOut (by kernel_rfl) (of_decide_eq_true (by kernel_rfl)) k3 bel lt3) trodAll_mk0)))), (Below.trodVars Errs.laidOut bel (by kernel_rfl) hV), bel.frame _, fun h => by cases h⟩

theorem laid_met (os : Os) : laidMet Tryd.prog Rows.fnExactSignOnceRow.laid ((Errs.errW 0 Rows.laid_loop_example_g00211_impl_errDraw (Errs.errW 3 Rows.laid_loop_example_g00211_impl_errText (Errs.errW 2 Rows.laid_loop_example_g00211_impl_errSecret (Errs.errW 1 Rows.laid_loop_example_g00211_impl_errParams (World.holding Tryd.prog os ⟨#[], #[], []⟩))))).forCall (fun _ _ => 0) ⟨#[], #[.agg #[.int .i64 0, .int .i64 0, .int .i64 0], .int .i64 0, .string ByteArray.empty, .int .i64 0], []⟩).memory :=
  laidMet_of_run' 8 (by kernel_rfl) (by kernel_rfl)

theorem reads (os : Os) {H : Type} (enc : TypeId × Value → H) : ∃ x, DataW.whole enc Tryd.prog ((Errs.errW 0 Rows.laid_loop_example_g00211_impl_errDraw (Errs.errW 3 Rows.laid_loop_example_g00211_impl_errText (Errs.errW 2 Rows.laid_loop_example_g00211_impl_errSecret (Errs.errW 1 Rows.laid_loop_example_g00211_impl_errParams (World.holding Tryd.prog os ⟨#[], #[], []⟩))))).forCall (fun _ _ => 0) ⟨#[], #[.agg #[.int .i64 0, .int .i64 0, .int .i64 0], .int .i64 0, .string ByteArray.empty, .int .i64 0], []⟩).memory Tryd.f4.params.toList Rows.fnExactSignOnceSpec.vars false (#[.agg #[.int .i64 0, .int .i64 0, .int .i64 0], .int .i64 0, .string ByteArray.empty, .int .i64 0] : Array Value).toList 8 = some x :=
  Option.isSome_iff_exists.1 (by kernel_rfl)

set_option maxRecDepth 100000 in
theorem lifted (os : Os) (started : os.Started) (H : Type) (enc : TypeId × Value → H) (F : Stop.Interp) :
    ReturnsInHanded {} Tryd.checked os 4 .any ((OpenSpec.ofChange Rows.fnExactSignOnceSpec).preRow enc Tryd.prog Tryd.f4 Rows.fnExactSignOnceRow.domain false Rows.fnExactSignOnceRow.laid) (((OpenSpec.ofChange Rows.fnExactSignOnceSpec).at F).post enc Tryd.prog Tryd.f4 false true false false) := by
  obtain ⟨x, hx⟩ := reads os enc
  refine returnsInHanded_of_row (C := Tryd.checked) (s := OpenSpec.ofChange Rows.fnExactSignOnceSpec) Errs.own started (by kernel_rfl) Tryd.func4
    (witness_row_at (enc := enc) (C := Tryd.checked) false (Errs.errW 0 Rows.laid_loop_example_g00211_impl_errDraw (Errs.errW 3 Rows.laid_loop_example_g00211_impl_errText (Errs.errW 2 Rows.laid_loop_example_g00211_impl_errSecret (Errs.errW 1 Rows.laid_loop_example_g00211_impl_errParams (World.holding Tryd.prog os ⟨#[], #[], []⟩))))) #[.agg #[.int .i64 0, .int .i64 0, .int .i64 0], .int .i64 0, .string ByteArray.empty, .int .i64 0] rfl (by kernel_rfl) (by kernel_rfl) (by kernel_rfl)
      (OpenSpec.preRow_of_cond 8 hx rfl (fun k hk => by cases hk) (by kernel_rfl) (laid_met os))) ?_
  intro W base args ds gs before hval hW _ _ _ hL _ _
  exact contract H enc W base args ds gs before hval hW hL

theorem said : Rows.FnExactSignOnceSaid :=
  OpenClaim.holds_of_cond 4 Tryd.f4 rfl rfl rfl rfl rfl rfl rfl ⟨rfl, rfl, rfl, rfl, rfl⟩ rfl rfl rfl rfl rfl (by kernel_rfl) Tryd.func4 (by kernel_rfl)
    (of_decide_eq_true (by kernel_rfl)) (by unfold Func.isWrapper; first | (rw [if_pos (by decide +kernel)]; kernel_rfl) | (rw [if_neg (by decide +kernel)]; exact ⟨rfl, rfl⟩))
    (fun os started H enc _ F => by rw [OpenClaim.pre_eq_preRow]; exact lifted os started H enc F)

theorem plain (f : FuncId) (fn : Func) (hf : Tryd.pinned.checked.prog.funcNamed "loop.example/g00211/laws.FnExactSignOnce" = some f) (hfn : Tryd.pinned.checked.prog.funcs[f]? = some fn) :
    true = Tryd.pinned.checked.prog.looks [] ∧ ∀ (j : Nat) t, fn.params[j]? = some t → Tryd.pinned.checked.prog.wantsStandIn t = false := by
  obtain rfl : f = 4 := Option.some.inj ((show Tryd.prog.funcNamed "loop.example/g00211/laws.FnExactSignOnce" = some 4 by kernel_rfl).symm.trans hf) |>.symm
  obtain rfl : fn = Tryd.f4 := (Option.some.inj (Tryd.func4.symm.trans hfn)).symm
  refine ⟨by kernel_rfl, fun j t ht => ?_⟩
  rw [Tryd.params4] at ht
  have hm : t = 23 ∨ t = 3 ∨ t = 9 ∨ t = 3 := by simpa using Array.mem_of_getElem? ht
  rcases hm with rfl | rfl | rfl | rfl
  · exact (show Tryd.prog.wantsStandIn 23 = false by kernel_rfl)
  · exact (show Tryd.prog.wantsStandIn 3 = false by kernel_rfl)
  · exact (show Tryd.prog.wantsStandIn 9 = false by kernel_rfl)
  · exact (show Tryd.prog.wantsStandIn 3 = false by kernel_rfl)

theorem card : Rows.FnExactSignOnceCardSaid :=
  Claim7.holds_tied_plain_at .later [] _ _ _ _ said (fun _ h => by cases h) (by kernel_rfl) (fun _ h => by cases h) fnExactSignOnce_row_tie rfl ⟨rfl, rfl⟩ (by kernel_rfl) rfl plain (by kernel_rfl)
end Go.Proofs.YthdenegheninaaiDoor.fnExactSignOnce
namespace Go.Proofs.YthdenegheninaaiDoor
theorem FnExactSignOnce_holds : Rows.FnExactSignOnceCardSaid := fnExactSignOnce.card
end Go.Proofs.YthdenegheninaaiDoor

/- For every parameters, secret, text and draws the law of Sign answers true: the program's Sign and its model return the same, and no draw is turned. The errors of the program's own variables are as its text lays them (the card ties them; over a pruned copy of the project). -/
import Derived.Test.YthdenegheninaaiDoorErrs
import Derived.ShutString
import Derived.Lib.SmallJoins
import Derived.Test.YthdenegheninaaiDoorCards
import Derived.Test.YthdenegheninaaiDoorTie
import Derived.Test.YthdenegheninaaiDoorSignSign
import Derived.Test.YthdenegheninaaiDoorSignSpec4
import Derived.Test.YthdenegheninaaiDoorSignOnce4
import Derived.Test.YthdenegheninaaiDoorIntsCopy
namespace Go.Proofs.YthdenegheninaaiDoor.fnExactSign
open Go.ChangeShapes Go.WideShapes Go.ChangeAt Go.RowKit Go.Joins
open Go.ChangeMaps (open_string shut_string)
set_option linter.unusedVariables false

def IsRow (k : IntKind) (w : World) (a : Option Addr) (len cap : Nat) (zs : List Int) : Prop :=
  (a = none ∧ len = 0 ∧ cap = 0 ∧ zs = []) ∨
  ∃ x, a = some x ∧ len ≤ cap ∧ cap ≤ maxLen ∧ zs.length = cap ∧ (∀ i, i < zs.length → w.cell? (x.add i) = some (.int k (zs.getD i 0))) ∧ ∀ n ∈ zs, (Lit.int k n).wf = true

theorem ints_of (w : World) (a : Option Addr) (len cap : Nat) (zs : List Int) (h : IsRow .i64 w a len cap zs) : ∃ ys : List Int, ys.length = len ∧ Num.Ints w a ys := by
  rcases h with ⟨_, h, _, _⟩ | ⟨x, rfl, hl, hm, hz, hc, hw⟩
  · exact ⟨[], h.symm, Or.inl rfl⟩
  · by_cases h0 : len = 0
    · exact ⟨[], h0.symm, Or.inl rfl⟩
    · obtain ⟨b, off, rfl, hcc⟩ := ints_at hc (by omega)
      refine ⟨zs.take len, by rw [List.length_take]; omega, Or.inr ⟨b, off, rfl, ?_, fun i hi => ?_⟩⟩
      · have h1 := hcc 0 (by omega)
        apply Nat.lt_of_not_le
        intro hle
        unfold World.cell? at h1
        rw [Array.getElem?_eq_none hle] at h1
        simp at h1
      · rw [List.length_take] at hi
        have h1 := hcc i (by omega)
        rw [h1, List.getElem_take, List.getD_eq_getElem?_getD, List.getElem?_eq_getElem (by omega)]
        rfl


set_option maxHeartbeats 4000000 in
theorem walk (a0_0 : Int) (w0_0 : (Lit.int .i64 a0_0).wf = true) (a0_1 : Int) (w0_1 : (Lit.int .i64 a0_1).wf = true) (a0_2 : Int) (w0_2 : (Lit.int .i64 a0_2).wf = true) (a1 : Int) (w1 : (Lit.int .i64 a1).wf = true) (a2 : ByteArray) (w2 : a2.size ≤ maxLen) (a3 : Option Addr) (len3 cap3 : Nat) (z3 : List Int) (w : World) (w3 : IsRow .i64 w a3 len3 cap3 z3) (E_errParams : Errs.ErrAt 1 w) (E_errSecret : Errs.ErrAt 2 w) (E_errText : Errs.ErrAt 3 w) (E_errDraw : Errs.ErrAt 0 w) :
    Calls Tryd.prog 5 #[.agg #[.int .i64 a0_0, .int .i64 a0_1, .int .i64 a0_2], .int .i64 a1, .string a2, .slice a3 len3 cap3] w fun e w' => e = .returned (.bool true) ∧ Below w.heap.size w w' := by
  obtain ⟨ys, hlen, I⟩ := ints_of w a3 len3 cap3 z3 w3
  clear w3
  subst hlen
  by_cases hb : a2.size ≤ 1048576
  · by_cases hb3 : ys.length ≤ 1048576
    · go_enter Tryd.func5, Tryd.ntmps5
      go_wp2_with fail
      refine (Num.toParams_val a0_0 a0_1 a0_2 _).mono ?_
      rintro e x1 ⟨rfl, L1⟩
      have L2 := Num.join_below (Num.new_below w _) L1
      go_wp2_with fail
      refine (Num.toIntS_val a3 ys cap3 _ hb3 (I.on L2)).mono ?_
      rintro e x2 ⟨rfl, L3, I2⟩
      go_wp2_with fail
      refine (Num.specSign_val a0_0 a0_1 a0_2 a1 a2 _ ys _ _ w2 (by omega) I2).mono ?_
      rintro e x3 ⟨rfl, L4⟩
      have L5 := Num.join_below L1 (Num.join_below L3 L4)
      clear L1 L2 L3 L4 I2
      generalize hv : Num.signV a0_0 a0_1 a0_2 a1 a2 ys = v at *
      have HV : Hid (Num.signV a0_0 a0_1 a0_2 a1 a2 ys = v) := hv
      clear hv
      obtain ⟨r, s, i, ok⟩ := v
      dsimp only [Num.sv]
      have L6 := Num.join_below L5 (Num.new_below x3 (Num.mb r s))
      have L7 := Num.join_below (Num.new_below w _) L6
      have m1 := Num.heap_new x3 (Num.mb r s)
      go_wp2_with fail
      refine (Num.toIntS_val a3 ys cap3 _ hb3 (I.on L7)).mono ?_
      rintro e x4 ⟨rfl, L8, I4⟩
      have I4 : Num.Ints x4 (some ⟨x3.heap.size + 1, 0, none⟩) ys := by simpa using I4
      obtain ⟨c0, c1, c2⟩ := Num.cells3 (Num.join_below L6 L8)
      go_wp2_with fail
      refine (Num.toParams_val a0_0 a0_1 a0_2 _).mono ?_
      rintro e x5 ⟨rfl, L9⟩
      have L10 := Num.join_below L7 (Num.join_below L8 L9)
      have I5 := I4.on L9
      have m2 := Num.kept_new (Num.join_below L8 L9) m1
      clear c0 c1 c2 L5 L6 L7 L8 L9 I4 m1
      go_wp2_with fail
      refine (Num.implSign_val a0_0 a0_1 a0_2 a1 a2 _ ys _ _ w2 (by omega) I5 (E_errParams.on L10) (E_errSecret.on L10) (E_errText.on L10) (E_errDraw.on L10)).mono ?_
      rw [HV.out]
      dsimp only [Num.sv]
      rintro e x6 ⟨rfl, L11⟩
      have L12 := Num.join_below L11 (Num.new_below x6 (Num.mb r s))
      have m3 := Num.kept_new L12 m2
      have d0 : (x6.alloc (Num.mb r s)).cell? ⟨x3.heap.size, 0, none⟩ = some (.int .i64 r) := Num.cell_at m3 0
      have d1 : (x6.alloc (Num.mb r s)).cell? ⟨x3.heap.size, 1, none⟩ = some (.int .i64 s) := Num.cell_at m3 1
      have I6 := I5.on L12
      have L13 := Num.join_below L10 L12
      clear m2 m3 I5 L10 L11 L12
      go_wp2_with fail
      refine (Num.eqMark_same r s _).mono ?_
      rintro e x7 ⟨rfl, L14⟩
      have I7 := I6.on L14
      have L15 := Num.join_below L13 L14
      clear L13 L14 I6 d0 d1
      cases ok
      all_goals
        go_wp2_with fail
        refine (Num.toIntS_val a3 ys cap3 _ hb3 (I.on L15)).mono ?_
        rintro e x8 ⟨rfl, L16, I8⟩
        go_wp2_with fail
        refine (Num.eqIntS_same _ _ ys _ _ _ hb3 (I7.on L16) I8).mono ?_
        rintro e x9 ⟨rfl, D9⟩
        go_wp2
        go_ret
        exact ⟨rfl, (Num.join_below L15 L16).trans (Num.drawn_below _ D9)⟩
    · go_enter Tryd.func5, Tryd.ntmps5
      go_wp2
      go_ret
      exact ⟨rfl, Num.new_below _ _⟩
  · go_enter Tryd.func5, Tryd.ntmps5
    go_wp2
    go_ret
    exact ⟨rfl, Num.new_below _ _⟩

theorem errs {W : World} (hL : laidMetH Tryd.prog Rows.fnExactSignRow.laid W) : Errs.ErrAt 1 W ∧ Errs.ErrAt 2 W ∧ Errs.ErrAt 3 W ∧ Errs.ErrAt 0 W := by
  have h0 : laidMet Tryd.prog [("loop.example/g00211/impl.errParams", Rows.laid_loop_example_g00211_impl_errParams), ("loop.example/g00211/impl.errSecret", Rows.laid_loop_example_g00211_impl_errSecret), ("loop.example/g00211/impl.errText", Rows.laid_loop_example_g00211_impl_errText), ("loop.example/g00211/impl.errDraw", Rows.laid_loop_example_g00211_impl_errDraw)] W := hL
  exact ⟨Errs.head h0 ⟨_, rfl⟩ (by kernel_rfl) (by kernel_rfl), Errs.head (laidMet.tail h0) ⟨_, rfl⟩ (by kernel_rfl) (by kernel_rfl), Errs.head (laidMet.tail (laidMet.tail h0)) ⟨_, rfl⟩ (by kernel_rfl) (by kernel_rfl), Errs.head (laidMet.tail (laidMet.tail (laidMet.tail h0))) ⟨_, rfl⟩ (by kernel_rfl) (by kernel_rfl)⟩

set_option maxRecDepth 100000 in
theorem contract (H : Type) (enc : TypeId × Value → H) (W : World) (base : Nat) (args : Array Value) (ds gs : List (DataW H)) (before : List MemPlace)
    (hval : ∀ (j : Nat) t v, Tryd.f5.params[j]? = some t → args[j]? = some v → Value.okWide Tryd.prog W .any base t v)
    (hW : DataW.Whole enc Tryd.prog Tryd.f5.params.toList Rows.fnExactSignSpec.vars false W args.toList ds gs before) (hL : laidMetH Tryd.prog Rows.fnExactSignRow.laid W) :
    Calls Tryd.prog 5 args W fun e W' => ∃ v, e = .returned v ∧ Rows.fnExactSignSpec.post enc Tryd.prog Tryd.f5 false true false false W args v W' := by
  have hW' := hW
  obtain ⟨p, q, hA0, hV, rfl, hfz, hnd⟩ := hW
  have hA : DataW.TrodAll enc Tryd.prog W 0 (fun _ => true) true Tryd.f5.params.toList args.toList ds p := hA0
  rw [Tryd.params5] at hA hval
  obtain ⟨v0, vs0, d0, ds0, p0, q0, hargs, rfl, rfl, h0, r0⟩ := trodAll_cons hA
  obtain ⟨v1, vs1, d1, ds1, p1, q1, rfl, rfl, rfl, h1, r1⟩ := trodAll_cons r0
  obtain ⟨v2, vs2, d2, ds2, p2, q2, rfl, rfl, rfl, h2, r2⟩ := trodAll_cons r1
  obtain ⟨v3, vs3, d3, ds3, p3, q3, rfl, rfl, rfl, h3, r3⟩ := trodAll_cons r2
  obtain ⟨rfl, rfl, rfl⟩ := trodAll_nil r3
  obtain rfl : args = #[v0, v1, v2, v3] := by cases args; simp_all
  have hlen := Errs.vars_len hV
  obtain ⟨g0, gs0, rfl, hl0⟩ := Errs.len_cons hlen
  obtain ⟨g1, gs1, rfl, hl1⟩ := Errs.len_cons hl0
  obtain ⟨g2, gs2, rfl, hl2⟩ := Errs.len_cons hl1
  obtain ⟨g3, gs3, rfl, hl3⟩ := Errs.len_cons hl2
  obtain rfl := List.length_eq_zero_iff.1 hl3
  have k0 := h0
  have lt0 : ∀ x ∈ p0, x.block < W.heap.size := by obtain ⟨m, hm⟩ := k0; exact DataW.trod_lt m _ _ _ hm
  obtain ⟨c0_0, c0_1, c0_2, y0_0, y0_1, y0_2, m0, rfl, rfl, rfl, hy0_0, hy0_1, hy0_2⟩ := open_agg3 Tryd.underlying23 (by kernel_rfl) (by kernel_rfl) (hval 0 23 v0 rfl rfl) h0
  obtain ⟨a0_0, e0_0, rfl, w0_0⟩ := DataW.trod_int Tryd.underlying3 hy0_0
  obtain ⟨a0_1, e0_1, rfl, w0_1⟩ := DataW.trod_int Tryd.underlying3 hy0_1
  obtain ⟨a0_2, e0_2, rfl, w0_2⟩ := DataW.trod_int Tryd.underlying3 hy0_2
  simp at e0_0 e0_1 e0_2
  subst e0_0 e0_1 e0_2
  have k1 := h1
  have lt1 : ∀ x ∈ p1, x.block < W.heap.size := by obtain ⟨m, hm⟩ := k1; exact DataW.trod_lt m _ _ _ hm
  obtain ⟨a1, rfl, rfl, rfl, w1⟩ := open_int Tryd.underlying3 (hval 1 3 v1 rfl rfl) h1
  have k2 := h2
  have lt2 : ∀ x ∈ p2, x.block < W.heap.size := by obtain ⟨m, hm⟩ := k2; exact DataW.trod_lt m _ _ _ hm
  obtain ⟨a2, rfl, rfl, rfl, w2⟩ := open_string Tryd.underlying9 (hval 2 9 v2 rfl rfl) h2
  have k3 := h3
  have lt3 : ∀ x ∈ p3, x.block < W.heap.size := by obtain ⟨m, hm⟩ := k3; exact DataW.trod_lt m _ _ _ hm
  obtain ⟨a3, len3, cap3, rfl⟩ := okWide_slice Tryd.underlying35 (hval 3 35 v3 rfl rfl)
  obtain ⟨z3, w3⟩ : ∃ zs, IsRow .i64 W a3 len3 cap3 zs := by
    obtain ⟨fuel, hf⟩ := h3
    rcases open_ints Tryd.underlying35 Tryd.underlying3 (by kernel_rfl) hf with ⟨hcs, _⟩ | ⟨x, l, c, zs, hcs, _, hl, hm, hz, _, hcell, hwz⟩
    · simp [Value.cells] at hcs
      obtain ⟨rfl, rfl, rfl⟩ := hcs
      exact ⟨[], .inl ⟨rfl, rfl, rfl, rfl⟩⟩
    · simp [Value.cells] at hcs
      obtain ⟨rfl, rfl, rfl⟩ := hcs
      exact ⟨zs, .inr ⟨_, rfl, hl, hm, by simpa using hz, hcell, hwz⟩⟩
  clear hA0
  refine (walk a0_0 w0_0 a0_1 w0_1 a0_2 w0_2 a1 w1 a2 w2 a3 len3 cap3 z3 W w3 (errs hL).1 (errs hL).2.1 (errs hL).2.2.1 (errs hL).2.2.2).mono fun e W' ⟨he, bel⟩ => ?_
  subst he
  exact ⟨_, rfl, _, _, _, [], _, _, hW', trodAll_mk1 (shut_bool Tryd.underlying4 _), (trodAll_cons_mk (Below.trod Errs.laidOut (by kernel_rfl) (of_decide_eq_true (by kernel_rfl)) k0 bel lt0) (trodAll_cons_mk (Below.trod Errs.laidOut (by kernel_rfl) (of_decide_eq_true (by kernel_rfl)) k1 bel lt1) (trodAll_cons_mk (Below.trod Errs.laidOut (by kernel_rfl) (of_decide_eq_true (by kernel_rfl)) k2 bel lt2) (trodAll_cons_mk (Below.trod Errs.laidOut (by kernel_rfl) (of_decide_eq_true (by kernel_rfl)) k3 bel lt3) trodAll_mk0)))), (Below.trodVars Errs.laidOut bel (by kernel_rfl) hV), bel.frame _, fun h => by cases h⟩

theorem laid_met (os : Os) : laidMet Tryd.prog Rows.fnExactSignRow.laid ((Errs.errW 0 Rows.laid_loop_example_g00211_impl_errDraw (Errs.errW 3 Rows.laid_loop_example_g00211_impl_errText (Errs.errW 2 Rows.laid_loop_example_g00211_impl_errSecret (Errs.errW 1 Rows.laid_loop_example_g00211_impl_errParams (World.holding Tryd.prog os ⟨#[], #[], []⟩))))).forCall (fun _ _ => 0) ⟨#[], #[.agg #[.int .i64 0, .int .i64 0, .int .i64 0], .int .i64 0, .string ByteArray.empty, .slice none 0 0], []⟩).memory :=
  laidMet_of_run' 8 (by kernel_rfl) (by kernel_rfl)

theorem reads (os : Os) {H : Type} (enc : TypeId × Value → H) : ∃ x, DataW.whole enc Tryd.prog ((Errs.errW 0 Rows.laid_loop_example_g00211_impl_errDraw (Errs.errW 3 Rows.laid_loop_example_g00211_impl_errText (Errs.errW 2 Rows.laid_loop_example_g00211_impl_errSecret (Errs.errW 1 Rows.laid_loop_example_g00211_impl_errParams (World.holding Tryd.prog os ⟨#[], #[], []⟩))))).forCall (fun _ _ => 0) ⟨#[], #[.agg #[.int .i64 0, .int .i64 0, .int .i64 0], .int .i64 0, .string ByteArray.empty, .slice none 0 0], []⟩).memory Tryd.f5.params.toList Rows.fnExactSignSpec.vars false (#[.agg #[.int .i64 0, .int .i64 0, .int .i64 0], .int .i64 0, .string ByteArray.empty, .slice none 0 0] : Array Value).toList 8 = some x :=
  Option.isSome_iff_exists.1 (by kernel_rfl)

set_option maxRecDepth 100000 in
theorem lifted (os : Os) (started : os.Started) (H : Type) (enc : TypeId × Value → H) (F : Stop.Interp) :
    ReturnsInHanded {} Tryd.checked os 5 .any ((OpenSpec.ofChange Rows.fnExactSignSpec).preRow enc Tryd.prog Tryd.f5 Rows.fnExactSignRow.domain false Rows.fnExactSignRow.laid) (((OpenSpec.ofChange Rows.fnExactSignSpec).at F).post enc Tryd.prog Tryd.f5 false true false false) := by
  obtain ⟨x, hx⟩ := reads os enc
  refine returnsInHanded_of_row (C := Tryd.checked) (s := OpenSpec.ofChange Rows.fnExactSignSpec) Errs.own started (by kernel_rfl) Tryd.func5
    (witness_row_at (enc := enc) (C := Tryd.checked) false (Errs.errW 0 Rows.laid_loop_example_g00211_impl_errDraw (Errs.errW 3 Rows.laid_loop_example_g00211_impl_errText (Errs.errW 2 Rows.laid_loop_example_g00211_impl_errSecret (Errs.errW 1 Rows.laid_loop_example_g00211_impl_errParams (World.holding Tryd.prog os ⟨#[], #[], []⟩))))) #[.agg #[.int .i64 0, .int .i64 0, .int .i64 0], .int .i64 0, .string ByteArray.empty, .slice none 0 0] rfl (by kernel_rfl) (by kernel_rfl) (by kernel_rfl)
      (OpenSpec.preRow_of_cond 8 hx rfl (fun k hk => by cases hk) (by kernel_rfl) (laid_met os))) ?_
  intro W base args ds gs before hval hW _ _ _ hL _ _
  exact contract H enc W base args ds gs before hval hW hL

theorem said : Rows.FnExactSignSaid :=
  OpenClaim.holds_of_cond 5 Tryd.f5 rfl rfl rfl rfl rfl rfl rfl ⟨rfl, rfl, rfl, rfl, rfl⟩ rfl rfl rfl rfl rfl (by kernel_rfl) Tryd.func5 (by kernel_rfl)
    (of_decide_eq_true (by kernel_rfl)) (by unfold Func.isWrapper; first | (rw [if_pos (by decide +kernel)]; kernel_rfl) | (rw [if_neg (by decide +kernel)]; exact ⟨rfl, rfl⟩))
    (fun os started H enc _ F => by rw [OpenClaim.pre_eq_preRow]; exact lifted os started H enc F)

theorem plain (f : FuncId) (fn : Func) (hf : Tryd.pinned.checked.prog.funcNamed "loop.example/g00211/laws.FnExactSign" = some f) (hfn : Tryd.pinned.checked.prog.funcs[f]? = some fn) :
    true = Tryd.pinned.checked.prog.looks [] ∧ ∀ (j : Nat) t, fn.params[j]? = some t → Tryd.pinned.checked.prog.wantsStandIn t = false := by
  obtain rfl : f = 5 := Option.some.inj ((show Tryd.prog.funcNamed "loop.example/g00211/laws.FnExactSign" = some 5 by kernel_rfl).symm.trans hf) |>.symm
  obtain rfl : fn = Tryd.f5 := (Option.some.inj (Tryd.func5.symm.trans hfn)).symm
  refine ⟨by kernel_rfl, fun j t ht => ?_⟩
  rw [Tryd.params5] at ht
  have hm : t = 23 ∨ t = 3 ∨ t = 9 ∨ t = 35 := by simpa using Array.mem_of_getElem? ht
  rcases hm with rfl | rfl | rfl | rfl
  · exact (show Tryd.prog.wantsStandIn 23 = false by kernel_rfl)
  · exact (show Tryd.prog.wantsStandIn 3 = false by kernel_rfl)
  · exact (show Tryd.prog.wantsStandIn 9 = false by kernel_rfl)
  · exact (show Tryd.prog.wantsStandIn 35 = false by kernel_rfl)

theorem card : Rows.FnExactSignCardSaid :=
  Claim7.holds_tied_plain_at .later [] _ _ _ _ said (fun _ h => by cases h) (by kernel_rfl) (fun _ h => by cases h) fnExactSign_row_tie rfl ⟨rfl, rfl⟩ (by kernel_rfl) rfl plain (by kernel_rfl)
end Go.Proofs.YthdenegheninaaiDoor.fnExactSign
namespace Go.Proofs.YthdenegheninaaiDoor
theorem FnExactSign_holds : Rows.FnExactSignCardSaid := fnExactSign.card
end Go.Proofs.YthdenegheninaaiDoor

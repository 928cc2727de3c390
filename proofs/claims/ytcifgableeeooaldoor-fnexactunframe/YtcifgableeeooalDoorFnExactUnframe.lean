/- For every text the law of Unframe answers true: the program's Unframe and its model return the same issuer, mark, text and reason. The program's table of runs is as its text lays it (the card ties it; over a pruned copy of the project). -/
import Derived.Test.YtcifgableeeooalDoorErrs
import Derived.Test.YtcifgableeeooalDoorPkRuns
import Derived.ShutString
import Derived.Lib.SmallJoins
import Derived.Test.YtcifgableeeooalDoorCards
import Derived.Test.YtcifgableeeooalDoorTie
import Derived.Test.YtcifgableeeooalDoorFrImpl
import Derived.Test.YtcifgableeeooalDoorFrSpec
namespace Go.Proofs.YtcifgableeeooalDoor.fnExactUnframe
open Go.ChangeShapes Go.WideShapes Go.ChangeAt Go.RowKit Go.Joins
open Go.ChangeMaps (open_string shut_string)
set_option linter.unusedVariables false
set_option linter.unusedSimpArgs false

set_option maxRecDepth 100000 in
set_option maxHeartbeats 4000000 in
theorem walk (a0 : ByteArray) (w0 : a0.size ≤ maxLen) (w : World)  (R : Pk.Runs w)  :
    Calls Tryd.prog 3 #[.string a0] w fun e w' => e = .returned (.bool true) ∧ Below w.heap.size w w' := by
  by_cases hb : a0.size ≤ 1048576
  · have hbI : ¬ (1048576 : Int) < (a0.size : Int) := by omega
    go_enter Tryd.func3, Tryd.ntmps3
    go_wp2_with fail
    refine (Fr.specUnframe_val a0 _ hb).mono ?_
    rintro e w1 ⟨rfl, L1⟩
    have N2 := Pk.new_below w1 (.cells #[.int .i64 (Fr.fR a0), .int .i64 (Fr.fS a0)] 23)
    have x2 := Pk.heap_new w1 (.cells #[.int .i64 (Fr.fR a0), .int .i64 (Fr.fS a0)] 23)
    have L2 := Pk.join_below L1 N2
    have R2 := R.on L2 R.lt
    go_wp2_with fail
    refine (Fr.implUnframe_val a0 _ hb R2).mono ?_
    generalize w1.alloc (.cells #[.int .i64 (Fr.fR a0), .int .i64 (Fr.fS a0)] 23) = W2 at *
    rintro e w3 ⟨rfl, L3⟩
    have x3 := Pk.kept L3 (Pk.lt_of x2) x2
    have N4 := Pk.new_below w3 (.cells #[.int .i64 (Fr.fR a0), .int .i64 (Fr.fS a0)] 23)
    have x4 := Pk.kept N4 (Pk.lt_of x3) x3
    have y4 := Pk.heap_new w3 (.cells #[.int .i64 (Fr.fR a0), .int .i64 (Fr.fS a0)] 23)
    have L4 := Pk.join_below L2 (Pk.join_below L3 N4)
    generalize Fr.fN a0 = n at *
    generalize Fr.fR a0 = r at *
    generalize Fr.fS a0 = s at *
    generalize Fr.fP a0 = p at *
    generalize Fr.fC a0 = c at *
    have q0 : (w3.alloc (.cells #[.int .i64 r, .int .i64 s] 23)).cell? ⟨w1.heap.size, 0, none⟩ = some (.int .i64 r) := Pk.cell_at x4 0
    have q1 : (w3.alloc (.cells #[.int .i64 r, .int .i64 s] 23)).cell? ⟨w1.heap.size, 1, none⟩ = some (.int .i64 s) := Pk.cell_at x4 1
    clear x2 x3 x4 y4 N2 N4 L1 L2 L3 R2 R
    go_wp2_with fail
    refine (Num.rd_eqMark r s _).mono ?_
    rintro e w5 ⟨rfl, L5⟩
    have L6 := Pk.join_below L4 L5
    go_wp2
    go_ret
    exact ⟨rfl, L6⟩
  · have hbI : (1048576 : Int) < (a0.size : Int) := by omega
    go_enter Tryd.func3, Tryd.ntmps3
    go_wp2
    go_ret
    exact ⟨rfl, Below.refl _ _⟩

theorem errs {W : World} (hL : laidMetH Tryd.prog Rows.fnExactUnframeRow.laid W) : Pk.Runs W := by
  have h0 : laidMet Tryd.prog [("loop.example/g00211/impl.fixedRuns", Rows.laid_loop_example_g00211_impl_fixedRuns)] W := hL
  exact Pk.runs_of h0

set_option maxRecDepth 100000 in
theorem contract (H : Type) (enc : TypeId × Value → H) (W : World) (base : Nat) (args : Array Value) (ds gs : List (DataW H)) (before : List MemPlace)
    (hval : ∀ (j : Nat) t v, Tryd.f3.params[j]? = some t → args[j]? = some v → Value.okWide Tryd.prog W .any base t v)
    (hW : DataW.Whole enc Tryd.prog Tryd.f3.params.toList Rows.fnExactUnframeSpec.vars false W args.toList ds gs before) (hL : laidMetH Tryd.prog Rows.fnExactUnframeRow.laid W) :
    Calls Tryd.prog 3 args W fun e W' => ∃ v, e = .returned v ∧ Rows.fnExactUnframeSpec.post enc Tryd.prog Tryd.f3 false true false false W args v W' := by
  have hW' := hW
  obtain ⟨p, q, hA0, hV, rfl, hfz, hnd⟩ := hW
  have hA : DataW.TrodAll enc Tryd.prog W 0 (fun _ => true) true Tryd.f3.params.toList args.toList ds p := hA0
  rw [Tryd.params3] at hA hval
  obtain ⟨v0, vs0, d0, ds0, p0, q0, hargs, rfl, rfl, h0, r0⟩ := trodAll_cons hA
  obtain ⟨rfl, rfl, rfl⟩ := trodAll_nil r0
  obtain rfl : args = #[v0] := by cases args; simp_all
  have hlen := Errs.vars_len hV
  obtain ⟨g0, gs0, rfl, hl0⟩ := Errs.len_cons hlen
  obtain rfl := List.length_eq_zero_iff.1 hl0
  have k0 := h0
  have lt0 : ∀ x ∈ p0, x.block < W.heap.size := by obtain ⟨m, hm⟩ := k0; exact DataW.trod_lt m _ _ _ hm
  obtain ⟨a0, rfl, rfl, rfl, w0⟩ := open_string Tryd.underlying9 (hval 0 9 v0 rfl rfl) h0
  clear hA0
  refine (walk a0 w0 W  (errs hL) ).mono fun e W' ⟨he, bel⟩ => ?_
  subst he
  exact ⟨_, rfl, _, _, _, [], _, _, hW', trodAll_mk1 (shut_bool Tryd.underlying4 _), (trodAll_cons_mk (Below.trod Errs.laidOut (by kernel_rfl) (of_decide_eq_true (by kernel_rfl)) k0 bel lt0) trodAll_mk0), (Below.trodVars Errs.laidOut bel (by kernel_rfl) hV), bel.frame _, fun h => by cases h⟩

theorem laid_met (os : Os) : laidMet Tryd.prog Rows.fnExactUnframeRow.laid ((Pk.runsW (World.holding Tryd.prog os ⟨#[], #[], []⟩)).forCall (fun _ _ => 0) ⟨#[], #[.string ByteArray.empty], []⟩).memory :=
  laidMet_of_run' 8 (by kernel_rfl) (by kernel_rfl)

theorem reads (os : Os) {H : Type} (enc : TypeId × Value → H) : ∃ x, DataW.whole enc Tryd.prog ((Pk.runsW (World.holding Tryd.prog os ⟨#[], #[], []⟩)).forCall (fun _ _ => 0) ⟨#[], #[.string ByteArray.empty], []⟩).memory Tryd.f3.params.toList Rows.fnExactUnframeSpec.vars false (#[.string ByteArray.empty] : Array Value).toList 8 = some x :=
  Option.isSome_iff_exists.1 (by kernel_rfl)

set_option maxRecDepth 100000 in
theorem lifted (os : Os) (started : os.Started) (H : Type) (enc : TypeId × Value → H) (F : Stop.Interp) :
    ReturnsInHanded {} Tryd.checked os 3 .any ((OpenSpec.ofChange Rows.fnExactUnframeSpec).preRow enc Tryd.prog Tryd.f3 Rows.fnExactUnframeRow.domain false Rows.fnExactUnframeRow.laid) (((OpenSpec.ofChange Rows.fnExactUnframeSpec).at F).post enc Tryd.prog Tryd.f3 false true false false) := by
  obtain ⟨x, hx⟩ := reads os enc
  refine returnsInHanded_of_row (C := Tryd.checked) (s := OpenSpec.ofChange Rows.fnExactUnframeSpec) Errs.own started (by kernel_rfl) Tryd.func3
    (witness_row_at (enc := enc) (C := Tryd.checked) false (Pk.runsW (World.holding Tryd.prog os ⟨#[], #[], []⟩)) #[.string ByteArray.empty] rfl (by kernel_rfl) (by kernel_rfl) (by kernel_rfl)
      (OpenSpec.preRow_of_cond 8 hx rfl (fun k hk => by cases hk) (by kernel_rfl) (laid_met os))) ?_
  intro W base args ds gs before hval hW _ _ _ hL _ _
  exact contract H enc W base args ds gs before hval hW hL

set_option maxRecDepth 100000 in
theorem said : Rows.FnExactUnframeSaid :=
  OpenClaim.holds_of_cond 3 Tryd.f3 rfl rfl rfl rfl rfl rfl rfl ⟨rfl, rfl, rfl, rfl, rfl⟩ rfl rfl rfl rfl rfl (by kernel_rfl) Tryd.func3 (by kernel_rfl)
    (of_decide_eq_true (by kernel_rfl)) (by unfold Func.isWrapper; first | (rw [if_pos (by decide +kernel)]; kernel_rfl) | (rw [if_neg (by decide +kernel)]; exact ⟨rfl, rfl⟩))
    (fun os started H enc _ F => by rw [OpenClaim.pre_eq_preRow]; exact lifted os started H enc F)

theorem plain (f : FuncId) (fn : Func) (hf : Tryd.pinned.checked.prog.funcNamed "loop.example/g00211/laws.FnExactUnframe" = some f) (hfn : Tryd.pinned.checked.prog.funcs[f]? = some fn) :
    true = Tryd.pinned.checked.prog.looks [] ∧ ∀ (j : Nat) t, fn.params[j]? = some t → Tryd.pinned.checked.prog.wantsStandIn t = false := by
  obtain rfl : f = 3 := Option.some.inj ((show Tryd.prog.funcNamed "loop.example/g00211/laws.FnExactUnframe" = some 3 by kernel_rfl).symm.trans hf) |>.symm
  obtain rfl : fn = Tryd.f3 := (Option.some.inj (Tryd.func3.symm.trans hfn)).symm
  refine ⟨by kernel_rfl, fun j t ht => ?_⟩
  rw [Tryd.params3] at ht
  obtain rfl : t = 9 := by simpa using Array.mem_of_getElem? ht
  exact (show Tryd.prog.wantsStandIn 9 = false by kernel_rfl)

theorem card : Rows.FnExactUnframeCardSaid :=
  Claim7.holds_tied_plain_at .later [] _ _ _ _ said (fun _ h => by cases h) (by kernel_rfl) (fun _ h => by cases h) fnExactUnframe_row_tie rfl ⟨rfl, rfl⟩ (by kernel_rfl) rfl plain (by kernel_rfl)
end Go.Proofs.YtcifgableeeooalDoor.fnExactUnframe
namespace Go.Proofs.YtcifgableeeooalDoor
theorem FnExactUnframe_holds : Rows.FnExactUnframeCardSaid := fnExactUnframe.card
end Go.Proofs.YtcifgableeeooalDoor

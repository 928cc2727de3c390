/- For every number the law of FixedCode answers true: the program's FixedCode and its model return the same bits, in memory of their own. The program's table of runs is as its text lays it (the card ties it; over a pruned copy of the project). -/
import Derived.Test.YtaocindfopipnajDoorErrs
import Derived.Test.YtaocindfopipnajDoorPkRuns
import Derived.ShutString
import Derived.Lib.SmallJoins
import Derived.Test.YtaocindfopipnajDoorCards
import Derived.Test.YtaocindfopipnajDoorTie
import Derived.Test.YtaocindfopipnajDoorPkFix
import Derived.Test.YtaocindfopipnajDoorPkInts
namespace Go.Proofs.YtaocindfopipnajDoor.fnExactFixedCode
open Go.ChangeShapes Go.WideShapes Go.ChangeAt Go.RowKit Go.Joins
open Go.ChangeMaps (open_string shut_string)
set_option linter.unusedVariables false

set_option maxHeartbeats 4000000 in
theorem walk (a0 : Int) (w0 : (Lit.int .i64 a0).wf = true) (w : World)  (R : Pk.Runs w) :
    Calls Tryd.prog 3 #[.int .i64 a0] w fun e w' => e = .returned (.bool true) ∧ Below w.heap.size w w' := by
  have hlen : (Pk.fixL a0).length ≤ 9 := by
    unfold Pk.fixL
    split
    · rw [Math.highL_length]; omega
    · split
      · rw [Math.highL_length]; omega
      · split
        · rw [Math.highL_length]; omega
        · split
          · rw [Math.highL_length]; omega
          · simp
  go_enter Tryd.func3, Tryd.ntmps3
  go_wp2_with fail
  refine (Pk.specFix_val a0 _).mono ?_
  rintro e w1 ⟨v1, rfl, J1, L1⟩
  have R1 := R.on L1 R.lt
  go_wp2_with fail
  refine (Pk.implFix_val a0 _ R1).mono ?_
  rintro e w2 ⟨v2, rfl, I2, L2⟩
  have J2 := Pk.own_below J1 L2 (Nat.le_refl _)
  have hJ : ∀ k, v1.ownBlock = some k → k < w1.heap.size := fun k hk => (J1.lt k hk).2
  have R2 := R1.on L2 R1.lt
  have L3 := Pk.join_below L1 L2
  have HW1 : Hid (w.heap.size ≤ w1.heap.size) := L1.size
  have hB2 : w1.heap.size ≤ w2.heap.size := L2.size
  have hg1 := R1.lt
  generalize hl : Pk.fixL a0 = l at *
  generalize hn : l.length = n at *
  have HL : Hid (l.length = n) := hn
  have HF : Hid (Pk.fixL a0 = l) := hl
  clear J1 L1 L2 R R1 hl hn
  go_wp2_with fail
  refine (Pk.eqInts_same _ _ v2 v1 l n _ (by omega) HL.out I2 J2).mono ?_
  rintro e w3 ⟨rfl, D3⟩
  have D3b := D3.below w1.heap.size
  have I3 := Pk.own_below I2 (D3.below w2.heap.size) (Nat.le_refl _)
  have J3 := Pk.own_keep J2 D3b hJ
  have R3 := R2.on D3b hg1
  have L4 := L3.trans (D3.below _)
  have hB3 : w1.heap.size ≤ w3.heap.size := Nat.le_trans hB2 D3b.size
  clear D3 D3b I2 J2 R2 L3 hB2
  go_wp2_with fail
  refine (Pk.markInts_val _ v2 l n _ (by omega) HL.out hB3 I3).mono ?_
  rintro e w4 ⟨rfl, I4, L5⟩
  have J4 := Pk.own_keep J3 L5 hJ
  have R4 := R3.on L5 hg1
  have hw1 : w.heap.size ≤ w1.heap.size := HW1.out
  have L6 := L4.trans (L5.mono hw1)
  have hB4 : w1.heap.size ≤ w4.heap.size := Nat.le_trans hB3 L5.size
  clear I3 J3 R3 L4 L5 hB3
  go_wp2_with fail
  refine (Pk.heldInts_val _ v2 l n _ (by omega) HL.out I4).mono ?_
  rintro e w5 ⟨rfl, rfl⟩
  go_wp2_with fail
  refine (Pk.implFix_val a0 _ R4).mono ?_
  rw [HF.out, HL.out]
  rintro e w6 ⟨v6, rfl, I6, L7⟩
  have J6 := Pk.own_below J4 L7 (Nat.le_refl _)
  have K6 := Pk.own_below I4 L7 (Nat.le_refl _)
  have L8 := Pk.join_below L6 L7
  clear I4 J4 R4 L6 L7
  go_wp2_with fail
  refine (Pk.eqInts_same _ _ v6 v1 l n _ (by omega) HL.out I6 J6).mono ?_
  rintro e w7 ⟨rfl, D7⟩
  have K7 := Pk.own_below K6 (D7.below w6.heap.size) (Nat.le_refl _)
  have L9 := L8.trans (D7.below _)
  go_wp2_with fail
  refine (Pk.heldInts_val _ v2 l n _ (by omega) HL.out K7).mono ?_
  rintro e w8 ⟨rfl, rfl⟩
  go_wp2
  go_ret
  exact ⟨rfl, L9⟩

theorem errs {W : World} (hL : laidMetH Tryd.prog Rows.fnExactFixedCodeRow.laid W) : Pk.Runs W := by
  have h0 : laidMet Tryd.prog [("loop.example/g00211/impl.fixedRuns", Rows.laid_loop_example_g00211_impl_fixedRuns)] W := hL
  exact Pk.runs_of h0

set_option maxRecDepth 100000 in
theorem contract (H : Type) (enc : TypeId × Value → H) (W : World) (base : Nat) (args : Array Value) (ds gs : List (DataW H)) (before : List MemPlace)
    (hval : ∀ (j : Nat) t v, Tryd.f3.params[j]? = some t → args[j]? = some v → Value.okWide Tryd.prog W .any base t v)
    (hW : DataW.Whole enc Tryd.prog Tryd.f3.params.toList Rows.fnExactFixedCodeSpec.vars false W args.toList ds gs before) (hL : laidMetH Tryd.prog Rows.fnExactFixedCodeRow.laid W) :
    Calls Tryd.prog 3 args W fun e W' => ∃ v, e = .returned v ∧ Rows.fnExactFixedCodeSpec.post enc Tryd.prog Tryd.f3 false true false false W args v W' := by
  have hW' := hW
  obtain ⟨p, q, hA0, hV, rfl, hfz, hnd⟩ := hW
  have hA : DataW.TrodAll enc Tryd.prog W 0 (fun _ => true) true Tryd.f3.params.toList args.toList ds p := hA0
  rw [Tryd.params3] at hA hval
  obtain ⟨v0, vs0, d0, ds0, p0, q0, hargs, rfl, rfl, h0, r0⟩ := trodAll_cons hA
  obtain ⟨rfl, rfl, rfl⟩ := trodAll_nil r0
  obtain rfl : args = #[v0] := by cases args; simp_all
  have hlen := Errs.vars_len hV
  obtain ⟨g0, gs0, rfl, hl0⟩ := Errs.len_cons hlen
  obtain rfl := List.length_eq_zero_iff.1 hl0
  have k0 := h0
  have lt0 : ∀ x ∈ p0, x.block < W.heap.size := by obtain ⟨m, hm⟩ := k0; exact DataW.trod_lt m _ _ _ hm
  obtain ⟨a0, rfl, rfl, rfl, w0⟩ := open_int Tryd.underlying3 (hval 0 3 v0 rfl rfl) h0
  clear hA0
  refine (walk a0 w0 W  (errs hL)).mono fun e W' ⟨he, bel⟩ => ?_
  subst he
  exact ⟨_, rfl, _, _, _, [], _, _, hW', trodAll_mk1 (shut_bool Tryd.underlying4 _), (trodAll_cons_mk (Below.trod Errs.laidOut (by kernel_rfl) (of_decide_eq_true (by kernel_rfl)) k0 bel lt0) trodAll_mk0), (Below.trodVars Errs.laidOut bel (by kernel_rfl) hV), bel.frame _, fun h => by cases h⟩

theorem laid_met (os : Os) : laidMet Tryd.prog Rows.fnExactFixedCodeRow.laid ((Pk.runsW (World.holding Tryd.prog os ⟨#[], #[], []⟩)).forCall (fun _ _ => 0) ⟨#[], #[.int .i64 0], []⟩).memory :=
  laidMet_of_run' 8 (by kernel_rfl) (by kernel_rfl)

theorem reads (os : Os) {H : Type} (enc : TypeId × Value → H) : ∃ x, DataW.whole enc Tryd.prog ((Pk.runsW (World.holding Tryd.prog os ⟨#[], #[], []⟩)).forCall (fun _ _ => 0) ⟨#[], #[.int .i64 0], []⟩).memory Tryd.f3.params.toList Rows.fnExactFixedCodeSpec.vars false (#[.int .i64 0] : Array Value).toList 8 = some x :=
  Option.isSome_iff_exists.1 (by kernel_rfl)

set_option maxRecDepth 100000 in
theorem lifted (os : Os) (started : os.Started) (H : Type) (enc : TypeId × Value → H) (F : Stop.Interp) :
    ReturnsInHanded {} Tryd.checked os 3 .any ((OpenSpec.ofChange Rows.fnExactFixedCodeSpec).preRow enc Tryd.prog Tryd.f3 Rows.fnExactFixedCodeRow.domain false Rows.fnExactFixedCodeRow.laid) (((OpenSpec.ofChange Rows.fnExactFixedCodeSpec).at F).post enc Tryd.prog Tryd.f3 false true false false) := by
  obtain ⟨x, hx⟩ := reads os enc
  refine returnsInHanded_of_row (C := Tryd.checked) (s := OpenSpec.ofChange Rows.fnExactFixedCodeSpec) Errs.own started (by kernel_rfl) Tryd.func3
    (witness_row_at (enc := enc) (C := Tryd.checked) false (Pk.runsW (World.holding Tryd.prog os ⟨#[], #[], []⟩)) #[.int .i64 0] rfl (by kernel_rfl) (by kernel_rfl) (by kernel_rfl)
      (OpenSpec.preRow_of_cond 8 hx rfl (fun k hk => by cases hk) (by kernel_rfl) (laid_met os))) ?_
  intro W base args ds gs before hval hW _ _ _ hL _ _
  exact contract H enc W base args ds gs before hval hW hL

theorem said : Rows.FnExactFixedCodeSaid :=
  OpenClaim.holds_of_cond 3 Tryd.f3 rfl rfl rfl rfl rfl rfl rfl ⟨rfl, rfl, rfl, rfl, rfl⟩ rfl rfl rfl rfl rfl (by kernel_rfl) Tryd.func3 (by kernel_rfl)
    (of_decide_eq_true (by kernel_rfl)) (by unfold Func.isWrapper; first | (rw [if_pos (by decide +kernel)]; kernel_rfl) | (rw [if_neg (by decide +kernel)]; exact ⟨rfl, rfl⟩))
    (fun os started H enc _ F => by rw [OpenClaim.pre_eq_preRow]; exact lifted os started H enc F)

theorem plain (f : FuncId) (fn : Func) (hf : Tryd.pinned.checked.prog.funcNamed "loop.example/g00211/laws.FnExactFixedCode" = some f) (hfn : Tryd.pinned.checked.prog.funcs[f]? = some fn) :
    false = Tryd.pinned.checked.prog.looks [] ∧ ∀ (j : Nat) t, fn.params[j]? = some t → Tryd.pinned.checked.prog.wantsStandIn t = false := by
  obtain rfl : f = 3 := Option.some.inj ((show Tryd.prog.funcNamed "loop.example/g00211/laws.FnExactFixedCode" = some 3 by kernel_rfl).symm.trans hf) |>.symm
  obtain rfl : fn = Tryd.f3 := (Option.some.inj (Tryd.func3.symm.trans hfn)).symm
  refine ⟨by kernel_rfl, fun j t ht => ?_⟩
  rw [Tryd.params3] at ht
  obtain rfl : t = 3 := by simpa using Array.mem_of_getElem? ht
  exact (show Tryd.prog.wantsStandIn 3 = false by kernel_rfl)

theorem card : Rows.FnExactFixedCodeCardSaid :=
  Claim7.holds_tied_plain_at .later [] _ _ _ _ said (fun _ h => by cases h) (by kernel_rfl) (fun _ h => by cases h) fnExactFixedCode_row_tie rfl ⟨rfl, rfl⟩ (by kernel_rfl) rfl plain (by kernel_rfl)
end Go.Proofs.YtaocindfopipnajDoor.fnExactFixedCode
namespace Go.Proofs.YtaocindfopipnajDoor
theorem FnExactFixedCode_holds : Rows.FnExactFixedCodeCardSaid := fnExactFixedCode.card
end Go.Proofs.YtaocindfopipnajDoor

/- For every list of holds the law of HoldsOk answers true: the program's HoldsOk and its model return the same, and no hold of the list is turned. No condition. -/
import Derived.Test.YtikdganlpedbeapErrs
import Derived.ShutString
import Derived.Lib.SmallJoins
import Derived.Test.YtikdganlpedbeapSeFree
namespace Go.Proofs.Ytikdganlpedbeap.fnExactHoldsOk
open Go.ChangeShapes Go.WideShapes Go.ChangeAt Go.RowKit Go.Joins
open Go.ChangeMaps (open_string shut_string)
set_option linter.unusedVariables false
set_option linter.unusedSimpArgs false

set_option maxRecDepth 100000 in
set_option maxHeartbeats 4000000 in
theorem walk (a0 : Option Addr) (cap0 : Nat) (z0 : List Se.Hl) (w : World) (w0 : Se.Holds w a0 z0 ∧ z0.length ≤ maxLen ∧ Se.Wfs z0)  :
    Calls Try.prog 5 #[.slice a0 z0.length cap0] w fun e w' => e = .returned (.bool true) ∧ Below w.heap.size w w' := by
  obtain ⟨I, hm, hwf⟩ := w0
  have HM : Hid (z0.length ≤ maxLen) := hm
  by_cases hb : z0.length ≤ 1048576
  · have hz : z0.length ≤ 1048576 := hb
    have hd : decide (1048576 - (z0.length : Int) < 0) = false := decide_eq_false (by omega)
    clear hm
    go_enter Try.func5, Try.ntmps5
    go_wp2_with fail
    refine (Se.szHoldS_yes a0 z0.length cap0 1048576 _ (by omega) (by omega)).mono ?_
    rintro e w1 ⟨rfl, rfl⟩
    go_wp2_with fail
    refine (Se.toHoldS_val a0 z0 cap0 _ hz I).mono ?_
    rintro e w2 ⟨rfl, L2, I2, -, -⟩
    go_wp2_with fail
    refine (Se.specHolds_val _ z0 _ _ HM.out I2).mono ?_
    rintro e w3 ⟨rfl, L3⟩
    have K3 := Pk.join_below L2 L3
    clear I2 L2 L3
    go_wp2_with fail
    refine (Se.toHoldS_val a0 z0 cap0 _ hz (I.on K3)).mono ?_
    rintro e w4 ⟨rfl, L4, I4, -, -⟩
    have K4 := Pk.join_below K3 L4
    clear K3 L4
    go_wp2_with fail
    refine (Se.implHolds_val _ z0 _ _ HM.out I4 hwf).mono ?_
    rintro e w5 ⟨rfl, L5⟩
    have I5 := I4.on L5
    have K5 := Pk.join_below K4 L5
    clear I4 K4 L5
    generalize Se.holdsB z0 = B at *
    cases B
    all_goals
      go_wp2_with fail
      refine (Se.toHoldS_val a0 z0 cap0 _ hz (I.on K5)).mono ?_
      rintro e w6 ⟨rfl, L6, I6, -, -⟩
      have J6 := I5.on L6
      have K6 := Pk.join_below K5 L6
      go_wp2_with fail
      refine (Se.eqHoldS_same _ _ z0 _ _ _ hz J6 I6).mono ?_
      rintro e w7 ⟨rfl, L7⟩
      have K7 := Pk.join_below K6 L7
      go_wp2
      go_ret
      exact ⟨rfl, K7⟩
  · have HB : Hid (¬ z0.length ≤ 1048576) := hb
    clear hm hb
    go_enter Try.func5, Try.ntmps5
    go_wp2_with fail
    refine (Se.szHoldS_no a0 z0.length cap0 1048576 _ (by omega) (by omega) HM.out (by have := HB.out; omega)).mono ?_
    rintro e w1 ⟨rfl, rfl⟩
    go_wp2
    go_ret
    exact ⟨rfl, Below.refl _ _⟩

set_option maxRecDepth 100000 in
theorem contract (H : Type) (enc : TypeId × Value → H) (W : World) (base : Nat) (args : Array Value) (ds gs : List (DataW H)) (before : List MemPlace)
    (hval : ∀ (j : Nat) t v, Try.f5.params[j]? = some t → args[j]? = some v → Value.okWide Try.prog W .any base t v)
    (hW : DataW.Whole enc Try.prog Try.f5.params.toList Rows.fnExactHoldsOkSpec.vars false W args.toList ds gs before) :
    Calls Try.prog 5 args W fun e W' => ∃ v, e = .returned v ∧ Rows.fnExactHoldsOkSpec.post enc Try.prog Try.f5 false true false false W args v W' := by
  have hW' := hW
  obtain ⟨p, q, hA0, hV, rfl, hfz, hnd⟩ := hW
  have hA : DataW.TrodAll enc Try.prog W 0 (fun _ => true) true Try.f5.params.toList args.toList ds p := hA0
  rw [Try.params5] at hA hval
  obtain ⟨v0, vs0, d0, ds0, p0, q0, hargs, rfl, rfl, h0, r0⟩ := trodAll_cons hA
  obtain ⟨rfl, rfl, rfl⟩ := trodAll_nil r0
  obtain rfl : args = #[v0] := by cases args; simp_all
  obtain ⟨rfl, rfl⟩ := trodVars_none hV
  have k0 := h0
  have lt0 : ∀ x ∈ p0, x.block < W.heap.size := by obtain ⟨m, hm⟩ := k0; exact DataW.trod_lt m _ _ _ hm
  obtain ⟨a0, len0, cap0, rfl⟩ := okWide_slice Try.underlying32 (hval 0 32 v0 rfl rfl)
  obtain ⟨z0, w0, rfl⟩ : ∃ zs : List Se.Hl, (Se.Holds W a0 zs ∧ zs.length ≤ maxLen ∧ Se.Wfs zs) ∧ zs.length = len0 := by
    obtain ⟨fuel, hf⟩ := h0
    obtain ⟨a, cap, ts, e, hh⟩ := Se.holds_open hf
    simp [Value.cells] at e
    obtain ⟨rfl, rfl, rfl⟩ := e
    exact ⟨ts, ⟨hh.2.1, hh.1, hh.2.2⟩, rfl⟩
  clear hA0
  refine (walk a0 cap0 z0 W w0 ).mono fun e W' ⟨he, bel⟩ => ?_
  subst he
  exact ⟨_, rfl, _, _, _, [], _, [], hW', trodAll_mk1 (shut_bool Try.underlying4 _), (trodAll_cons_mk (Below.trod Errs.laidOut (by kernel_rfl) (of_decide_eq_true (by kernel_rfl)) k0 bel lt0) trodAll_mk0), rfl, bel.frame _, fun h => by cases h⟩

set_option maxRecDepth 100000 in
theorem lifted (os : Os) (started : os.Started) (H : Type) (enc : TypeId × Value → H) :
    ReturnsInHanded {} Try.checked os 5 .any (Rows.fnExactHoldsOkSpec.pre6 enc Try.prog Try.f5 Rows.fnExactHoldsOkRow.domain false) (Rows.fnExactHoldsOkSpec.post enc Try.prog Try.f5 false true false false) := by
  refine returnsInHanded_of_change (C := Try.checked) Errs.own started (by kernel_rfl) Try.func5
    (ChangeSpec.witness6 (enc := enc) (C := Try.checked) false ⟨#[], #[.slice none 0 0], []⟩ 8 (by kernel_rfl) (by kernel_rfl) (by kernel_rfl) (by kernel_rfl)) ?_
  intro W base args ds gs before hval hW _ _
  exact contract H enc W base args ds gs before hval hW

set_option maxRecDepth 100000 in
theorem over : Rows.fnExactHoldsOkRow.holds Try.pinned (OpenSpec.ofChange Rows.fnExactHoldsOkSpec) :=
  OpenClaim.holds_of_wide 5 Try.f5 rfl rfl rfl rfl rfl rfl rfl ⟨rfl, rfl, rfl, rfl, rfl⟩ rfl rfl rfl rfl rfl (by kernel_rfl) Try.func5 (by kernel_rfl)
    (of_decide_eq_true (by kernel_rfl)) (by unfold Func.isWrapper; first | (rw [if_pos (by decide +kernel)]; kernel_rfl) | (rw [if_neg (by decide +kernel)]; exact ⟨rfl, rfl⟩))
    (fun os started H enc _ => lifted os started H enc)
end Go.Proofs.Ytikdganlpedbeap.fnExactHoldsOk
namespace Go.Proofs.Ytikdganlpedbeap
theorem FnExactHoldsOk_holds : Rows.FnExactHoldsOkSaid := fnExactHoldsOk.over
end Go.Proofs.Ytikdganlpedbeap

/- For every list of trains the law of LinesOk answers true: the program's LinesOk and its model return the same, and nothing of the list is turned. No condition. -/
import Derived.Test.YtbjojljmgcnpnanErrs
import Derived.ShutString
import Derived.Lib.SmallJoins
import Derived.Test.YtbjojljmgcnpnanTnLinesS
namespace Go.Proofs.Ytbjojljmgcnpnan.fnExactLinesOk
open Go.ChangeShapes Go.WideShapes Go.ChangeAt Go.RowKit Go.Joins
open Go.ChangeMaps (open_string shut_string)
set_option linter.unusedVariables false

set_option maxRecDepth 100000 in
set_option maxHeartbeats 4000000 in
theorem walk (a0 : Option Addr) (cap0 : Nat) (z0 : List Tn.Tr) (w : World) (w0 : Tn.TrainsA w a0 z0 ∧ z0.length ≤ maxLen ∧ ∀ i (h : i < z0.length), z0[i].l.length ≤ maxLen)   :
    Calls Try.prog 6 #[.slice a0 z0.length cap0] w fun e w' => e = .returned (.bool true) ∧ Below w.heap.size w w' := by
  obtain ⟨I, hn, hs⟩ := w0
  by_cases hb : Tn.bulk z0 ≤ 1048576
  · have hd : decide (1048576 - (Tn.bulk z0 : Int) < 0) = false := decide_eq_false (by omega)
    have HB : Hid (Tn.bulk z0 ≤ 1048576) := hb
    have HN : Hid (z0.length ≤ maxLen) := hn
    have HS : Hid (∀ i (h : i < z0.length), z0[i].l.length ≤ maxLen) := hs
    clear hn hs
    go_enter Try.func6, Try.ntmps6
    go_wp2_with fail
    refine (Tn.szTrainS_yes a0 z0 cap0 _ HB.out I).mono ?_
    rintro e w1 ⟨rfl, L1⟩
    go_wp2_with fail
    refine (Tn.toTrainS_val a0 z0 cap0 _ HB.out (I.on L1)).mono ?_
    rintro e w2 ⟨rfl, L2, hl2, M2⟩
    have T2 := M2.trains hl2
    have L3 := Pk.join_below L1 L2
    clear M2
    go_wp2_with fail
    refine (Tn.specLines_val _ z0 _ _ HN.out HS.out T2).mono ?_
    rintro e w4 ⟨rfl, L4⟩
    have L5 := Pk.join_below L3 L4
    clear T2 L3 L4 hl2
    go_wp2_with fail
    refine (Tn.toTrainS_val a0 z0 cap0 _ HB.out (I.on L5)).mono ?_
    rintro e w6 ⟨rfl, L6, hl6, M6⟩
    have T6 := M6.trains hl6
    have L7 := Pk.join_below L5 L6
    clear M6
    go_wp2_with fail
    refine (Tn.implLines_val _ z0 _ _ HN.out HS.out T6).mono ?_
    rintro e w8 ⟨rfl, L8⟩
    have T8 := T6.on L8
    have L9 := Pk.join_below L7 L8
    clear T6 L7 L8 hl6
    generalize Tn.linesB z0 = B at *
    cases B
    all_goals
      go_wp2_with fail
      refine (Tn.toTrainS_val a0 z0 cap0 _ HB.out (I.on L9)).mono ?_
      rintro e w10 ⟨rfl, L10, hl10, M10⟩
      have T10 := M10.trains hl10
      have T11 := T8.on L10
      have L11 := Pk.join_below L9 L10
      clear M10
      go_wp2_with fail
      refine (Tn.eqTrainS_same _ _ z0 _ _ _ HB.out T11 T10).mono ?_
      rintro e w12 ⟨rfl, L12⟩
      have L13 := Pk.join_below L11 L12
      go_wp2
      go_ret
      exact ⟨rfl, L13⟩
  · have HM : Hid (_ ∧ _ ∧ _) := ⟨hn, hs, hb⟩
    clear hn hs hb
    go_enter Try.func6, Try.ntmps6
    go_wp2_with fail
    refine (Tn.szTrainS_no a0 z0 cap0 _ HM.out.1 HM.out.2.1 HM.out.2.2 I).mono ?_
    rintro e w1 ⟨rfl, L1⟩
    go_wp2
    go_ret
    exact ⟨rfl, L1⟩

set_option maxRecDepth 100000 in
theorem contract (H : Type) (enc : TypeId × Value → H) (W : World) (base : Nat) (args : Array Value) (ds gs : List (DataW H)) (before : List MemPlace)
    (hval : ∀ (j : Nat) t v, Try.f6.params[j]? = some t → args[j]? = some v → Value.okWide Try.prog W .any base t v)
    (hW : DataW.Whole enc Try.prog Try.f6.params.toList Rows.fnExactLinesOkSpec.vars false W args.toList ds gs before) :
    Calls Try.prog 6 args W fun e W' => ∃ v, e = .returned v ∧ Rows.fnExactLinesOkSpec.post enc Try.prog Try.f6 false true false false W args v W' := by
  have hW' := hW
  obtain ⟨p, q, hA0, hV, rfl, hfz, hnd⟩ := hW
  have hA : DataW.TrodAll enc Try.prog W 0 (fun _ => true) true Try.f6.params.toList args.toList ds p := hA0
  rw [Try.params6] at hA hval
  obtain ⟨v0, vs0, d0, ds0, p0, q0, hargs, rfl, rfl, h0, r0⟩ := trodAll_cons hA
  obtain ⟨rfl, rfl, rfl⟩ := trodAll_nil r0
  obtain rfl : args = #[v0] := by cases args; simp_all
  obtain ⟨rfl, rfl⟩ := trodVars_none hV
  have k0 := h0
  have lt0 : ∀ x ∈ p0, x.block < W.heap.size := by obtain ⟨m, hm⟩ := k0; exact DataW.trod_lt m _ _ _ hm
  obtain ⟨a0, len0, cap0, rfl⟩ := okWide_slice Try.underlying37 (hval 0 37 v0 rfl rfl)
  obtain ⟨z0, w0, rfl⟩ : ∃ zs : List Tn.Tr, (Tn.TrainsA W a0 zs ∧ zs.length ≤ maxLen ∧ ∀ i (h : i < zs.length), zs[i].l.length ≤ maxLen) ∧ zs.length = len0 := by
    obtain ⟨fuel, hf⟩ := h0
    obtain ⟨a, cap, ts, e, hh⟩ := Tn.trains_open hf
    simp [Value.cells] at e
    obtain ⟨rfl, rfl, rfl⟩ := e
    exact ⟨ts, ⟨hh.2.2, hh.1, hh.2.1⟩, rfl⟩
  clear hA0
  refine (walk a0 cap0 z0 W w0 ).mono fun e W' ⟨he, bel⟩ => ?_
  subst he
  exact ⟨_, rfl, _, _, _, [], _, [], hW', trodAll_mk1 (shut_bool Try.underlying4 _), (trodAll_cons_mk (Below.trod Errs.laidOut (by kernel_rfl) (of_decide_eq_true (by kernel_rfl)) k0 bel lt0) trodAll_mk0), rfl, bel.frame _, fun h => by cases h⟩

set_option maxRecDepth 100000 in
theorem lifted (os : Os) (started : os.Started) (H : Type) (enc : TypeId × Value → H) :
    ReturnsInHanded {} Try.checked os 6 .any (Rows.fnExactLinesOkSpec.pre6 enc Try.prog Try.f6 Rows.fnExactLinesOkRow.domain false) (Rows.fnExactLinesOkSpec.post enc Try.prog Try.f6 false true false false) := by
  refine returnsInHanded_of_change (C := Try.checked) Errs.own started (by kernel_rfl) Try.func6
    (ChangeSpec.witness6 (enc := enc) (C := Try.checked) false ⟨#[], #[.slice none 0 0], []⟩ 8 (by kernel_rfl) (by kernel_rfl) (by kernel_rfl) (by kernel_rfl)) ?_
  intro W base args ds gs before hval hW _ _
  exact contract H enc W base args ds gs before hval hW

set_option maxRecDepth 100000 in
theorem over : Rows.fnExactLinesOkRow.holds Try.pinned (OpenSpec.ofChange Rows.fnExactLinesOkSpec) :=
  OpenClaim.holds_of_wide 6 Try.f6 rfl rfl rfl rfl rfl rfl rfl ⟨rfl, rfl, rfl, rfl, rfl⟩ rfl rfl rfl rfl rfl (by kernel_rfl) Try.func6 (by kernel_rfl)
    (of_decide_eq_true (by kernel_rfl)) (by unfold Func.isWrapper; first | (rw [if_pos (by decide +kernel)]; kernel_rfl) | (rw [if_neg (by decide +kernel)]; exact ⟨rfl, rfl⟩))
    (fun os started H enc _ => lifted os started H enc)
end Go.Proofs.Ytbjojljmgcnpnan.fnExactLinesOk
namespace Go.Proofs.Ytbjojljmgcnpnan
theorem FnExactLinesOk_holds : Rows.FnExactLinesOkSaid := fnExactLinesOk.over
end Go.Proofs.Ytbjojljmgcnpnan

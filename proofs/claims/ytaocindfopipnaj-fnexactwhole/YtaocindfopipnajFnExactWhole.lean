/- For every list of pieces the law of Whole answers true: the program's Whole and its model return the same text and the same answer, and no piece of the list is turned. No condition. -/
import Derived.Test.YtaocindfopipnajErrs
import Derived.ShutString
import Derived.Lib.SmallJoins
import Derived.Test.YtaocindfopipnajPkWholeS
import Derived.Test.YtaocindfopipnajPkPcs
import Derived.Test.YtaocindfopipnajOpenPcs
namespace Go.Proofs.Ytaocindfopipnaj.fnExactWhole
open Go.ChangeShapes Go.WideShapes Go.ChangeAt Go.RowKit Go.Joins
open Go.ChangeMaps (open_string shut_string)
set_option linter.unusedVariables false

set_option maxHeartbeats 4000000 in
theorem walk (a0 : Option Addr) (cap0 : Nat) (z0 : List Math.Pc) (w : World) (w0 : Pk.Pcs w a0 z0 ∧ z0.length ≤ maxLen)  :
    Calls Try.prog 4 #[.slice a0 z0.length cap0] w fun e w' => e = .returned (.bool true) ∧ Below w.heap.size w w' := by
  obtain ⟨I, hm⟩ := w0
  by_cases hb : z0.length ≤ 1048576
  · have h0 : (0 : Int) ≤ 1048576 - (z0.length : Int) := by omega
    have hd : decide (1048576 - (z0.length : Int) < 0) = false := decide_eq_false (by omega)
    clear hm
    go_enter Try.func4, Try.ntmps4
    go_wp2_with fail
    refine (Pk.szPieceS_yes a0 z0.length cap0 _ hb).mono ?_
    rintro e w1 ⟨rfl, rfl⟩
    go_wp2_with fail
    refine (Pk.toPieceS_val a0 z0 cap0 _ hb I).mono ?_
    rintro e w2 ⟨rfl, L2, I2⟩
    go_wp2_with fail
    refine (Pk.specWhole_val _ z0 _ _ hb I2).mono ?_
    rintro e w3 ⟨rfl, L3⟩
    have L4 := Pk.join_below L2 L3
    go_wp2_with fail
    refine (Pk.toPieceS_val a0 z0 cap0 _ hb (I.on L4)).mono ?_
    rintro e w5 ⟨rfl, L5, I5⟩
    have L6 := Pk.join_below L4 L5
    go_wp2_with fail
    refine (Pk.implWhole_val _ z0 _ _ hb I5).mono ?_
    generalize Math.wholeS z0 = S at *
    generalize Math.wholeB z0 = B at *
    rintro e w7 ⟨rfl, L7⟩
    have L8 := Pk.join_below L6 L7
    have I7 := I5.on L7
    clear L2 L3 L4 L5 L6 L7 I2 I5
    go_wp2_with fail
    refine (Pk.toPieceS_val a0 z0 cap0 _ hb (I.on L8)).mono ?_
    rintro e w9 ⟨rfl, L9, I9⟩
    go_wp2_with fail
    refine (Pk.eqPieceS_same _ _ z0 _ _ _ hb (I7.on L9) I9).mono ?_
    rintro e w10 ⟨rfl, L10⟩
    go_wp2
    go_ret
    exact ⟨rfl, Pk.join_below L8 (Pk.join_below L9 L10)⟩
  · have HM : Hid (_ ∧ _) := ⟨hm, hb⟩
    clear hm hb
    go_enter Try.func4, Try.ntmps4
    go_wp2_with fail
    refine (Pk.szPieceS_no a0 z0.length cap0 _ HM.out.1 HM.out.2).mono ?_
    rintro e w1 ⟨rfl, rfl⟩
    go_wp2
    go_ret
    exact ⟨rfl, Below.refl _ _⟩

set_option maxRecDepth 100000 in
theorem contract (H : Type) (enc : TypeId × Value → H) (W : World) (base : Nat) (args : Array Value) (ds gs : List (DataW H)) (before : List MemPlace)
    (hval : ∀ (j : Nat) t v, Try.f4.params[j]? = some t → args[j]? = some v → Value.okWide Try.prog W .any base t v)
    (hW : DataW.Whole enc Try.prog Try.f4.params.toList Rows.fnExactWholeSpec.vars false W args.toList ds gs before) :
    Calls Try.prog 4 args W fun e W' => ∃ v, e = .returned v ∧ Rows.fnExactWholeSpec.post enc Try.prog Try.f4 false true false false W args v W' := by
  have hW' := hW
  obtain ⟨p, q, hA0, hV, rfl, hfz, hnd⟩ := hW
  have hA : DataW.TrodAll enc Try.prog W 0 (fun _ => true) true Try.f4.params.toList args.toList ds p := hA0
  rw [Try.params4] at hA hval
  obtain ⟨v0, vs0, d0, ds0, p0, q0, hargs, rfl, rfl, h0, r0⟩ := trodAll_cons hA
  obtain ⟨rfl, rfl, rfl⟩ := trodAll_nil r0
  obtain rfl : args = #[v0] := by cases args; simp_all
  obtain ⟨rfl, rfl⟩ := trodVars_none hV
  have k0 := h0
  have lt0 : ∀ x ∈ p0, x.block < W.heap.size := by obtain ⟨m, hm⟩ := k0; exact DataW.trod_lt m _ _ _ hm
  obtain ⟨a0, len0, cap0, rfl⟩ := okWide_slice Try.underlying27 (hval 0 27 v0 rfl rfl)
  obtain ⟨z0, w0, rfl⟩ : ∃ zs : List Math.Pc, (Pk.Pcs W a0 zs ∧ zs.length ≤ maxLen) ∧ zs.length = len0 := by
    obtain ⟨fuel, hf⟩ := h0
    rcases Pk.pcs_open hf with hcs | ⟨x, l, c, hcs, hm, zs, hz, P⟩
    · simp [Value.cells] at hcs
      obtain ⟨rfl, rfl, rfl⟩ := hcs
      exact ⟨[], ⟨.inl rfl, by simp⟩, rfl⟩
    · simp [Value.cells] at hcs
      obtain ⟨rfl, rfl, rfl⟩ := hcs
      exact ⟨zs, ⟨P, by omega⟩, hz⟩
  clear hA0
  refine (walk a0 cap0 z0 W w0 ).mono fun e W' ⟨he, bel⟩ => ?_
  subst he
  exact ⟨_, rfl, _, _, _, [], _, [], hW', trodAll_mk1 (shut_bool Try.underlying4 _), (trodAll_cons_mk (Below.trod Errs.laidOut (by kernel_rfl) (of_decide_eq_true (by kernel_rfl)) k0 bel lt0) trodAll_mk0), rfl, bel.frame _, fun h => by cases h⟩

theorem lifted (os : Os) (started : os.Started) (H : Type) (enc : TypeId × Value → H) :
    ReturnsInHanded {} Try.checked os 4 .any (Rows.fnExactWholeSpec.pre6 enc Try.prog Try.f4 Rows.fnExactWholeRow.domain false) (Rows.fnExactWholeSpec.post enc Try.prog Try.f4 false true false false) := by
  refine returnsInHanded_of_change (C := Try.checked) Errs.own started (by kernel_rfl) Try.func4
    (ChangeSpec.witness6 (enc := enc) (C := Try.checked) false ⟨#[], #[.slice none 0 0], []⟩ 8 (by kernel_rfl) (by kernel_rfl) (by kernel_rfl) (by kernel_rfl)) ?_
  intro W base args ds gs before hval hW _ _
  exact contract H enc W base args ds gs before hval hW

theorem over : Rows.fnExactWholeRow.holds Try.pinned (OpenSpec.ofChange Rows.fnExactWholeSpec) :=
  OpenClaim.holds_of_wide 4 Try.f4 rfl rfl rfl rfl rfl rfl rfl ⟨rfl, rfl, rfl, rfl, rfl⟩ rfl rfl rfl rfl rfl (by kernel_rfl) Try.func4 (by kernel_rfl)
    (of_decide_eq_true (by kernel_rfl)) (by unfold Func.isWrapper; first | (rw [if_pos (by decide +kernel)]; kernel_rfl) | (rw [if_neg (by decide +kernel)]; exact ⟨rfl, rfl⟩))
    (fun os started H enc _ => lifted os started H enc)
end Go.Proofs.Ytaocindfopipnaj.fnExactWhole
namespace Go.Proofs.Ytaocindfopipnaj
theorem FnExactWhole_holds : Rows.FnExactWholeSaid := fnExactWhole.over
end Go.Proofs.Ytaocindfopipnaj

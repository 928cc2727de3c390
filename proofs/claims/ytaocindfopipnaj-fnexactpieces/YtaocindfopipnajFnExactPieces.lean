/- For every text the law of Pieces answers true: the program's Pieces and its model return the same pieces, in memory of their own. No condition. -/
import Derived.Test.YtaocindfopipnajErrs
import Derived.ShutString
import Derived.Lib.SmallJoins
import Derived.Test.YtaocindfopipnajPkPcsOwn
namespace Go.Proofs.Ytaocindfopipnaj.fnExactPieces
open Go.ChangeShapes Go.WideShapes Go.ChangeAt Go.RowKit Go.Joins
open Go.ChangeMaps (open_string shut_string)
set_option linter.unusedVariables false

set_option maxHeartbeats 4000000 in
theorem walk (a0 : ByteArray) (w0 : a0.size ≤ maxLen) (w : World)   :
    Calls Try.prog 3 #[.string a0] w fun e w' => e = .returned (.bool true) ∧ Below w.heap.size w w' := by
  have hm := w0
  unfold maxLen at w0
  by_cases hb : a0.size ≤ 1048576
  · have hln := Pk.pieces_length a0
    go_enter Try.func3, Try.ntmps3
    go_wp2_with fail
    refine (Pk.specPieces_val a0 _ hm).mono ?_
    rintro e w1 ⟨v1, rfl, J1, L1⟩
    go_wp2_with fail
    refine (Pk.implPieces_val a0 _ hm).mono ?_
    rintro e w2 ⟨v2, rfl, I2, L2⟩
    have J2 := Pk.own_below J1 L2 (Nat.le_refl _)
    have hJ : ∀ k, v1.ownBlock = some k → k < w1.heap.size := fun k hk => (J1.lt k hk).2
    have L3 := Pk.join_below L1 L2
    have HW1 : Hid (w.heap.size ≤ w1.heap.size) := L1.size
    generalize hl : Math.pieces a0 = l at *
    have HF : Hid (Math.pieces a0 = l) := hl
    clear J1 L1 L2 hl
    obtain ⟨x1, y1, rfl, -⟩ := Pk.own_form J2
    obtain ⟨x2, y2, rfl, -⟩ := Pk.own_form I2
    go_wp2_with fail
    refine (Pk.eqPieceS_same _ _ l _ _ _ (by omega) (Pk.pcs_own I2) (Pk.pcs_own J2)).mono ?_
    rintro e w3 ⟨rfl, L4⟩
    have I3 := Pk.own_below I2 L4 (Nat.le_refl _)
    have J3 := Pk.own_below J2 L4 (Nat.le_refl _)
    have L5 := Pk.join_below L3 L4
    clear I2 J2 L3 L4
    go_wp2_with fail
    refine (Pk.markPcs_val _ _ l _ _ (by omega) rfl I3).mono ?_
    rintro e w4 ⟨rfl, I4, L6⟩
    have J4 := Pk.own_keep' J3 L6 hJ
    have L7 := L5.trans (L6.mono HW1.out)
    clear I3 J3 L5 L6
    go_wp2_with fail
    refine (Pk.heldPcs_val _ _ l _ _ (by omega) rfl I4).mono ?_
    rintro e w5 ⟨rfl, rfl⟩
    go_wp2_with fail
    refine (Pk.implPieces_val a0 _ hm).mono ?_
    rw [HF.out]
    rintro e w6 ⟨v6, rfl, I6, L8⟩
    have J6 := Pk.own_below J4 L8 (Nat.le_refl _)
    have K6 := Pk.own_below I4 L8 (Nat.le_refl _)
    have L9 := Pk.join_below L7 L8
    obtain ⟨x6, y6, rfl, -⟩ := Pk.own_form I6
    clear I4 J4 L7 L8
    go_wp2_with fail
    refine (Pk.eqPieceS_same _ _ l _ _ _ (by omega) (Pk.pcs_own I6) (Pk.pcs_own J6)).mono ?_
    rintro e w7 ⟨rfl, L10⟩
    have K7 := Pk.own_below K6 L10 (Nat.le_refl _)
    have L11 := Pk.join_below L9 L10
    go_wp2_with fail
    refine (Pk.heldPcs_val _ _ l _ _ (by omega) rfl K7).mono ?_
    rintro e w8 ⟨rfl, rfl⟩
    go_wp2
    go_ret
    exact ⟨rfl, L11⟩
  · go_enter Try.func3, Try.ntmps3
    go_wp2
    go_ret
    exact ⟨rfl, Below.refl _ _⟩

set_option maxRecDepth 100000 in
theorem contract (H : Type) (enc : TypeId × Value → H) (W : World) (base : Nat) (args : Array Value) (ds gs : List (DataW H)) (before : List MemPlace)
    (hval : ∀ (j : Nat) t v, Try.f3.params[j]? = some t → args[j]? = some v → Value.okWide Try.prog W .any base t v)
    (hW : DataW.Whole enc Try.prog Try.f3.params.toList Rows.fnExactPiecesSpec.vars false W args.toList ds gs before) :
    Calls Try.prog 3 args W fun e W' => ∃ v, e = .returned v ∧ Rows.fnExactPiecesSpec.post enc Try.prog Try.f3 false true false false W args v W' := by
  have hW' := hW
  obtain ⟨p, q, hA0, hV, rfl, hfz, hnd⟩ := hW
  have hA : DataW.TrodAll enc Try.prog W 0 (fun _ => true) true Try.f3.params.toList args.toList ds p := hA0
  rw [Try.params3] at hA hval
  obtain ⟨v0, vs0, d0, ds0, p0, q0, hargs, rfl, rfl, h0, r0⟩ := trodAll_cons hA
  obtain ⟨rfl, rfl, rfl⟩ := trodAll_nil r0
  obtain rfl : args = #[v0] := by cases args; simp_all
  obtain ⟨rfl, rfl⟩ := trodVars_none hV
  have k0 := h0
  have lt0 : ∀ x ∈ p0, x.block < W.heap.size := by obtain ⟨m, hm⟩ := k0; exact DataW.trod_lt m _ _ _ hm
  obtain ⟨a0, rfl, rfl, rfl, w0⟩ := open_string Try.underlying9 (hval 0 9 v0 rfl rfl) h0
  clear hA0
  refine (walk a0 w0 W  ).mono fun e W' ⟨he, bel⟩ => ?_
  subst he
  exact ⟨_, rfl, _, _, _, [], _, [], hW', trodAll_mk1 (shut_bool Try.underlying4 _), (trodAll_cons_mk (Below.trod Errs.laidOut (by kernel_rfl) (of_decide_eq_true (by kernel_rfl)) k0 bel lt0) trodAll_mk0), rfl, bel.frame _, fun h => by cases h⟩

theorem lifted (os : Os) (started : os.Started) (H : Type) (enc : TypeId × Value → H) :
    ReturnsInHanded {} Try.checked os 3 .any (Rows.fnExactPiecesSpec.pre6 enc Try.prog Try.f3 Rows.fnExactPiecesRow.domain false) (Rows.fnExactPiecesSpec.post enc Try.prog Try.f3 false true false false) := by
  refine returnsInHanded_of_change (C := Try.checked) Errs.own started (by kernel_rfl) Try.func3
    (ChangeSpec.witness6 (enc := enc) (C := Try.checked) false ⟨#[], #[.string ByteArray.empty], []⟩ 8 (by kernel_rfl) (by kernel_rfl) (by kernel_rfl) (by kernel_rfl)) ?_
  intro W base args ds gs before hval hW _ _
  exact contract H enc W base args ds gs before hval hW

theorem over : Rows.fnExactPiecesRow.holds Try.pinned (OpenSpec.ofChange Rows.fnExactPiecesSpec) :=
  OpenClaim.holds_of_wide 3 Try.f3 rfl rfl rfl rfl rfl rfl rfl ⟨rfl, rfl, rfl, rfl, rfl⟩ rfl rfl rfl rfl rfl (by kernel_rfl) Try.func3 (by kernel_rfl)
    (of_decide_eq_true (by kernel_rfl)) (by unfold Func.isWrapper; first | (rw [if_pos (by decide +kernel)]; kernel_rfl) | (rw [if_neg (by decide +kernel)]; exact ⟨rfl, rfl⟩))
    (fun os started H enc _ => lifted os started H enc)
end Go.Proofs.Ytaocindfopipnaj.fnExactPieces
namespace Go.Proofs.Ytaocindfopipnaj
theorem FnExactPieces_holds : Rows.FnExactPiecesSaid := fnExactPieces.over
end Go.Proofs.Ytaocindfopipnaj

/- For every text the law of Paint answers true: the program's Paint and its model return the same square and the same word whether there is one. No condition. -/
import Derived.Test.YtiollklighmojamErrs
import Derived.ShutString
import Derived.Lib.SmallJoins
import Derived.Test.YtiollklighmojamSqPaintQ
import Derived.Test.YtiollklighmojamSqPaintS
import Derived.Test.YtiollklighmojamSqOk
namespace Go.Proofs.Ytiollklighmojam.fnExactPaint
open Go.ChangeShapes Go.WideShapes Go.ChangeAt Go.RowKit Go.Joins
open Go.ChangeMaps (open_string shut_string)
set_option linter.unusedVariables false
set_option linter.unusedSimpArgs false

set_option maxRecDepth 100000 in
set_option maxHeartbeats 4000000 in
theorem walk (a0 : ByteArray) (w0 : a0.size ≤ maxLen) (w : World)   :
    Calls Try.prog 5 #[.string a0] w fun e w' => e = .returned (.bool true) ∧ Below w.heap.size w w' := by
  have hm := w0
  unfold maxLen at w0
  by_cases hb : a0.size ≤ 1048576
  · have HA : Hid (∀ w, _) := fun w => Sq.specPaint_val a0 w hm
    have HI : Hid (∀ w, _) := fun w => Sq.implPaint_val a0 w hm
    have HQ : Hid (∀ w, _) := fun w => Sq.eqSquare_same (Sq.pnV a0) (Sq.ptV a0) w
    unfold Sq.sqV at HA HI HQ
    generalize Sq.pnV a0 = q at *
    generalize Sq.ptV a0 = t at *
    generalize decide (a0.size ≤ 400) = B at *
    have hnb : (B != B) = false := by simp
    go_enter Try.func5, Try.ntmps5
    go_wp2_with fail
    refine (HA.out _).mono ?_
    rintro e w5 ⟨rfl, L5⟩
    have N5 := Pk.new_below w5 (.cells #[.int .i64 q, .string t] 25)
    have x5 := Pk.heap_new w5 (.cells #[.int .i64 q, .string t] 25)
    have L7 := Pk.join_below L5 N5
    clear L5 N5
    go_wp2_with fail
    generalize w5.alloc (.cells #[.int .i64 q, .string t] 25) = w6 at *
    refine (HI.out _).mono ?_
    rintro e w9 ⟨rfl, L10⟩
    have x9 := Pk.kept L10 (Pk.lt_of x5) x5
    have L11 := Pk.join_below L7 L10
    clear x5 L7 L10
    have N9 := Pk.new_below w9 (.cells #[.int .i64 q, .string t] 25)
    have x10 := Pk.kept N9 (Pk.lt_of x9) x9
    have L12 := Pk.join_below L11 N9
    have d0 : (w9.alloc (.cells #[.int .i64 q, .string t] 25)).cell? ⟨w5.heap.size, 0, none⟩ = some (.int .i64 q) := Pk.cell_at x10 0
    have d1 : (w9.alloc (.cells #[.int .i64 q, .string t] 25)).cell? ⟨w5.heap.size, 1, none⟩ = some (.string t) := Pk.cell_at x10 1
    clear N9 x9 L11
    go_wp2_with fail
    generalize w9.alloc (.cells #[.int .i64 q, .string t] 25) = w10 at *
    refine (HQ.out _).mono ?_
    rintro e w11 ⟨rfl, L13⟩
    have L14 := Pk.join_below L12 L13
    go_wp2
    go_ret
    exact ⟨rfl, L14⟩
  · go_enter Try.func5, Try.ntmps5
    go_wp2
    go_ret
    exact ⟨rfl, Below.refl _ _⟩

set_option maxRecDepth 100000 in
theorem contract (H : Type) (enc : TypeId × Value → H) (W : World) (base : Nat) (args : Array Value) (ds gs : List (DataW H)) (before : List MemPlace)
    (hval : ∀ (j : Nat) t v, Try.f5.params[j]? = some t → args[j]? = some v → Value.okWide Try.prog W .any base t v)
    (hW : DataW.Whole enc Try.prog Try.f5.params.toList Rows.fnExactPaintSpec.vars false W args.toList ds gs before) :
    Calls Try.prog 5 args W fun e W' => ∃ v, e = .returned v ∧ Rows.fnExactPaintSpec.post enc Try.prog Try.f5 false true false false W args v W' := by
  have hW' := hW
  obtain ⟨p, q, hA0, hV, rfl, hfz, hnd⟩ := hW
  have hA : DataW.TrodAll enc Try.prog W 0 (fun _ => true) true Try.f5.params.toList args.toList ds p := hA0
  rw [Try.params5] at hA hval
  obtain ⟨v0, vs0, d0, ds0, p0, q0, hargs, rfl, rfl, h0, r0⟩ := trodAll_cons hA
  obtain ⟨rfl, rfl, rfl⟩ := trodAll_nil r0
  obtain rfl : args = #[v0] := by cases args; simp_all
  obtain ⟨rfl, rfl⟩ := trodVars_none hV
  have k0 := h0
  have lt0 : ∀ x ∈ p0, x.block < W.heap.size := by obtain ⟨m, hm⟩ := k0; exact DataW.trod_lt m _ _ _ hm
  obtain ⟨a0, rfl, rfl, rfl, w0⟩ := open_string Try.underlying9 (hval 0 9 v0 rfl rfl) h0
  clear hA0
  refine (walk a0 w0 W  ).mono fun e W' ⟨he, bel⟩ => ?_
  subst he
  exact ⟨_, rfl, _, _, _, [], _, [], hW', trodAll_mk1 (shut_bool Try.underlying4 _), (trodAll_cons_mk (Below.trod Errs.laidOut (by kernel_rfl) (of_decide_eq_true (by kernel_rfl)) k0 bel lt0) trodAll_mk0), rfl, bel.frame _, fun h => by cases h⟩

set_option maxRecDepth 100000 in
theorem lifted (os : Os) (started : os.Started) (H : Type) (enc : TypeId × Value → H) :
    ReturnsInHanded {} Try.checked os 5 .any (Rows.fnExactPaintSpec.pre6 enc Try.prog Try.f5 Rows.fnExactPaintRow.domain false) (Rows.fnExactPaintSpec.post enc Try.prog Try.f5 false true false false) := by
  refine returnsInHanded_of_change (C := Try.checked) Errs.own started (by kernel_rfl) Try.func5
    (ChangeSpec.witness6 (enc := enc) (C := Try.checked) false ⟨#[], #[.string ByteArray.empty], []⟩ 8 (by kernel_rfl) (by kernel_rfl) (by kernel_rfl) (by kernel_rfl)) ?_
  intro W base args ds gs before hval hW _ _
  exact contract H enc W base args ds gs before hval hW

set_option maxRecDepth 100000 in
theorem over : Rows.fnExactPaintRow.holds Try.pinned (OpenSpec.ofChange Rows.fnExactPaintSpec) :=
  OpenClaim.holds_of_wide 5 Try.f5 rfl rfl rfl rfl rfl rfl rfl ⟨rfl, rfl, rfl, rfl, rfl⟩ rfl rfl rfl rfl rfl (by kernel_rfl) Try.func5 (by kernel_rfl)
    (of_decide_eq_true (by kernel_rfl)) (by unfold Func.isWrapper; first | (rw [if_pos (by decide +kernel)]; kernel_rfl) | (rw [if_neg (by decide +kernel)]; exact ⟨rfl, rfl⟩))
    (fun os started H enc _ => lifted os started H enc)
end Go.Proofs.Ytiollklighmojam.fnExactPaint
namespace Go.Proofs.Ytiollklighmojam
theorem FnExactPaint_holds : Rows.FnExactPaintSaid := fnExactPaint.over
end Go.Proofs.Ytiollklighmojam

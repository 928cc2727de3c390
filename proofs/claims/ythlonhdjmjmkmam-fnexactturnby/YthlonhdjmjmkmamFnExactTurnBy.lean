/- For every square and every number the law of TurnBy answers true: the program's TurnBy and its model return the same square, size and signs. No condition. -/
import Derived.Test.YthlonhdjmjmkmamErrs
import Derived.ShutString
import Derived.Lib.SmallJoins
import Derived.Test.YthlonhdjmjmkmamSqTurnBy
namespace Go.Proofs.Ythlonhdjmjmkmam.fnExactTurnBy
open Go.ChangeShapes Go.WideShapes Go.ChangeAt Go.RowKit Go.Joins
open Go.ChangeMaps (open_string shut_string)
set_option linter.unusedVariables false

set_option maxRecDepth 100000 in
set_option maxHeartbeats 4000000 in
theorem walk (a0 : Int) (w0 : (Lit.int .i64 a0).wf = true) (s0 : ByteArray) (ws0 : s0.size ≤ maxLen) (a1 : Int) (w1 : (Lit.int .i64 a1).wf = true) (w : World)   :
    Calls Try.prog 4 #[.agg #[.int .i64 a0, .string s0], .int .i64 a1] w fun e w' => e = .returned (.bool true) ∧ Below w.heap.size w w' := by
  have m0 := Pk.heap_new w (.cells #[.int .i64 a0, .string s0] 23)
  have N := Pk.new_below w (.cells #[.int .i64 a0, .string s0] 23)
  by_cases hb : s0.size ≤ 1048576
  · have hd : decide (1048576 - (s0.size : Int) < 0) = false := decide_eq_false (by omega)
    have HZ : Hid (∀ w, _) := fun w => Sq.szSquare_val a0 s0 w ws0
    rw [if_pos hb] at HZ
    have HS : Hid (∀ w, _) := fun w => Sq.toSquare_val a0 s0 w
    have HA : Hid (∀ w, _) := fun w => Sq.specTurnBy_val a0 s0 a1 w w1 hb
    have HI : Hid (∀ w, _) := fun w => Sq.implTurnBy_val a0 s0 a1 w w1 hb
    generalize Sq.turnN a0 s0 (a1 % 4).toNat = B at *
    have HQ : Hid (∀ w, _) := fun w => Sq.eqSquare_same a0 B w
    unfold Sq.sqV at HS HA HI HQ
    go_enter Try.func4, Try.ntmps4
    go_wp2_with fail
    refine (HZ.out _).mono ?_
    rintro e w1 ⟨rfl, L1⟩
    have m1 := Pk.kept L1 (Pk.lt_of m0) m0
    have L2 := Pk.join_below N L1
    clear N L1 m0
    have c0 : w1.cell? ⟨w.heap.size, 0, none⟩ = some (.int .i64 a0) := Pk.cell_at m1 0
    have c1 : w1.cell? ⟨w.heap.size, 1, none⟩ = some (.string s0) := Pk.cell_at m1 1
    go_wp2_with fail
    refine (HS.out _).mono ?_
    rintro e w3 ⟨rfl, L3⟩
    have m3 := Pk.kept L3 (Pk.lt_of m1) m1
    have L4 := Pk.join_below L2 L3
    clear c0 c1 L2 L3 m1
    go_wp2_with fail
    refine (HA.out _).mono ?_
    rintro e w5 ⟨rfl, L5⟩
    have m5 := Pk.kept L5 (Pk.lt_of m3) m3
    have L6 := Pk.join_below L4 L5
    clear L4 L5 m3
    have N5 := Pk.new_below w5 (.cells #[.int .i64 a0, .string B] 25)
    have x5 := Pk.heap_new w5 (.cells #[.int .i64 a0, .string B] 25)
    have m6 := Pk.kept N5 (Pk.lt_of m5) m5
    have L7 := Pk.join_below L6 N5
    clear m5 L6 N5
    have c0 := Pk.cell_at m6 0
    have c1 := Pk.cell_at m6 1
    simp at c0 c1
    go_wp2_with fail
    generalize w5.alloc (.cells #[.int .i64 a0, .string B] 25) = w6 at *
    refine (HS.out _).mono ?_
    rintro e w7 ⟨rfl, L8⟩
    have x7 := Pk.kept L8 (Pk.lt_of x5) x5
    have L9 := Pk.join_below L7 L8
    clear c0 c1 L7 L8 m6 x5
    go_wp2_with fail
    refine (HI.out _).mono ?_
    rintro e w9 ⟨rfl, L10⟩
    have x9 := Pk.kept L10 (Pk.lt_of x7) x7
    have L11 := Pk.join_below L9 L10
    clear x7 L9 L10
    have N9 := Pk.new_below w9 (.cells #[.int .i64 a0, .string B] 25)
    have y9 := Pk.heap_new w9 (.cells #[.int .i64 a0, .string B] 25)
    have x10 := Pk.kept N9 (Pk.lt_of x9) x9
    have L12 := Pk.join_below L11 N9
    have d0 := Pk.cell_at x10 0
    have d1 := Pk.cell_at x10 1
    simp at d0 d1
    clear N9 x9 L11
    go_wp2_with fail
    generalize w9.alloc (.cells #[.int .i64 a0, .string B] 25) = w10 at *
    refine (HQ.out _).mono ?_
    rintro e w11 ⟨rfl, L13⟩
    have L14 := Pk.join_below L12 L13
    go_wp2
    go_ret
    exact ⟨rfl, L14⟩
  · have HZ : Hid (∀ w, _) := fun w => Sq.szSquare_val a0 s0 w ws0
    rw [if_neg hb] at HZ
    go_enter Try.func4, Try.ntmps4
    go_wp2_with fail
    refine (HZ.out _).mono ?_
    rintro e w1 ⟨rfl, L1⟩
    go_wp2
    go_ret
    exact ⟨rfl, Pk.join_below N L1⟩

set_option maxRecDepth 100000 in
theorem contract (H : Type) (enc : TypeId × Value → H) (W : World) (base : Nat) (args : Array Value) (ds gs : List (DataW H)) (before : List MemPlace)
    (hval : ∀ (j : Nat) t v, Try.f4.params[j]? = some t → args[j]? = some v → Value.okWide Try.prog W .any base t v)
    (hW : DataW.Whole enc Try.prog Try.f4.params.toList Rows.fnExactTurnBySpec.vars false W args.toList ds gs before) :
    Calls Try.prog 4 args W fun e W' => ∃ v, e = .returned v ∧ Rows.fnExactTurnBySpec.post enc Try.prog Try.f4 false true false false W args v W' := by
  have hW' := hW
  obtain ⟨p, q, hA0, hV, rfl, hfz, hnd⟩ := hW
  have hA : DataW.TrodAll enc Try.prog W 0 (fun _ => true) true Try.f4.params.toList args.toList ds p := hA0
  rw [Try.params4] at hA hval
  obtain ⟨v0, vs0, d0, ds0, p0, q0, hargs, rfl, rfl, h0, r0⟩ := trodAll_cons hA
  obtain ⟨v1, vs1, d1, ds1, p1, q1, rfl, rfl, rfl, h1, r1⟩ := trodAll_cons r0
  obtain ⟨rfl, rfl, rfl⟩ := trodAll_nil r1
  obtain rfl : args = #[v0, v1] := by cases args; simp_all
  obtain ⟨rfl, rfl⟩ := trodVars_none hV
  have k0 := h0
  have lt0 : ∀ x ∈ p0, x.block < W.heap.size := by obtain ⟨m, hm⟩ := k0; exact DataW.trod_lt m _ _ _ hm
  obtain ⟨c0_0, c0_1, y0_0, y0_1, m0, rfl, rfl, rfl, hy0_0, hy0_1⟩ := open_agg2 Try.underlying23 (by kernel_rfl) (by kernel_rfl) (hval 0 23 v0 rfl rfl) h0
  obtain ⟨a0, e0_0, rfl, w0⟩ := DataW.trod_int Try.underlying3 hy0_0
  obtain ⟨s0, e0_1, rfl, ws0⟩ := DataW.trod_string Try.underlying9 hy0_1
  simp at e0_0 e0_1
  subst e0_0 e0_1
  have k1 := h1
  have lt1 : ∀ x ∈ p1, x.block < W.heap.size := by obtain ⟨m, hm⟩ := k1; exact DataW.trod_lt m _ _ _ hm
  obtain ⟨a1, rfl, rfl, rfl, w1⟩ := open_int Try.underlying3 (hval 1 3 v1 rfl rfl) h1
  clear hA0
  refine (walk a0 w0 s0 ws0 a1 w1 W  ).mono fun e W' ⟨he, bel⟩ => ?_
  subst he
  exact ⟨_, rfl, _, _, _, [], _, [], hW', trodAll_mk1 (shut_bool Try.underlying4 _), (trodAll_cons_mk (Below.trod Errs.laidOut (by kernel_rfl) (of_decide_eq_true (by kernel_rfl)) k0 bel lt0) (trodAll_cons_mk (Below.trod Errs.laidOut (by kernel_rfl) (of_decide_eq_true (by kernel_rfl)) k1 bel lt1) trodAll_mk0)), rfl, bel.frame _, fun h => by cases h⟩

set_option maxRecDepth 100000 in
theorem lifted (os : Os) (started : os.Started) (H : Type) (enc : TypeId × Value → H) :
    ReturnsInHanded {} Try.checked os 4 .any (Rows.fnExactTurnBySpec.pre6 enc Try.prog Try.f4 Rows.fnExactTurnByRow.domain false) (Rows.fnExactTurnBySpec.post enc Try.prog Try.f4 false true false false) := by
  refine returnsInHanded_of_change (C := Try.checked) Errs.own started (by kernel_rfl) Try.func4
    (ChangeSpec.witness6 (enc := enc) (C := Try.checked) false ⟨#[], #[.agg #[.int .i64 0, .string ByteArray.empty], .int .i64 0], []⟩ 8 (by kernel_rfl) (by kernel_rfl) (by kernel_rfl) (by kernel_rfl)) ?_
  intro W base args ds gs before hval hW _ _
  exact contract H enc W base args ds gs before hval hW

set_option maxRecDepth 100000 in
theorem over : Rows.fnExactTurnByRow.holds Try.pinned (OpenSpec.ofChange Rows.fnExactTurnBySpec) :=
  OpenClaim.holds_of_wide 4 Try.f4 rfl rfl rfl rfl rfl rfl rfl ⟨rfl, rfl, rfl, rfl, rfl⟩ rfl rfl rfl rfl rfl (by kernel_rfl) Try.func4 (by kernel_rfl)
    (of_decide_eq_true (by kernel_rfl)) (by unfold Func.isWrapper; first | (rw [if_pos (by decide +kernel)]; kernel_rfl) | (rw [if_neg (by decide +kernel)]; exact ⟨rfl, rfl⟩))
    (fun os started H enc _ => lifted os started H enc)
end Go.Proofs.Ythlonhdjmjmkmam.fnExactTurnBy
namespace Go.Proofs.Ythlonhdjmjmkmam
theorem FnExactTurnBy_holds : Rows.FnExactTurnBySaid := fnExactTurnBy.over
end Go.Proofs.Ythlonhdjmjmkmam

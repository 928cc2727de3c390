/- For every square the law of Scan answers true: the program's Scan and its model return the same text and the same word of what was found. No condition. -/
import Derived.Test.YtkhibgicejcmlamErrs
import Derived.ShutString
import Derived.Lib.SmallJoins
import Derived.Test.YtkhibgicejcmlamSqScanV
import Derived.Test.YtkhibgicejcmlamSqHeart2
namespace Go.Proofs.Ytkhibgicejcmlam.fnExactScan
open Go.ChangeShapes Go.WideShapes Go.ChangeAt Go.RowKit Go.Joins
open Go.ChangeMaps (open_string shut_string)
set_option linter.unusedVariables false
set_option linter.unusedSimpArgs false

set_option maxRecDepth 100000 in
set_option maxHeartbeats 4000000 in
theorem walk (a0 : Int) (w0 : (Lit.int .i64 a0).wf = true) (s0 : ByteArray) (ws0 : s0.size ≤ maxLen) (w : World)   :
    Calls Try.prog 7 #[.agg #[.int .i64 a0, .string s0]] w fun e w' => e = .returned (.bool true) ∧ Below w.heap.size w w' := by
  have m0 := Pk.heap_new w (.cells #[.int .i64 a0, .string s0] 23)
  have N := Pk.new_below w (.cells #[.int .i64 a0, .string s0] 23)
  by_cases hb : s0.size ≤ 1048576
  · have hd : decide (1048576 - (s0.size : Int) < 0) = false := decide_eq_false (by omega)
    have HZ : Hid (∀ w, _) := fun w => Sq.szSquare_val a0 s0 w ws0
    rw [if_pos hb] at HZ
    have HA : Hid (∀ w, _) := fun w => Sq.specScan_val a0 s0 w ws0
    have HI : Hid (∀ w, _) := fun w => Sq.implScan_val a0 s0 w ws0
    generalize Sq.scT a0 s0 = T at *
    generalize Sq.scC a0 s0 = C at *
    have hnc : (C != C) = false := by simp
    go_enter Try.func7, Try.ntmps7
    go_wp2_with fail
    refine (HZ.out _).mono ?_
    rintro e w1 ⟨rfl, L1⟩
    have m1 := Pk.kept L1 (Pk.lt_of m0) m0
    have L2 := Pk.join_below N L1
    clear N L1 m0
    have c0 : w1.cell? ⟨w.heap.size, 0, none⟩ = some (.int .i64 a0) := Pk.cell_at m1 0
    have c1 : w1.cell? ⟨w.heap.size, 1, none⟩ = some (.string s0) := Pk.cell_at m1 1
    go_wp2_with fail
    refine (Sq.toSquare_val a0 s0 _).mono ?_
    rintro e w3 ⟨rfl, L3⟩
    have m3 := Pk.kept L3 (Pk.lt_of m1) m1
    have L4 := Pk.join_below L2 L3
    clear c0 c1 L2 L3 m1
    go_wp2_with fail
    refine (HA.out _).mono ?_
    rintro e w5 ⟨rfl, L5⟩
    have m5 := Pk.kept L5 (Pk.lt_of m3) m3
    have L6 := Pk.join_below L4 L5
    clear L4 L5 m3
    have c0 : w5.cell? ⟨w.heap.size, 0, none⟩ = some (.int .i64 a0) := Pk.cell_at m5 0
    have c1 : w5.cell? ⟨w.heap.size, 1, none⟩ = some (.string s0) := Pk.cell_at m5 1
    go_wp2_with fail
    refine (Sq.toSquare_val a0 s0 _).mono ?_
    rintro e w7 ⟨rfl, L7⟩
    have L8 := Pk.join_below L6 L7
    clear c0 c1 L6 L7 m5
    go_wp2_with fail
    refine (HI.out _).mono ?_
    rintro e w9 ⟨rfl, L9⟩
    have L10 := Pk.join_below L8 L9
    clear L8 L9
    go_wp2
    go_ret
    exact ⟨rfl, L10⟩
  · have HZ : Hid (∀ w, _) := fun w => Sq.szSquare_val a0 s0 w ws0
    rw [if_neg hb] at HZ
    go_enter Try.func7, Try.ntmps7
    go_wp2_with fail
    refine (HZ.out _).mono ?_
    rintro e w1 ⟨rfl, L1⟩
    go_wp2
    go_ret
    exact ⟨rfl, Pk.join_below N L1⟩

set_option maxRecDepth 100000 in
theorem contract (H : Type) (enc : TypeId × Value → H) (W : World) (base : Nat) (args : Array Value) (ds gs : List (DataW H)) (before : List MemPlace)
    (hval : ∀ (j : Nat) t v, Try.f7.params[j]? = some t → args[j]? = some v → Value.okWide Try.prog W .any base t v)
    (hW : DataW.Whole enc Try.prog Try.f7.params.toList Rows.fnExactScanSpec.vars false W args.toList ds gs before) :
    Calls Try.prog 7 args W fun e W' => ∃ v, e = .returned v ∧ Rows.fnExactScanSpec.post enc Try.prog Try.f7 false true false false W args v W' := by
  have hW' := hW
  obtain ⟨p, q, hA0, hV, rfl, hfz, hnd⟩ := hW
  have hA : DataW.TrodAll enc Try.prog W 0 (fun _ => true) true Try.f7.params.toList args.toList ds p := hA0
  rw [Try.params7] at hA hval
  obtain ⟨v0, vs0, d0, ds0, p0, q0, hargs, rfl, rfl, h0, r0⟩ := trodAll_cons hA
  obtain ⟨rfl, rfl, rfl⟩ := trodAll_nil r0
  obtain rfl : args = #[v0] := by cases args; simp_all
  obtain ⟨rfl, rfl⟩ := trodVars_none hV
  have k0 := h0
  have lt0 : ∀ x ∈ p0, x.block < W.heap.size := by obtain ⟨m, hm⟩ := k0; exact DataW.trod_lt m _ _ _ hm
  obtain ⟨c0_0, c0_1, y0_0, y0_1, m0, rfl, rfl, rfl, hy0_0, hy0_1⟩ := open_agg2 Try.underlying23 (by kernel_rfl) (by kernel_rfl) (hval 0 23 v0 rfl rfl) h0
  obtain ⟨a0, e0_0, rfl, w0⟩ := DataW.trod_int Try.underlying3 hy0_0
  obtain ⟨s0, e0_1, rfl, ws0⟩ := DataW.trod_string Try.underlying9 hy0_1
  simp at e0_0 e0_1
  subst e0_0 e0_1
  clear hA0
  refine (walk a0 w0 s0 ws0 W  ).mono fun e W' ⟨he, bel⟩ => ?_
  subst he
  exact ⟨_, rfl, _, _, _, [], _, [], hW', trodAll_mk1 (shut_bool Try.underlying4 _), (trodAll_cons_mk (Below.trod Errs.laidOut (by kernel_rfl) (of_decide_eq_true (by kernel_rfl)) k0 bel lt0) trodAll_mk0), rfl, bel.frame _, fun h => by cases h⟩

set_option maxRecDepth 100000 in
theorem lifted (os : Os) (started : os.Started) (H : Type) (enc : TypeId × Value → H) :
    ReturnsInHanded {} Try.checked os 7 .any (Rows.fnExactScanSpec.pre6 enc Try.prog Try.f7 Rows.fnExactScanRow.domain false) (Rows.fnExactScanSpec.post enc Try.prog Try.f7 false true false false) := by
  refine returnsInHanded_of_change (C := Try.checked) Errs.own started (by kernel_rfl) Try.func7
    (ChangeSpec.witness6 (enc := enc) (C := Try.checked) false ⟨#[], #[.agg #[.int .i64 0, .string ByteArray.empty]], []⟩ 8 (by kernel_rfl) (by kernel_rfl) (by kernel_rfl) (by kernel_rfl)) ?_
  intro W base args ds gs before hval hW _ _
  exact contract H enc W base args ds gs before hval hW

set_option maxRecDepth 100000 in
theorem over : Rows.fnExactScanRow.holds Try.pinned (OpenSpec.ofChange Rows.fnExactScanSpec) :=
  OpenClaim.holds_of_wide 7 Try.f7 rfl rfl rfl rfl rfl rfl rfl ⟨rfl, rfl, rfl, rfl, rfl⟩ rfl rfl rfl rfl rfl (by kernel_rfl) Try.func7 (by kernel_rfl)
    (of_decide_eq_true (by kernel_rfl)) (by unfold Func.isWrapper; first | (rw [if_pos (by decide +kernel)]; kernel_rfl) | (rw [if_neg (by decide +kernel)]; exact ⟨rfl, rfl⟩))
    (fun os started H enc _ => lifted os started H enc)
end Go.Proofs.Ytkhibgicejcmlam.fnExactScan
namespace Go.Proofs.Ytkhibgicejcmlam
theorem FnExactScan_holds : Rows.FnExactScanSaid := fnExactScan.over
end Go.Proofs.Ytkhibgicejcmlam

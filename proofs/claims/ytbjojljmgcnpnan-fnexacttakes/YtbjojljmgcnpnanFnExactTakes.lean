/- For every train and any two numbers the law of Takes answers true: the program's Takes and its model return the same, and no stop of the train is turned. No condition. -/
import Derived.Test.YtbjojljmgcnpnanErrs
import Derived.ShutString
import Derived.Lib.SmallJoins
import Derived.Test.YtbjojljmgcnpnanTnOpen
import Derived.Test.YtbjojljmgcnpnanTnTakes
namespace Go.Proofs.Ytbjojljmgcnpnan.fnExactTakes
open Go.ChangeShapes Go.WideShapes Go.ChangeAt Go.RowKit Go.Joins
open Go.ChangeMaps (open_string shut_string)
set_option linter.unusedVariables false

set_option maxRecDepth 100000 in
set_option maxHeartbeats 4000000 in
theorem walk (a0 : Tn.Hd) (b0 : Option Addr) (cap0 : Nat) (z0 : List Tn.St) (a1 : Int) (w1 : (Lit.int .i64 a1).wf = true) (a2 : Int) (w2 : (Lit.int .i64 a2).wf = true) (w : World) (w0 : Tn.Stops w b0 z0 ∧ z0.length ≤ maxLen)   :
    Calls Try.prog 5 #[Tn.trV a0 b0 z0.length cap0, .int .i64 a1, .int .i64 a2] w fun e w' => e = .returned (.bool true) ∧ Below w.heap.size w w' := by
  obtain ⟨I, hm⟩ := w0
  by_cases hb : z0.length ≤ 1048576
  · have hz : z0.length ≤ 1048576 := by omega
    have m0 := Pk.heap_new w (Tn.trB a0 b0 z0.length cap0 24)
    have N := Pk.new_below w (Tn.trB a0 b0 z0.length cap0 24)
    have hd : decide (1048576 - (z0.length : Int) < 0) = false := decide_eq_false (by omega)
    go_enter Try.func5, Try.ntmps5
    go_wp2_with fail
    refine (Tn.szTrain_yes a0 b0 z0.length cap0 1048576 _ (by omega) (by omega)).mono ?_
    rintro e w1 ⟨rfl, L1⟩
    have m1 := Pk.kept L1 (Pk.lt_of m0) m0
    have L2 := Pk.join_below N L1
    clear N L1 m0
    have c0 : w1.cell? ⟨w.heap.size, 0, none⟩ = some (.int .i64 a0.id) := Pk.cell_at m1 0
    have c1 : w1.cell? ⟨w.heap.size, 1, none⟩ = some (.int .i64 a0.dy) := Pk.cell_at m1 1
    have c2 : w1.cell? ⟨w.heap.size, 2, none⟩ = some (.int .i64 a0.co) := Pk.cell_at m1 2
    have c3 : w1.cell? ⟨w.heap.size, 3, none⟩ = some (.int .i64 a0.se) := Pk.cell_at m1 3
    have c4 : w1.cell? ⟨w.heap.size, 4, none⟩ = some (.slice b0 z0.length cap0) := Pk.cell_at m1 4
    go_wp2_with fail
    refine (Tn.toTrain_val a0 b0 z0 cap0 _ hz (I.on L2)).mono ?_
    rintro e w3 ⟨g3, rfl, -, L3, -, I3, -⟩
    have m3 := Pk.kept L3 (Pk.lt_of m1) m1
    have L4 := Pk.join_below L2 L3
    clear c0 c1 c2 c3 c4 L2 L3 m1
    go_wp2_with fail
    refine (Tn.specTakes_val a0 a1 a2 _ z0 _ _ hm I3).mono ?_
    rintro e w5 ⟨rfl, L5⟩
    have m5 := Pk.kept L5 (Pk.lt_of m3) m3
    have L6 := Pk.join_below L4 L5
    clear L4 L5 m3 I3
    have c0 : w5.cell? ⟨w.heap.size, 0, none⟩ = some (.int .i64 a0.id) := Pk.cell_at m5 0
    have c1 : w5.cell? ⟨w.heap.size, 1, none⟩ = some (.int .i64 a0.dy) := Pk.cell_at m5 1
    have c2 : w5.cell? ⟨w.heap.size, 2, none⟩ = some (.int .i64 a0.co) := Pk.cell_at m5 2
    have c3 : w5.cell? ⟨w.heap.size, 3, none⟩ = some (.int .i64 a0.se) := Pk.cell_at m5 3
    have c4 : w5.cell? ⟨w.heap.size, 4, none⟩ = some (.slice b0 z0.length cap0) := Pk.cell_at m5 4
    go_wp2_with fail
    refine (Tn.toTrain_val a0 b0 z0 cap0 _ hz (I.on L6)).mono ?_
    rintro e w7 ⟨g7, rfl, -, L7, -, I7, -⟩
    have m7 := Pk.kept L7 (Pk.lt_of m5) m5
    have L8 := Pk.join_below L6 L7
    clear c0 c1 c2 c3 c4 L6 L7 m5
    have N8 := Pk.new_below w7 (Tn.trB a0 (some ⟨g7, 0, none⟩) z0.length z0.length 29)
    have x8 := Pk.heap_new w7 (Tn.trB a0 (some ⟨g7, 0, none⟩) z0.length z0.length 29)
    have m8 := Pk.kept N8 (Pk.lt_of m7) m7
    have I8 := I7.on N8
    have L9 := Pk.join_below L8 N8
    clear m7 I7 L8 N8
    go_wp2_with fail
    refine (Tn.implTakes_val a0 a1 a2 _ z0 _ _ hm I8).mono ?_
    rintro e w10 ⟨rfl, L10⟩
    have m10 := Pk.kept L10 (Pk.lt_of m8) m8
    have x10 := Pk.kept L10 (Pk.lt_of x8) x8
    have I10 := I8.on L10
    have L11 := Pk.join_below L9 L10
    clear m8 x8 I8 L9 L10
    have c0 : w10.cell? ⟨w.heap.size, 0, none⟩ = some (.int .i64 a0.id) := Pk.cell_at m10 0
    have c1 : w10.cell? ⟨w.heap.size, 1, none⟩ = some (.int .i64 a0.dy) := Pk.cell_at m10 1
    have c2 : w10.cell? ⟨w.heap.size, 2, none⟩ = some (.int .i64 a0.co) := Pk.cell_at m10 2
    have c3 : w10.cell? ⟨w.heap.size, 3, none⟩ = some (.int .i64 a0.se) := Pk.cell_at m10 3
    have c4 : w10.cell? ⟨w.heap.size, 4, none⟩ = some (.slice b0 z0.length cap0) := Pk.cell_at m10 4
    have d0 : w10.cell? ⟨w7.heap.size, 0, none⟩ = some (.int .i64 a0.id) := Pk.cell_at x10 0
    have d1 : w10.cell? ⟨w7.heap.size, 1, none⟩ = some (.int .i64 a0.dy) := Pk.cell_at x10 1
    have d2 : w10.cell? ⟨w7.heap.size, 2, none⟩ = some (.int .i64 a0.co) := Pk.cell_at x10 2
    have d3 : w10.cell? ⟨w7.heap.size, 3, none⟩ = some (.int .i64 a0.se) := Pk.cell_at x10 3
    have d4 : w10.cell? ⟨w7.heap.size, 4, none⟩ = some (.slice (some ⟨g7, 0, none⟩) z0.length z0.length) := Pk.cell_at x10 4
    generalize Tn.takesV a0 z0 a1 a2 = X at *
    have HT : Hid (∀ w, _ → _) := fun w h => Tn.toTrain_val a0 b0 z0 cap0 w hz h
    have HE : Hid (∀ a b c1 c2 w, _ → _ → _) := fun a b c1 c2 w h1 h2 => Tn.eqTrain_same a0 a b z0 c1 c2 w hz h1 h2
    skip
    all_goals
      go_wp2
      go_region_with (first
        | (go_at_call 11; refine (HT.out _ ?_).mono ?_; (first | exact I.on L11 | exact I.on L11.drew); rintro e x1 ⟨g1, rfl, -, M0, -, J1, -⟩; have M1 : Below w10.heap.size w10 x1 := (by first | exact M0 | exact ((Below.refl _ _).drew).trans M0); have y1 := Pk.kept M1 (Pk.lt_of x10) x10; have I11 := I10.on M1; have M2 := Pk.join_below L11 M1; have d0 : x1.cell? ⟨w7.heap.size, 0, none⟩ = some (.int .i64 a0.id) := Pk.cell_at y1 0; have d1 : x1.cell? ⟨w7.heap.size, 1, none⟩ = some (.int .i64 a0.dy) := Pk.cell_at y1 1; have d2 : x1.cell? ⟨w7.heap.size, 2, none⟩ = some (.int .i64 a0.co) := Pk.cell_at y1 2; have d3 : x1.cell? ⟨w7.heap.size, 3, none⟩ = some (.int .i64 a0.se) := Pk.cell_at y1 3; have d4 : x1.cell? ⟨w7.heap.size, 4, none⟩ = some (.slice (some ⟨g7, 0, none⟩) z0.length z0.length) := Pk.cell_at y1 4; clear M0 M1 y1)
        | (go_at_call 13; refine (HE.out _ _ _ _ _ ?_ ?_).mono ?_; (exact I11); (exact J1); rintro e x2 ⟨rfl, M3⟩))
      all_goals
        have M4 := Pk.join_below M2 M3
        go_wp2
        go_ret
        exact ⟨rfl, M4⟩
  · have HM : Hid (_ ∧ _) := ⟨hm, hb⟩
    have N := Pk.new_below w (Tn.trB a0 b0 z0.length cap0 24)
    clear hm hb
    go_enter Try.func5, Try.ntmps5
    go_wp2_with fail
    refine (Tn.szTrain_no a0 b0 z0.length cap0 1048576 _ (by omega) (by omega) HM.out.1 (by have := HM.out.2; omega)).mono ?_
    rintro e w1 ⟨rfl, L1⟩
    go_wp2
    go_ret
    exact ⟨rfl, Pk.join_below N L1⟩

set_option maxRecDepth 100000 in
theorem contract (H : Type) (enc : TypeId × Value → H) (W : World) (base : Nat) (args : Array Value) (ds gs : List (DataW H)) (before : List MemPlace)
    (hval : ∀ (j : Nat) t v, Try.f5.params[j]? = some t → args[j]? = some v → Value.okWide Try.prog W .any base t v)
    (hW : DataW.Whole enc Try.prog Try.f5.params.toList Rows.fnExactTakesSpec.vars false W args.toList ds gs before) :
    Calls Try.prog 5 args W fun e W' => ∃ v, e = .returned v ∧ Rows.fnExactTakesSpec.post enc Try.prog Try.f5 false true false false W args v W' := by
  have hW' := hW
  obtain ⟨p, q, hA0, hV, rfl, hfz, hnd⟩ := hW
  have hA : DataW.TrodAll enc Try.prog W 0 (fun _ => true) true Try.f5.params.toList args.toList ds p := hA0
  rw [Try.params5] at hA hval
  obtain ⟨v0, vs0, d0, ds0, p0, q0, hargs, rfl, rfl, h0, r0⟩ := trodAll_cons hA
  obtain ⟨v1, vs1, d1, ds1, p1, q1, rfl, rfl, rfl, h1, r1⟩ := trodAll_cons r0
  obtain ⟨v2, vs2, d2, ds2, p2, q2, rfl, rfl, rfl, h2, r2⟩ := trodAll_cons r1
  obtain ⟨rfl, rfl, rfl⟩ := trodAll_nil r2
  obtain rfl : args = #[v0, v1, v2] := by cases args; simp_all
  obtain ⟨rfl, rfl⟩ := trodVars_none hV
  have k0 := h0
  have lt0 : ∀ x ∈ p0, x.block < W.heap.size := by obtain ⟨m, hm⟩ := k0; exact DataW.trod_lt m _ _ _ hm
  obtain ⟨a0, b0, cap0, z0, rfl, w0l, w0m⟩ := Tn.tr_open (hval 0 24 v0 rfl rfl) h0
  have k1 := h1
  have lt1 : ∀ x ∈ p1, x.block < W.heap.size := by obtain ⟨m, hm⟩ := k1; exact DataW.trod_lt m _ _ _ hm
  obtain ⟨a1, rfl, rfl, rfl, w1⟩ := open_int Try.underlying3 (hval 1 3 v1 rfl rfl) h1
  have k2 := h2
  have lt2 : ∀ x ∈ p2, x.block < W.heap.size := by obtain ⟨m, hm⟩ := k2; exact DataW.trod_lt m _ _ _ hm
  obtain ⟨a2, rfl, rfl, rfl, w2⟩ := open_int Try.underlying3 (hval 2 3 v2 rfl rfl) h2
  clear hA0
  refine (walk a0 b0 cap0 z0 a1 w1 a2 w2 W ⟨w0l, w0m⟩ ).mono fun e W' ⟨he, bel⟩ => ?_
  subst he
  exact ⟨_, rfl, _, _, _, [], _, [], hW', trodAll_mk1 (shut_bool Try.underlying4 _), (trodAll_cons_mk (Below.trod Errs.laidOut (by kernel_rfl) (of_decide_eq_true (by kernel_rfl)) k0 bel lt0) (trodAll_cons_mk (Below.trod Errs.laidOut (by kernel_rfl) (of_decide_eq_true (by kernel_rfl)) k1 bel lt1) (trodAll_cons_mk (Below.trod Errs.laidOut (by kernel_rfl) (of_decide_eq_true (by kernel_rfl)) k2 bel lt2) trodAll_mk0))), rfl, bel.frame _, fun h => by cases h⟩

set_option maxRecDepth 100000 in
theorem lifted (os : Os) (started : os.Started) (H : Type) (enc : TypeId × Value → H) :
    ReturnsInHanded {} Try.checked os 5 .any (Rows.fnExactTakesSpec.pre6 enc Try.prog Try.f5 Rows.fnExactTakesRow.domain false) (Rows.fnExactTakesSpec.post enc Try.prog Try.f5 false true false false) := by
  refine returnsInHanded_of_change (C := Try.checked) Errs.own started (by kernel_rfl) Try.func5
    (ChangeSpec.witness6 (enc := enc) (C := Try.checked) false ⟨#[], #[.agg #[.int .i64 0, .int .i64 0, .int .i64 0, .int .i64 0, .slice none 0 0], .int .i64 0, .int .i64 0], []⟩ 8 (by kernel_rfl) (by kernel_rfl) (by kernel_rfl) (by kernel_rfl)) ?_
  intro W base args ds gs before hval hW _ _
  exact contract H enc W base args ds gs before hval hW

set_option maxRecDepth 100000 in
theorem over : Rows.fnExactTakesRow.holds Try.pinned (OpenSpec.ofChange Rows.fnExactTakesSpec) :=
  OpenClaim.holds_of_wide 5 Try.f5 rfl rfl rfl rfl rfl rfl rfl ⟨rfl, rfl, rfl, rfl, rfl⟩ rfl rfl rfl rfl rfl (by kernel_rfl) Try.func5 (by kernel_rfl)
    (of_decide_eq_true (by kernel_rfl)) (by unfold Func.isWrapper; first | (rw [if_pos (by decide +kernel)]; kernel_rfl) | (rw [if_neg (by decide +kernel)]; exact ⟨rfl, rfl⟩))
    (fun os started H enc _ => lifted os started H enc)
end Go.Proofs.Ytbjojljmgcnpnan.fnExactTakes
namespace Go.Proofs.Ytbjojljmgcnpnan
theorem FnExactTakes_holds : Rows.FnExactTakesSaid := fnExactTakes.over
end Go.Proofs.Ytbjojljmgcnpnan

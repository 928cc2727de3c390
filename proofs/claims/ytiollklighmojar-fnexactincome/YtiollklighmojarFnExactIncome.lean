/- For every office the law of Income answers true: the program's Income and its model return the same, and nothing of the office is turned. No condition. -/
import Derived.Test.YtiollklighmojarErrs
import Derived.ShutString
import Derived.Lib.SmallJoins
import Derived.Test.YtiollklighmojarOfCopy
import Derived.Test.YtiollklighmojarOfInc
namespace Go.Proofs.Ytiollklighmojar.fnExactIncome
open Go.ChangeShapes Go.WideShapes Go.ChangeAt Go.RowKit Go.Joins
open Go.ChangeMaps (open_string shut_string)
set_option linter.unusedVariables false
set_option linter.unusedSimpArgs false

set_option maxRecDepth 100000 in
set_option maxHeartbeats 4000000 in
theorem walk (x0 : Of.Pl) (o0 : Of.Offc) (w : World) (w0 : Of.InA w x0 o0 ∧ Of.Lim o0)  :
    Calls Try.prog 4 #[Of.ofV x0 o0] w fun e w' => e = .returned (.bool true) ∧ Below w.heap.size w w' := by
  obtain ⟨I, hl⟩ := w0
  by_cases hb : 0 ≤ 1048576 - (Tn.bulk o0.ln : Int) - (o0.ta.length : Int) - (o0.ho.length : Int) - (Od.bulk o0.od : Int) - (o0.to.length : Int)
  · have hz := Of.small_of hb
    have m0 := Pk.heap_new w (Of.ofB x0 o0 28)
    have N := Pk.new_below w (Of.ofB x0 o0 28)
    have hd : decide (1048576 - (Tn.bulk o0.ln : Int) - (o0.ta.length : Int) - (o0.ho.length : Int) - (Od.bulk o0.od : Int) - (o0.to.length : Int) < 0) = false := decide_eq_false (by omega)
    have HL : Hid (Of.Lim o0) := hl
    have HZ : Hid (Of.Small o0) := hz
    have HB : Hid (0 ≤ 1048576 - (Tn.bulk o0.ln : Int) - (o0.ta.length : Int) - (o0.ho.length : Int) - (Od.bulk o0.od : Int) - (o0.to.length : Int)) := hb
    have HT : Hid (∀ w, Of.InA w x0 o0 → _) := fun w h => Of.toOffice_val x0 o0 w hz h
    clear hz hl hb
    go_enter Try.func4, Try.ntmps4
    go_wp2_with fail
    refine (Of.szOffice_yes x0 o0 _ (I.on N) HB.out).mono ?_
    rintro e w1 ⟨rfl, L1⟩
    have m1 := Pk.kept L1 (Pk.lt_of m0) m0
    have L2 := Pk.join_below N L1
    clear N L1 m0
    have c0 : w1.cell? ⟨w.heap.size, 0, none⟩ = some (.slice x0.a0 o0.ln.length x0.c0) := Pk.cell_at m1 0
    have c1 : w1.cell? ⟨w.heap.size, 1, none⟩ = some (.slice x0.a1 o0.ta.length x0.c1) := Pk.cell_at m1 1
    have c2 : w1.cell? ⟨w.heap.size, 2, none⟩ = some (.slice x0.a2 o0.ho.length x0.c2) := Pk.cell_at m1 2
    have c3 : w1.cell? ⟨w.heap.size, 3, none⟩ = some (.slice x0.a3 o0.od.length x0.c3) := Pk.cell_at m1 3
    have c4 : w1.cell? ⟨w.heap.size, 4, none⟩ = some (.slice x0.a4 o0.to.length x0.c4) := Pk.cell_at m1 4
    have c5 : w1.cell? ⟨w.heap.size, 5, none⟩ = some (.int .i64 o0.td) := Pk.cell_at m1 5
    go_wp2_with fail
    refine (HT.out _ (I.on L2)).mono ?_
    rintro e w3 ⟨y3, rfl, L3, I3⟩
    have m3 := Pk.kept L3 (Pk.lt_of m1) m1
    have L4 := Pk.join_below L2 L3
    clear c0 c1 c2 c3 c4 c5 L2 L3 m1
    go_wp2_with fail
    refine (Of.specIncome_val y3 o0 _ HL.out.od I3).mono ?_
    rintro e w5 ⟨rfl, L5⟩
    have m5 := Pk.kept L5 (Pk.lt_of m3) m3
    have L6 := Pk.join_below L4 L5
    clear L4 L5 m3 I3
    have c0 : w5.cell? ⟨w.heap.size, 0, none⟩ = some (.slice x0.a0 o0.ln.length x0.c0) := Pk.cell_at m5 0
    have c1 : w5.cell? ⟨w.heap.size, 1, none⟩ = some (.slice x0.a1 o0.ta.length x0.c1) := Pk.cell_at m5 1
    have c2 : w5.cell? ⟨w.heap.size, 2, none⟩ = some (.slice x0.a2 o0.ho.length x0.c2) := Pk.cell_at m5 2
    have c3 : w5.cell? ⟨w.heap.size, 3, none⟩ = some (.slice x0.a3 o0.od.length x0.c3) := Pk.cell_at m5 3
    have c4 : w5.cell? ⟨w.heap.size, 4, none⟩ = some (.slice x0.a4 o0.to.length x0.c4) := Pk.cell_at m5 4
    have c5 : w5.cell? ⟨w.heap.size, 5, none⟩ = some (.int .i64 o0.td) := Pk.cell_at m5 5
    go_wp2_with fail
    refine (HT.out _ (I.on L6)).mono ?_
    rintro e w7 ⟨y7, rfl, L7, I7⟩
    have m7 := Pk.kept L7 (Pk.lt_of m5) m5
    have L8 := Pk.join_below L6 L7
    clear c0 c1 c2 c3 c4 c5 L6 L7 m5
    have N8 := Pk.new_below w7 (Of.ofB y7 o0 37)
    have x8 := Pk.heap_new w7 (Of.ofB y7 o0 37)
    have m8 := Pk.kept N8 (Pk.lt_of m7) m7
    have I8 := I7.on N8
    have L9 := Pk.join_below L8 N8
    clear m7 I7 L8 N8
    go_wp2_with fail
    refine (Of.implIncome_val y7 o0 _ HL.out.od I8).mono ?_
    rintro e w10 ⟨rfl, L10⟩
    have m10 := Pk.kept L10 (Pk.lt_of m8) m8
    have x10 := Pk.kept L10 (Pk.lt_of x8) x8
    have I10 := I8.on L10
    have L11 := Pk.join_below L9 L10
    clear m8 x8 I8 L9 L10
    have c0 : w10.cell? ⟨w.heap.size, 0, none⟩ = some (.slice x0.a0 o0.ln.length x0.c0) := Pk.cell_at m10 0
    have c1 : w10.cell? ⟨w.heap.size, 1, none⟩ = some (.slice x0.a1 o0.ta.length x0.c1) := Pk.cell_at m10 1
    have c2 : w10.cell? ⟨w.heap.size, 2, none⟩ = some (.slice x0.a2 o0.ho.length x0.c2) := Pk.cell_at m10 2
    have c3 : w10.cell? ⟨w.heap.size, 3, none⟩ = some (.slice x0.a3 o0.od.length x0.c3) := Pk.cell_at m10 3
    have c4 : w10.cell? ⟨w.heap.size, 4, none⟩ = some (.slice x0.a4 o0.to.length x0.c4) := Pk.cell_at m10 4
    have c5 : w10.cell? ⟨w.heap.size, 5, none⟩ = some (.int .i64 o0.td) := Pk.cell_at m10 5
    have d0 : w10.cell? ⟨w7.heap.size, 0, none⟩ = some (.slice y7.a0 o0.ln.length y7.c0) := Pk.cell_at x10 0
    have d1 : w10.cell? ⟨w7.heap.size, 1, none⟩ = some (.slice y7.a1 o0.ta.length y7.c1) := Pk.cell_at x10 1
    have d2 : w10.cell? ⟨w7.heap.size, 2, none⟩ = some (.slice y7.a2 o0.ho.length y7.c2) := Pk.cell_at x10 2
    have d3 : w10.cell? ⟨w7.heap.size, 3, none⟩ = some (.slice y7.a3 o0.od.length y7.c3) := Pk.cell_at x10 3
    have d4 : w10.cell? ⟨w7.heap.size, 4, none⟩ = some (.slice y7.a4 o0.to.length y7.c4) := Pk.cell_at x10 4
    have d5 : w10.cell? ⟨w7.heap.size, 5, none⟩ = some (.int .i64 o0.td) := Pk.cell_at x10 5
    generalize Of.incTo o0.od o0.od.length = B at *
    have HE : Hid (∀ y z w, Of.In w y o0 → Of.In w z o0 → _) := fun y z w h1 h2 => Of.eqOffice_same y z o0 w HZ.out h1 h2
    all_goals
      go_wp2
      go_region_with (first
        | (go_at_call 8; refine (HT.out _ ?_).mono ?_; (first | exact I.on L11 | exact I.on L11.drew); rintro e x1 ⟨y1, rfl, M0, J1⟩; have M1 : Below w10.heap.size w10 x1 := (by first | exact M0 | exact ((Below.refl _ _).drew).trans M0); have p1 := Pk.kept M1 (Pk.lt_of x10) x10; have I11 := I10.on M1; have M2 := Pk.join_below L11 M1; have d0 : x1.cell? ⟨w7.heap.size, 0, none⟩ = some (.slice y7.a0 o0.ln.length y7.c0) := Pk.cell_at p1 0; have d1 : x1.cell? ⟨w7.heap.size, 1, none⟩ = some (.slice y7.a1 o0.ta.length y7.c1) := Pk.cell_at p1 1; have d2 : x1.cell? ⟨w7.heap.size, 2, none⟩ = some (.slice y7.a2 o0.ho.length y7.c2) := Pk.cell_at p1 2; have d3 : x1.cell? ⟨w7.heap.size, 3, none⟩ = some (.slice y7.a3 o0.od.length y7.c3) := Pk.cell_at p1 3; have d4 : x1.cell? ⟨w7.heap.size, 4, none⟩ = some (.slice y7.a4 o0.to.length y7.c4) := Pk.cell_at p1 4; have d5 : x1.cell? ⟨w7.heap.size, 5, none⟩ = some (.int .i64 o0.td) := Pk.cell_at p1 5; clear M0 M1 p1)
        | (go_at_call 10; refine (HE.out _ _ _ ?_ ?_).mono ?_; (exact I11); (exact J1); rintro e x2 ⟨rfl, M3⟩))
      all_goals
        have M4 := Pk.join_below M2 M3
        go_wp2
        go_ret
        exact ⟨rfl, M4⟩
  · have HM : Hid (_ ∧ _) := ⟨hl, hb⟩
    have N := Pk.new_below w (Of.ofB x0 o0 28)
    clear hl hb
    go_enter Try.func4, Try.ntmps4
    go_wp2_with fail
    refine (Of.szOffice_no x0 o0 _ (I.on N) HM.out.1 (by have := HM.out.2; omega)).mono ?_
    rintro e w1 ⟨rfl, L1⟩
    go_wp2
    go_ret
    exact ⟨rfl, Pk.join_below N L1⟩

set_option maxRecDepth 100000 in
theorem contract (H : Type) (enc : TypeId × Value → H) (W : World) (base : Nat) (args : Array Value) (ds gs : List (DataW H)) (before : List MemPlace)
    (hval : ∀ (j : Nat) t v, Try.f4.params[j]? = some t → args[j]? = some v → Value.okWide Try.prog W .any base t v)
    (hW : DataW.Whole enc Try.prog Try.f4.params.toList Rows.fnExactIncomeSpec.vars false W args.toList ds gs before) :
    Calls Try.prog 4 args W fun e W' => ∃ v, e = .returned v ∧ Rows.fnExactIncomeSpec.post enc Try.prog Try.f4 false true false false W args v W' := by
  have hW' := hW
  obtain ⟨p, q, hA0, hV, rfl, hfz, hnd⟩ := hW
  have hA : DataW.TrodAll enc Try.prog W 0 (fun _ => true) true Try.f4.params.toList args.toList ds p := hA0
  rw [Try.params4] at hA hval
  obtain ⟨v0, vs0, d0, ds0, p0, q0, hargs, rfl, rfl, h0, r0⟩ := trodAll_cons hA
  obtain ⟨rfl, rfl, rfl⟩ := trodAll_nil r0
  obtain rfl : args = #[v0] := by cases args; simp_all
  obtain ⟨rfl, rfl⟩ := trodVars_none hV
  have k0 := h0
  have lt0 : ∀ x ∈ p0, x.block < W.heap.size := by obtain ⟨m, hm⟩ := k0; exact DataW.trod_lt m _ _ _ hm
  obtain ⟨x0, o0, rfl, w0i, w0l⟩ := Of.of_open (hval 0 28 v0 rfl rfl) h0
  clear hA0
  refine (walk x0 o0 W ⟨w0i, w0l⟩ ).mono fun e W' ⟨he, bel⟩ => ?_
  subst he
  exact ⟨_, rfl, _, _, _, [], _, [], hW', trodAll_mk1 (shut_bool Try.underlying4 _), (trodAll_cons_mk (Below.trod Errs.laidOut (by kernel_rfl) (of_decide_eq_true (by kernel_rfl)) k0 bel lt0) trodAll_mk0), rfl, bel.frame _, fun h => by cases h⟩

set_option maxRecDepth 100000 in
theorem lifted (os : Os) (started : os.Started) (H : Type) (enc : TypeId × Value → H) :
    ReturnsInHanded {} Try.checked os 4 .any (Rows.fnExactIncomeSpec.pre6 enc Try.prog Try.f4 Rows.fnExactIncomeRow.domain false) (Rows.fnExactIncomeSpec.post enc Try.prog Try.f4 false true false false) := by
  refine returnsInHanded_of_change (C := Try.checked) Errs.own started (by kernel_rfl) Try.func4
    (ChangeSpec.witness6 (enc := enc) (C := Try.checked) false ⟨#[], #[.agg #[.slice none 0 0, .slice none 0 0, .slice none 0 0, .slice none 0 0, .slice none 0 0, .int .i64 0]], []⟩ 8 (by kernel_rfl) (by kernel_rfl) (by kernel_rfl) (by kernel_rfl)) ?_
  intro W base args ds gs before hval hW _ _
  exact contract H enc W base args ds gs before hval hW

set_option maxRecDepth 100000 in
theorem over : Rows.fnExactIncomeRow.holds Try.pinned (OpenSpec.ofChange Rows.fnExactIncomeSpec) :=
  OpenClaim.holds_of_wide 4 Try.f4 rfl rfl rfl rfl rfl rfl rfl ⟨rfl, rfl, rfl, rfl, rfl⟩ rfl rfl rfl rfl rfl (by kernel_rfl) Try.func4 (by kernel_rfl)
    (of_decide_eq_true (by kernel_rfl)) (by unfold Func.isWrapper; first | (rw [if_pos (by decide +kernel)]; kernel_rfl) | (rw [if_neg (by decide +kernel)]; exact ⟨rfl, rfl⟩))
    (fun os started H enc _ => lifted os started H enc)
end Go.Proofs.Ytiollklighmojar.fnExactIncome
namespace Go.Proofs.Ytiollklighmojar
theorem FnExactIncome_holds : Rows.FnExactIncomeSaid := fnExactIncome.over
end Go.Proofs.Ytiollklighmojar

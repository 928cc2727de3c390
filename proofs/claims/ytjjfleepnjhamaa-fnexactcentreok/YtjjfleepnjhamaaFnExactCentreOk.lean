/- For every centre the law of CentreOk answers true: the program's CentreOk and its model answer alike, and nothing of the centre is turned. No condition. -/
import Derived.Test.YtjjfleepnjhamaaErrs
import Derived.ShutString
import Derived.Lib.SmallJoins
import Derived.Test.YtjjfleepnjhamaaCeTo
import Derived.Test.YtjjfleepnjhamaaCeIn
import Derived.Test.YtjjfleepnjhamaaCeOk
namespace Go.Proofs.Ytjjfleepnjhamaa.fnExactCentreOk
open Go.ChangeShapes Go.WideShapes Go.ChangeAt Go.RowKit Go.Joins
open Go.ChangeMaps (open_string shut_string)
set_option linter.unusedVariables false
set_option linter.unusedSimpArgs false

set_option maxRecDepth 100000 in
set_option maxHeartbeats 8000000 in
theorem walk (x0 : Hn.Pl) (o0 : Hn.Ctr) (w : World) (w0 : Hn.In w x0 o0 ∧ Hn.Lim o0)   :
    Calls Try.prog 3 #[Hn.ceV x0 o0] w fun e w' => e = .returned (.bool true) ∧ Below w.heap.size w w' := by
  obtain ⟨I, LM⟩ := w0
  have hm1 : o0.ol.length ≤ maxLen := LM.ol
  have hm2 : o0.sl.length ≤ maxLen := LM.sl
  have HM : Hid (o0.ol.length ≤ maxLen ∧ o0.sl.length ≤ maxLen) := ⟨hm1, hm2⟩
  clear LM hm1 hm2
  by_cases hb : (o0.ol.length : Int) + (o0.sl.length : Int) ≤ 1048576
  · have hz : o0.ol.length ≤ 1048576 := by omega
    have hz2 : o0.sl.length ≤ 1048576 := by omega
    have hd : decide (1048576 - (o0.ol.length : Int) - (o0.sl.length : Int) < 0) = false := decide_eq_false (by omega)
    have HS : Hid (∀ (y : Hn.Pl) (W : World), Hn.In W y o0 → _) := fun y W h => Hn.specCentre_val y o0 W hz hz2 h
    have HI : Hid (∀ (y : Hn.Pl) (W : World), Hn.In W y o0 → _) := fun y W h => Hn.implCentre_val y o0 W hz hz2 h
    have HT : Hid (∀ (W : World), Hn.In W x0 o0 → _) := fun W h => Hn.toCentre_val x0 o0 W hz hz2 h
    have HE : Hid (∀ (x y : Hn.Pl) (W : World), Hn.In W x o0 → Hn.In W y o0 → _) := fun x y W h k => Hn.eqCentre_same x y o0 W hz hz2 h k
    have HZ : Hid (∀ (W : World), _) := fun W => Hn.szCentre_yes x0 o0 1048576 W (by omega) hb
    generalize Hn.cenB o0 = B at *
    have m0 := Pk.heap_new w (Hn.ceB x0 o0 25)
    have N := Pk.new_below w (Hn.ceB x0 o0 25)
    clear hz hz2 hb HM
    go_enter Try.func3, Try.ntmps3
    go_wp2_with fail
    refine (HZ.out _).mono ?_
    rintro e w1 ⟨rfl, L1⟩
    have m1 := Pk.kept L1 (Pk.lt_of m0) m0
    have L2 := Pk.join_below N L1
    clear N L1 m0
    have c0 : w1.cell? ⟨w.heap.size, 0, none⟩ = some (.int .i64 o0.ve) := Pk.cell_at m1 0
    have c1 : w1.cell? ⟨w.heap.size, 1, none⟩ = some (.slice x0.a o0.ol.length x0.c) := Pk.cell_at m1 1
    have c2 : w1.cell? ⟨w.heap.size, 2, none⟩ = some (.slice x0.b o0.sl.length x0.d) := Pk.cell_at m1 2
    go_wp2_with fail
    refine (HT.out _ (I.on L2)).mono ?_
    rintro e w3 ⟨y3, ga, gb, rfl, L3, I3, -⟩
    have m3 := Pk.kept L3 (Pk.lt_of m1) m1
    have L4 := Pk.join_below L2 L3
    clear c0 c1 c2 L2 L3 m1
    go_wp2_with fail
    refine (HS.out _ _ I3).mono ?_
    rintro e w5 ⟨rfl, L5⟩
    have m5 := Pk.kept L5 (Pk.lt_of m3) m3
    have L6 := Pk.join_below L4 L5
    clear L4 L5 m3 I3
    have c0 : w5.cell? ⟨w.heap.size, 0, none⟩ = some (.int .i64 o0.ve) := Pk.cell_at m5 0
    have c1 : w5.cell? ⟨w.heap.size, 1, none⟩ = some (.slice x0.a o0.ol.length x0.c) := Pk.cell_at m5 1
    have c2 : w5.cell? ⟨w.heap.size, 2, none⟩ = some (.slice x0.b o0.sl.length x0.d) := Pk.cell_at m5 2
    go_wp2_with fail
    refine (HT.out _ (I.on L6)).mono ?_
    rintro e w7 ⟨y7, gc, gd, rfl, L7, I7, -⟩
    have m7 := Pk.kept L7 (Pk.lt_of m5) m5
    have L8 := Pk.join_below L6 L7
    clear c0 c1 c2 L6 L7 m5
    have N8 := Pk.new_below w7 (Hn.ceB y7 o0 30)
    have x8 := Pk.heap_new w7 (Hn.ceB y7 o0 30)
    have m8 := Pk.kept N8 (Pk.lt_of m7) m7
    have I8 := I7.on N8
    have L9 := Pk.join_below L8 N8
    clear m7 I7 L8 N8
    go_wp2_with fail
    refine (HI.out _ _ I8).mono ?_
    rintro e w10 ⟨rfl, L10⟩
    have m10 := Pk.kept L10 (Pk.lt_of m8) m8
    have x10 := Pk.kept L10 (Pk.lt_of x8) x8
    have I10 := I8.on L10
    have L11 := Pk.join_below L9 L10
    clear m8 x8 I8 L9 L10
    have c0 : w10.cell? ⟨w.heap.size, 0, none⟩ = some (.int .i64 o0.ve) := Pk.cell_at m10 0
    have c1 : w10.cell? ⟨w.heap.size, 1, none⟩ = some (.slice x0.a o0.ol.length x0.c) := Pk.cell_at m10 1
    have c2 : w10.cell? ⟨w.heap.size, 2, none⟩ = some (.slice x0.b o0.sl.length x0.d) := Pk.cell_at m10 2
    have d0 : w10.cell? ⟨w7.heap.size, 0, none⟩ = some (.int .i64 o0.ve) := Pk.cell_at x10 0
    have d1 : w10.cell? ⟨w7.heap.size, 1, none⟩ = some (.slice y7.a o0.ol.length y7.c) := Pk.cell_at x10 1
    have d2 : w10.cell? ⟨w7.heap.size, 2, none⟩ = some (.slice y7.b o0.sl.length y7.d) := Pk.cell_at x10 2
    cases B
    all_goals
      go_wp2
      go_region_with (first
        | (go_at_call 11; refine (HT.out _ ?_).mono ?_; (first | exact I.on L11 | exact I.on L11.drew); rintro e x1 ⟨y1, ge, gf, rfl, M0, J1, -⟩; have M1 : Below w10.heap.size w10 x1 := (by first | exact M0 | exact ((Below.refl _ _).drew).trans M0); have p1 := Pk.kept M1 (Pk.lt_of x10) x10; have I11 := I10.on M1; have M2 := Pk.join_below L11 M1; have d0 : x1.cell? ⟨w7.heap.size, 0, none⟩ = some (.int .i64 o0.ve) := Pk.cell_at p1 0; have d1 : x1.cell? ⟨w7.heap.size, 1, none⟩ = some (.slice y7.a o0.ol.length y7.c) := Pk.cell_at p1 1; have d2 : x1.cell? ⟨w7.heap.size, 2, none⟩ = some (.slice y7.b o0.sl.length y7.d) := Pk.cell_at p1 2; clear M0 M1 p1)
        | (go_at_call 13; refine (HE.out _ _ _ ?_ ?_).mono ?_; (exact I11); (exact J1); rintro e x2 ⟨rfl, M3⟩))
      all_goals
        have M4 := Pk.join_below M2 M3
        go_wp2
        go_ret
        exact ⟨rfl, M4⟩
  · have N := Pk.new_below w (Hn.ceB x0 o0 25)
    have HB : Hid (¬ (o0.ol.length : Int) + (o0.sl.length : Int) ≤ 1048576) := hb
    clear hb
    go_enter Try.func3, Try.ntmps3
    go_wp2_with fail
    refine (Hn.szCentre_no x0 o0 1048576 _ (by omega) (by omega) HM.out.1 HM.out.2 (by have := HB.out; omega)).mono ?_
    rintro e w1 ⟨rfl, L1⟩
    go_wp2
    go_ret
    exact ⟨rfl, Pk.join_below N L1⟩

set_option maxRecDepth 100000 in
theorem contract (H : Type) (enc : TypeId × Value → H) (W : World) (base : Nat) (args : Array Value) (ds gs : List (DataW H)) (before : List MemPlace)
    (hval : ∀ (j : Nat) t v, Try.f3.params[j]? = some t → args[j]? = some v → Value.okWide Try.prog W .any base t v)
    (hW : DataW.Whole enc Try.prog Try.f3.params.toList Rows.fnExactCentreOkSpec.vars false W args.toList ds gs before) :
    Calls Try.prog 3 args W fun e W' => ∃ v, e = .returned v ∧ Rows.fnExactCentreOkSpec.post enc Try.prog Try.f3 false true false false W args v W' := by
  have hW' := hW
  obtain ⟨p, q, hA0, hV, rfl, hfz, hnd⟩ := hW
  have hA : DataW.TrodAll enc Try.prog W 0 (fun _ => true) true Try.f3.params.toList args.toList ds p := hA0
  rw [Try.params3] at hA hval
  obtain ⟨v0, vs0, d0, ds0, p0, q0, hargs, rfl, rfl, h0, r0⟩ := trodAll_cons hA
  obtain ⟨rfl, rfl, rfl⟩ := trodAll_nil r0
  obtain rfl : args = #[v0] := by cases args; simp_all
  obtain ⟨rfl, rfl⟩ := trodVars_none hV
  have k0 := h0
  have lt0 : ∀ x ∈ p0, x.block < W.heap.size := by obtain ⟨m, hm⟩ := k0; exact DataW.trod_lt m _ _ _ hm
  obtain ⟨x0, o0, rfl, w0i, w0l⟩ := Hn.centre_open (hval 0 25 v0 rfl rfl) h0
  clear hA0
  refine (walk x0 o0 W ⟨w0i, w0l⟩  ).mono fun e W' ⟨he, bel⟩ => ?_
  subst he
  exact ⟨_, rfl, _, _, _, [], _, [], hW', trodAll_mk1 (shut_bool Try.underlying4 _), (trodAll_cons_mk (Below.trod Errs.laidOut (by kernel_rfl) (of_decide_eq_true (by kernel_rfl)) k0 bel lt0) trodAll_mk0), rfl, bel.frame _, fun h => by cases h⟩

set_option maxRecDepth 100000 in
theorem lifted (os : Os) (started : os.Started) (H : Type) (enc : TypeId × Value → H) :
    ReturnsInHanded {} Try.checked os 3 .any (Rows.fnExactCentreOkSpec.pre6 enc Try.prog Try.f3 Rows.fnExactCentreOkRow.domain false) (Rows.fnExactCentreOkSpec.post enc Try.prog Try.f3 false true false false) := by
  refine returnsInHanded_of_change (C := Try.checked) Errs.own started (by kernel_rfl) Try.func3
    (ChangeSpec.witness6 (enc := enc) (C := Try.checked) false ⟨#[], #[.agg #[.int .i64 0, .slice none 0 0, .slice none 0 0]], []⟩ 8 (by kernel_rfl) (by kernel_rfl) (by kernel_rfl) (by kernel_rfl)) ?_
  intro W base args ds gs before hval hW _ _
  exact contract H enc W base args ds gs before hval hW

set_option maxRecDepth 100000 in
theorem over : Rows.fnExactCentreOkRow.holds Try.pinned (OpenSpec.ofChange Rows.fnExactCentreOkSpec) :=
  OpenClaim.holds_of_wide 3 Try.f3 rfl rfl rfl rfl rfl rfl rfl ⟨rfl, rfl, rfl, rfl, rfl⟩ rfl rfl rfl rfl rfl (by kernel_rfl) Try.func3 (by kernel_rfl)
    (of_decide_eq_true (by kernel_rfl)) (by unfold Func.isWrapper; first | (rw [if_pos (by decide +kernel)]; kernel_rfl) | (rw [if_neg (by decide +kernel)]; exact ⟨rfl, rfl⟩))
    (fun os started H enc _ => lifted os started H enc)
end Go.Proofs.Ytjjfleepnjhamaa.fnExactCentreOk
namespace Go.Proofs.Ytjjfleepnjhamaa
theorem FnExactCentreOk_holds : Rows.FnExactCentreOkSaid := fnExactCentreOk.over
end Go.Proofs.Ytjjfleepnjhamaa

/- For every office the law of OfficeText answers true: the program's OfficeText and its model return the same text, and nothing of the office is turned. The library's tables that are listed are as their text lays them (the card ties them; over a pruned copy of the project). -/
import Derived.Test.YtbmcnkfhiiicjaaDoorErrs
import Derived.Test.YtbmcnkfhiiicjaaDoorTabs
import Derived.ShutString
import Derived.Lib.SmallJoins
import Derived.Test.YtbmcnkfhiiicjaaDoorCards
import Derived.Test.YtbmcnkfhiiicjaaDoorTie
import Derived.Test.YtbmcnkfhiiicjaaDoorOfCopy
import Derived.Test.YtbmcnkfhiiicjaaDoorOtText
import Derived.Test.YtbmcnkfhiiicjaaDoorOtTextS
import Derived.Test.YtbmcnkfhiiicjaaDoorOtFit
import Derived.Test.YtbmcnkfhiiicjaaDoorTabs
namespace Go.Proofs.YtbmcnkfhiiicjaaDoor.fnExactOfficeText
open Go.ChangeShapes Go.WideShapes Go.ChangeAt Go.RowKit Go.Joins
open Go.ChangeMaps (open_string shut_string)
set_option linter.unusedVariables false
set_option linter.unusedSimpArgs false

set_option maxRecDepth 100000 in
set_option maxHeartbeats 4000000 in
theorem walk (x0 : Of.Pl) (o0 : Of.Offc) (w : World) (w0 : Of.InA w x0 o0 ∧ Of.Lim o0) (T : Num.Tens w)  :
    Calls Tryd.prog 3 #[Of.ofV x0 o0] w fun e w' => e = .returned (.bool true) ∧ Below w.heap.size w w' := by
  obtain ⟨I, hl⟩ := w0
  by_cases hb : 0 ≤ 1048576 - (Tn.bulk o0.ln : Int) - (o0.ta.length : Int) - (o0.ho.length : Int) - (Od.bulk o0.od : Int) - (o0.to.length : Int)
  · have hz := Of.small_of hb
    have m0 := Pk.heap_new w (Of.ofB x0 o0 28)
    have N := Pk.new_below w (Of.ofB x0 o0 28)
    have hd : decide (1048576 - (Tn.bulk o0.ln : Int) - (o0.ta.length : Int) - (o0.ho.length : Int) - (Od.bulk o0.od : Int) - (o0.to.length : Int) < 0) = false := decide_eq_false (by omega)
    have HL : Hid (Of.Lim o0) := hl
    have HZ : Hid (Of.Small o0) := hz
    have HB : Hid (0 ≤ 1048576 - (Tn.bulk o0.ln : Int) - (o0.ta.length : Int) - (o0.ho.length : Int) - (Od.bulk o0.od : Int) - (o0.to.length : Int)) := hb
    have HT : Hid (∀ w, Of.InA w x0 o0 → _) := fun w h => Of.toOffice_val x0 o0 w hz h
    have HFT : Hid (Ot.Fit o0) := Ot.fit_of hl hz
    clear hz hl hb
    go_enter Tryd.func3, Tryd.ntmps3
    go_wp2_with fail
    refine (Of.szOffice_yes x0 o0 _ (I.on N) HB.out).mono ?_
    rintro e w1 ⟨rfl, L1⟩
    have m1 := Pk.kept L1 (Pk.lt_of m0) m0
    have L2 := Pk.join_below N L1
    clear N L1 m0
    have c0 : w1.cell? ⟨w.heap.size, 0, none⟩ = some (.slice x0.a0 o0.ln.length x0.c0) := Pk.cell_at m1 0
    have c1 : w1.cell? ⟨w.heap.size, 1, none⟩ = some (.slice x0.a1 o0.ta.length x0.c1) := Pk.cell_at m1 1
    have c2 : w1.cell? ⟨w.heap.size, 2, none⟩ = some (.slice x0.a2 o0.ho.length x0.c2) := Pk.cell_at m1 2
    have c3 : w1.cell? ⟨w.heap.size, 3, none⟩ = some (.slice x0.a3 o0.od.length x0.c3) := Pk.cell_at m1 3
    have c4 : w1.cell? ⟨w.heap.size, 4, none⟩ = some (.slice x0.a4 o0.to.length x0.c4) := Pk.cell_at m1 4
    have c5 : w1.cell? ⟨w.heap.size, 5, none⟩ = some (.int .i64 o0.td) := Pk.cell_at m1 5
    go_wp2_with fail
    refine (HT.out _ (I.on L2)).mono ?_
    rintro e w3 ⟨y3, rfl, L3, I3⟩
    have m3 := Pk.kept L3 (Pk.lt_of m1) m1
    have L4 := Pk.join_below L2 L3
    clear c0 c1 c2 c3 c4 c5 L2 L3 m1
    go_wp2_with fail
    refine (Ot.specText_val y3 o0 _ HFT.out I3).mono ?_
    rintro e w5 ⟨rfl, L5⟩
    have m5 := Pk.kept L5 (Pk.lt_of m3) m3
    have L6 := Pk.join_below L4 L5
    clear L4 L5 m3 I3
    have c0 : w5.cell? ⟨w.heap.size, 0, none⟩ = some (.slice x0.a0 o0.ln.length x0.c0) := Pk.cell_at m5 0
    have c1 : w5.cell? ⟨w.heap.size, 1, none⟩ = some (.slice x0.a1 o0.ta.length x0.c1) := Pk.cell_at m5 1
    have c2 : w5.cell? ⟨w.heap.size, 2, none⟩ = some (.slice x0.a2 o0.ho.length x0.c2) := Pk.cell_at m5 2
    have c3 : w5.cell? ⟨w.heap.size, 3, none⟩ = some (.slice x0.a3 o0.od.length x0.c3) := Pk.cell_at m5 3
    have c4 : w5.cell? ⟨w.heap.size, 4, none⟩ = some (.slice x0.a4 o0.to.length x0.c4) := Pk.cell_at m5 4
    have c5 : w5.cell? ⟨w.heap.size, 5, none⟩ = some (.int .i64 o0.td) := Pk.cell_at m5 5
    go_wp2_with fail
    refine (HT.out _ (I.on L6)).mono ?_
    rintro e w7 ⟨y7, rfl, L7, I7⟩
    have m7 := Pk.kept L7 (Pk.lt_of m5) m5
    have L8 := Pk.join_below L6 L7
    clear c0 c1 c2 c3 c4 c5 L6 L7 m5
    have N8 := Pk.new_below w7 (Of.ofB y7 o0 37)
    have x8 := Pk.heap_new w7 (Of.ofB y7 o0 37)
    have m8 := Pk.kept N8 (Pk.lt_of m7) m7
    have I8 := I7.on N8
    have L9 := Pk.join_below L8 N8
    clear m7 I7 L8 N8
    go_wp2_with fail
    refine (Ot.implText_val y7 o0 _ HFT.out I8 (T.on L9)).mono ?_
    rintro e w10 ⟨rfl, L10⟩
    have m10 := Pk.kept L10 (Pk.lt_of m8) m8
    have x10 := Pk.kept L10 (Pk.lt_of x8) x8
    have I10 := I8.on L10
    have L11 := Pk.join_below L9 L10
    clear m8 x8 I8 L9 L10
    have c0 : w10.cell? ⟨w.heap.size, 0, none⟩ = some (.slice x0.a0 o0.ln.length x0.c0) := Pk.cell_at m10 0
    have c1 : w10.cell? ⟨w.heap.size, 1, none⟩ = some (.slice x0.a1 o0.ta.length x0.c1) := Pk.cell_at m10 1
    have c2 : w10.cell? ⟨w.heap.size, 2, none⟩ = some (.slice x0.a2 o0.ho.length x0.c2) := Pk.cell_at m10 2
    have c3 : w10.cell? ⟨w.heap.size, 3, none⟩ = some (.slice x0.a3 o0.od.length x0.c3) := Pk.cell_at m10 3
    have c4 : w10.cell? ⟨w.heap.size, 4, none⟩ = some (.slice x0.a4 o0.to.length x0.c4) := Pk.cell_at m10 4
    have c5 : w10.cell? ⟨w.heap.size, 5, none⟩ = some (.int .i64 o0.td) := Pk.cell_at m10 5
    have d0 : w10.cell? ⟨w7.heap.size, 0, none⟩ = some (.slice y7.a0 o0.ln.length y7.c0) := Pk.cell_at x10 0
    have d1 : w10.cell? ⟨w7.heap.size, 1, none⟩ = some (.slice y7.a1 o0.ta.length y7.c1) := Pk.cell_at x10 1
    have d2 : w10.cell? ⟨w7.heap.size, 2, none⟩ = some (.slice y7.a2 o0.ho.length y7.c2) := Pk.cell_at x10 2
    have d3 : w10.cell? ⟨w7.heap.size, 3, none⟩ = some (.slice y7.a3 o0.od.length y7.c3) := Pk.cell_at x10 3
    have d4 : w10.cell? ⟨w7.heap.size, 4, none⟩ = some (.slice y7.a4 o0.to.length y7.c4) := Pk.cell_at x10 4
    have d5 : w10.cell? ⟨w7.heap.size, 5, none⟩ = some (.int .i64 o0.td) := Pk.cell_at x10 5
    generalize Ot.otS o0 = B at *
    have HE : Hid (∀ y z w, Of.In w y o0 → Of.In w z o0 → _) := fun y z w h1 h2 => Of.eqOffice_same y z o0 w HZ.out h1 h2
    all_goals
      go_wp2
      go_region_with (first
        | (go_at_call 6; refine (HT.out _ ?_).mono ?_; (first | exact I.on L11 | exact I.on L11.drew); rintro e x1 ⟨y1, rfl, M0, J1⟩; have M1 : Below w10.heap.size w10 x1 := (by first | exact M0 | exact ((Below.refl _ _).drew).trans M0); have p1 := Pk.kept M1 (Pk.lt_of x10) x10; have I11 := I10.on M1; have M2 := Pk.join_below L11 M1; have d0 : x1.cell? ⟨w7.heap.size, 0, none⟩ = some (.slice y7.a0 o0.ln.length y7.c0) := Pk.cell_at p1 0; have d1 : x1.cell? ⟨w7.heap.size, 1, none⟩ = some (.slice y7.a1 o0.ta.length y7.c1) := Pk.cell_at p1 1; have d2 : x1.cell? ⟨w7.heap.size, 2, none⟩ = some (.slice y7.a2 o0.ho.length y7.c2) := Pk.cell_at p1 2; have d3 : x1.cell? ⟨w7.heap.size, 3, none⟩ = some (.slice y7.a3 o0.od.length y7.c3) := Pk.cell_at p1 3; have d4 : x1.cell? ⟨w7.heap.size, 4, none⟩ = some (.slice y7.a4 o0.to.length y7.c4) := Pk.cell_at p1 4; have d5 : x1.cell? ⟨w7.heap.size, 5, none⟩ = some (.int .i64 o0.td) := Pk.cell_at p1 5; clear M0 M1 p1)
        | (go_at_call 8; refine (HE.out _ _ _ ?_ ?_).mono ?_; (exact I11); (exact J1); rintro e x2 ⟨rfl, M3⟩))
      all_goals
        have M4 := Pk.join_below M2 M3
        go_wp2
        go_ret
        exact ⟨rfl, M4⟩
  · have HM : Hid (_ ∧ _) := ⟨hl, hb⟩
    have N := Pk.new_below w (Of.ofB x0 o0 28)
    clear hl hb
    go_enter Tryd.func3, Tryd.ntmps3
    go_wp2_with fail
    refine (Of.szOffice_no x0 o0 _ (I.on N) HM.out.1 (by have := HM.out.2; omega)).mono ?_
    rintro e w1 ⟨rfl, L1⟩
    go_wp2
    go_ret
    exact ⟨rfl, Pk.join_below N L1⟩

theorem errs {W : World} (hL : laidMetH Tryd.prog Rows.fnExactOfficeTextRow.laid W) : Num.Tens W := by
  have h0 : laidMet Tryd.prog [("math/bits.deBruijn32tab", Rows.laid_math_bits_deBruijn32tab), ("math/bits.deBruijn64tab", Rows.laid_math_bits_deBruijn64tab), ("internal/strconv.uint64pow10", Rows.laid_internal_strconv_uint64pow10)] W := hL
  exact Tabs.tens_of (laidMet.tail (laidMet.tail h0))

set_option maxRecDepth 100000 in
theorem contract (H : Type) (enc : TypeId × Value → H) (W : World) (base : Nat) (args : Array Value) (ds gs : List (DataW H)) (before : List MemPlace)
    (hval : ∀ (j : Nat) t v, Tryd.f3.params[j]? = some t → args[j]? = some v → Value.okWide Tryd.prog W .any base t v)
    (hW : DataW.Whole enc Tryd.prog Tryd.f3.params.toList Rows.fnExactOfficeTextSpec.vars false W args.toList ds gs before) (hL : laidMetH Tryd.prog Rows.fnExactOfficeTextRow.laid W) :
    Calls Tryd.prog 3 args W fun e W' => ∃ v, e = .returned v ∧ Rows.fnExactOfficeTextSpec.post enc Tryd.prog Tryd.f3 false true false false W args v W' := by
  have hW' := hW
  obtain ⟨p, q, hA0, hV, rfl, hfz, hnd⟩ := hW
  have hA : DataW.TrodAll enc Tryd.prog W 0 (fun _ => true) true Tryd.f3.params.toList args.toList ds p := hA0
  rw [Tryd.params3] at hA hval
  obtain ⟨v0, vs0, d0, ds0, p0, q0, hargs, rfl, rfl, h0, r0⟩ := trodAll_cons hA
  obtain ⟨rfl, rfl, rfl⟩ := trodAll_nil r0
  obtain rfl : args = #[v0] := by cases args; simp_all
  have hlen := Errs.vars_len hV
  obtain rfl := List.length_eq_zero_iff.1 hlen
  have k0 := h0
  have lt0 : ∀ x ∈ p0, x.block < W.heap.size := by obtain ⟨m, hm⟩ := k0; exact DataW.trod_lt m _ _ _ hm
  obtain ⟨x0, o0, rfl, w0i, w0l⟩ := Of.of_open (hval 0 28 v0 rfl rfl) h0
  clear hA0
  refine (walk x0 o0 W ⟨w0i, w0l⟩ (errs hL) ).mono fun e W' ⟨he, bel⟩ => ?_
  subst he
  exact ⟨_, rfl, _, _, _, [], _, _, hW', trodAll_mk1 (shut_bool Tryd.underlying4 _), (trodAll_cons_mk (Below.trod Errs.laidOut (by kernel_rfl) (of_decide_eq_true (by kernel_rfl)) k0 bel lt0) trodAll_mk0), (Below.trodVars Errs.laidOut bel (by kernel_rfl) hV), bel.frame _, fun h => by cases h⟩

theorem laid_met (os : Os) : laidMet Tryd.prog Rows.fnExactOfficeTextRow.laid ((Tabs.tabW 0 Rows.laid_internal_strconv_uint64pow10 (Tabs.tabW 2 Rows.laid_math_bits_deBruijn64tab (Tabs.tabW 1 Rows.laid_math_bits_deBruijn32tab (World.holding Tryd.prog os ⟨#[], #[], []⟩)))).forCall (fun _ _ => 0) ⟨#[], #[.agg #[.slice none 0 0, .slice none 0 0, .slice none 0 0, .slice none 0 0, .slice none 0 0, .int .i64 0]], []⟩).memory :=
  laidMet_of_run' 8 (by kernel_rfl) (by kernel_rfl)

theorem reads (os : Os) {H : Type} (enc : TypeId × Value → H) : ∃ x, DataW.whole enc Tryd.prog ((Tabs.tabW 0 Rows.laid_internal_strconv_uint64pow10 (Tabs.tabW 2 Rows.laid_math_bits_deBruijn64tab (Tabs.tabW 1 Rows.laid_math_bits_deBruijn32tab (World.holding Tryd.prog os ⟨#[], #[], []⟩)))).forCall (fun _ _ => 0) ⟨#[], #[.agg #[.slice none 0 0, .slice none 0 0, .slice none 0 0, .slice none 0 0, .slice none 0 0, .int .i64 0]], []⟩).memory Tryd.f3.params.toList Rows.fnExactOfficeTextSpec.vars false (#[.agg #[.slice none 0 0, .slice none 0 0, .slice none 0 0, .slice none 0 0, .slice none 0 0, .int .i64 0]] : Array Value).toList 8 = some x :=
  Option.isSome_iff_exists.1 (by kernel_rfl)

set_option maxRecDepth 100000 in
theorem lifted (os : Os) (started : os.Started) (H : Type) (enc : TypeId × Value → H) (F : Stop.Interp) :
    ReturnsInHanded {} Tryd.checked os 3 .any ((OpenSpec.ofChange Rows.fnExactOfficeTextSpec).preRow enc Tryd.prog Tryd.f3 Rows.fnExactOfficeTextRow.domain false Rows.fnExactOfficeTextRow.laid) (((OpenSpec.ofChange Rows.fnExactOfficeTextSpec).at F).post enc Tryd.prog Tryd.f3 false true false false) := by
  obtain ⟨x, hx⟩ := reads os enc
  refine returnsInHanded_of_row (C := Tryd.checked) (s := OpenSpec.ofChange Rows.fnExactOfficeTextSpec) Errs.own started (by kernel_rfl) Tryd.func3
    (witness_row_at (enc := enc) (C := Tryd.checked) false (Tabs.tabW 0 Rows.laid_internal_strconv_uint64pow10 (Tabs.tabW 2 Rows.laid_math_bits_deBruijn64tab (Tabs.tabW 1 Rows.laid_math_bits_deBruijn32tab (World.holding Tryd.prog os ⟨#[], #[], []⟩)))) #[.agg #[.slice none 0 0, .slice none 0 0, .slice none 0 0, .slice none 0 0, .slice none 0 0, .int .i64 0]] rfl (by kernel_rfl) (by kernel_rfl) (by kernel_rfl)
      (OpenSpec.preRow_of_cond 8 hx rfl (fun k hk => by cases hk) (by kernel_rfl) (laid_met os))) ?_
  intro W base args ds gs before hval hW _ _ _ hL _ _
  exact contract H enc W base args ds gs before hval hW hL

set_option maxRecDepth 100000 in
theorem said : Rows.FnExactOfficeTextSaid :=
  OpenClaim.holds_of_cond 3 Tryd.f3 rfl rfl rfl rfl rfl rfl rfl ⟨rfl, rfl, rfl, rfl, rfl⟩ rfl rfl rfl rfl rfl (by kernel_rfl) Tryd.func3 (by kernel_rfl)
    (of_decide_eq_true (by kernel_rfl)) (by unfold Func.isWrapper; first | (rw [if_pos (by decide +kernel)]; kernel_rfl) | (rw [if_neg (by decide +kernel)]; exact ⟨rfl, rfl⟩))
    (fun os started H enc _ F => by rw [OpenClaim.pre_eq_preRow]; exact lifted os started H enc F)

theorem plain (f : FuncId) (fn : Func) (hf : Tryd.pinned.checked.prog.funcNamed "loop.example/g00211/laws.FnExactOfficeText" = some f) (hfn : Tryd.pinned.checked.prog.funcs[f]? = some fn) :
    false = Tryd.pinned.checked.prog.looks [] ∧ ∀ (j : Nat) t, fn.params[j]? = some t → Tryd.pinned.checked.prog.wantsStandIn t = false := by
  obtain rfl : f = 3 := Option.some.inj ((show Tryd.prog.funcNamed "loop.example/g00211/laws.FnExactOfficeText" = some 3 by kernel_rfl).symm.trans hf) |>.symm
  obtain rfl : fn = Tryd.f3 := (Option.some.inj (Tryd.func3.symm.trans hfn)).symm
  refine ⟨by kernel_rfl, fun j t ht => ?_⟩
  rw [Tryd.params3] at ht
  obtain rfl : t = 28 := by simpa using Array.mem_of_getElem? ht
  exact (show Tryd.prog.wantsStandIn 28 = false by kernel_rfl)

theorem card : Rows.FnExactOfficeTextCardSaid :=
  Claim7.holds_tied_plain_at .later [] _ _ _ _ said (fun _ h => by cases h) (by kernel_rfl) (fun _ h => by cases h) fnExactOfficeText_row_tie rfl ⟨rfl, rfl⟩ (by kernel_rfl) rfl plain (by kernel_rfl)
end Go.Proofs.YtbmcnkfhiiicjaaDoor.fnExactOfficeText
namespace Go.Proofs.YtbmcnkfhiiicjaaDoor
theorem FnExactOfficeText_holds : Rows.FnExactOfficeTextCardSaid := fnExactOfficeText.card
end Go.Proofs.YtbmcnkfhiiicjaaDoor

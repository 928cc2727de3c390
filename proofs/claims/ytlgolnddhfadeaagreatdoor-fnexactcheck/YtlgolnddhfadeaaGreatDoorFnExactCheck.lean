/- For every device, text, train and day the law of Check answers true: the program's Check and its model answer alike, and nothing of the device is turned. The program's own errors and its table of runs, and the tables of the library that are listed, are as their text lays them (the card ties them; over a pruned copy of the project). -/
import Derived.Test.YtlgolnddhfadeaaGreatDoorErrs
import Derived.Test.YtlgolnddhfadeaaGreatDoorManyAFnExactCheck
import Derived.ShutString
import Derived.Lib.SmallJoins
import Derived.Test.YtlgolnddhfadeaaGreatDoorCards
import Derived.Test.YtlgolnddhfadeaaGreatDoorTie
import Derived.Test.YtlgolnddhfadeaaGreatDoorManyCFnExactCheck
namespace Go.Proofs.YtlgolnddhfadeaaGreatDoor.fnExactCheck
open Go.ChangeShapes Go.WideShapes Go.ChangeAt Go.RowKit Go.Joins
open Go.ChangeMaps (open_string shut_string)
set_option linter.unusedVariables false
set_option linter.unusedSimpArgs false

theorem rdok_of {t : Tk.Hd} {nm : ByteArray} {ls : List Tk.Lg} {c base : Nat} {e : Ending} {w : World} (h : Re.ReadIs t nm ls c base e w) : Hn.RdOk t nm ls c base e w := by
  obtain ⟨a, cap, he, O⟩ := h
  obtain ⟨x1, y1, e1, I1⟩ := Gt.own_legs O
  simp only [Value.slice.injEq, true_and] at e1
  obtain ⟨rfl, rfl⟩ := e1
  refine ⟨a, cap, he, I1, fun b o hb hne => ?_⟩
  subst hb
  exact (O.lt b rfl).1

theorem rt_zero {C : Nat} {t : Tk.Hd} (h : C ≠ 0) : (Re.rT C t).id = 0 := by
  unfold Re.rT
  rw [if_neg h]


set_option maxRecDepth 100000 in
set_option maxHeartbeats 8000000 in
theorem walk (x0 : Hn.Pl) (o0 : Hn.Hnd) (a1 : ByteArray) (w1 : a1.size ≤ maxLen) (a2 : Int) (w2 : (Lit.int .i64 a2).wf = true) (a3 : Int) (w3 : (Lit.int .i64 a3).wf = true) (w : World) (w0 : Hn.In w x0 o0 ∧ Hn.Lim o0) (T : Num.Tens w) (E_errParams : Errs.ErrAt 0 w) (E_errOpen : Errs.ErrAt 1 w) (E_errMark : Errs.ErrAt 2 w) (E_errText : Errs.ErrAt 3 w) (R : Pk.Runs w) (SH : w.ShapedOpen Tryz.prog) :
    Calls Tryz.prog 5 #[Hn.hnV x0 o0, .string a1, .int .i64 a2, .int .i64 a3] w fun e w' => e = .returned (.bool true) ∧ Below w.heap.size w w' := by
  obtain ⟨I, LM⟩ := w0
  have hm1 : o0.ol.length ≤ maxLen := LM.ol
  have hm2 : o0.sl.length ≤ maxLen := LM.sl
  have HM : Hid (o0.ol.length ≤ maxLen ∧ o0.sl.length ≤ maxLen) := ⟨hm1, hm2⟩
  clear LM hm1 hm2
  by_cases hs : a1.size ≤ 1048576
  rotate_left
  · have hdl : decide ((1048576 : Int) < (a1.size : Int)) = true := decide_eq_true (by omega)
    have N := Pk.new_below w (Hn.hnB x0 o0 61)
    clear hs
    go_enter Tryz.func5, Tryz.ntmps5
    go_wp2
    go_ret
    exact ⟨rfl, N⟩
  have hdl : decide ((1048576 : Int) < (a1.size : Int)) = false := decide_eq_false (by omega)
  by_cases hb : (o0.ol.length : Int) + (o0.sl.length : Int) ≤ 1048576
  · have hz : o0.ol.length ≤ 1048576 := by omega
    have hz2 : o0.sl.length ≤ 1048576 := by omega
    have hd : decide (1048576 - (o0.ol.length : Int) - (o0.sl.length : Int) < 0) = false := decide_eq_false (by omega)
    obtain ⟨t0, nm0, ls0, ok, hl60, H⟩ := Gt.get_one (Fr.fP a1)
    have ML0 := Gt.ml_of SH
    have hRL := R.lt
    obtain ⟨RT, RN, RL, C, HRS, HRI, hCz, hL6⟩ : ∃ (RT : Tk.Hd) (RN : ByteArray) (RL : List Tk.Lg) (C : Nat), (∀ W : World, Calls Tryz.prog 14 #[.agg #[.int .i64 o0.p, .int .i64 o0.q, .int .i64 o0.g], .int .i64 o0.op, .int .i64 o0.is, .string a1] W fun e w' => Hn.RdOk RT RN RL C W.heap.size e w' ∧ Below W.heap.size W w') ∧ (∀ W : World, Below w.heap.size w W → Calls Tryz.prog 69 #[.agg #[.int .i64 o0.p, .int .i64 o0.q, .int .i64 o0.g], .int .i64 o0.op, .int .i64 o0.is, .string a1] W fun e w' => Hn.RdOk RT RN RL C W.heap.size e w' ∧ Below W.heap.size W w') ∧ (C ≠ 0 → RT.id = 0) ∧ RL.length ≤ 6 :=
      ⟨Re.rT (Re.rC o0.p o0.q o0.g o0.op o0.is a1 ok) t0, Re.rN (Re.rC o0.p o0.q o0.g o0.op o0.is a1 ok) nm0, Re.rL (Re.rC o0.p o0.q o0.g o0.op o0.is a1 ok) ls0, Re.rC o0.p o0.q o0.g o0.op o0.is a1 ok,
        fun W => (Re.specRead_val o0.p o0.q o0.g o0.op o0.is a1 W hs H).mono fun e w' h => ⟨rdok_of h.1, h.2⟩,
        fun W K => (Re.implRead_val o0.p o0.q o0.g o0.op o0.is a1 W hs H (R.on K hRL) (E_errParams.on K) (E_errOpen.on K) (E_errMark.on K) (E_errText.on K) (ML0.on K) (T.on K)).mono fun e w' h => ⟨rdok_of h.1, h.2⟩,
        fun h => rt_zero h, Re.rL_len hl60⟩
    have hz3 : RL.length ≤ 1048576 := by omega
    have HS : Hid (∀ (y : Hn.Pl) (W : World), Hn.In W y o0 → _) := fun y W h => Hn.specCheck_val y o0 a1 HRS a2 a3 W hz hz2 hz3 h
    have HI : Hid (∀ (y : Hn.Pl) (W : World), Below w.heap.size w W → Hn.In W y o0 → _) := fun y W k h => Hn.implCheck_val y o0 a1 HRI hCz a2 a3 W k hz hz2 hz3 h
    have HT : Hid (∀ (W : World), Hn.In W x0 o0 → _) := fun W h => Hn.toHand_val x0 o0 W hz hz2 h
    have HE : Hid (∀ (x y : Hn.Pl) (W : World), Hn.In W x o0 → Hn.In W y o0 → _) := fun x y W h k => Hn.eqHand_same x y o0 W hz hz2 h k
    have HZ : Hid (∀ (W : World), _) := fun W => Hn.szHand_yes x0 o0 1048576 W (by omega) hb
    generalize Hn.ckC o0 C RT RL a2 a3 = B at *
    have hnb : ((B : Int) != (B : Int)) = false := by simp
    clear HRS HRI hCz hL6 hz3 H ML0
    have m0 := Pk.heap_new w (Hn.hnB x0 o0 61)
    have N := Pk.new_below w (Hn.hnB x0 o0 61)
    clear hz hz2 hb HM hs
    go_enter Tryz.func5, Tryz.ntmps5
    go_wp2_with fail
    refine (HZ.out _).mono ?_
    rintro e w1 ⟨rfl, L1⟩
    have m1 := Pk.kept L1 (Pk.lt_of m0) m0
    have L2 := Pk.join_below N L1
    clear N L1 m0
    have c0 : w1.cell? ⟨w.heap.size, 0, none⟩ = some (.int .i64 o0.dv) := Pk.cell_at m1 0
    have c1 : w1.cell? ⟨w.heap.size, 1, none⟩ = some (.int .i64 o0.p) := Pk.cell_at m1 1
    have c2 : w1.cell? ⟨w.heap.size, 2, none⟩ = some (.int .i64 o0.q) := Pk.cell_at m1 2
    have c3 : w1.cell? ⟨w.heap.size, 3, none⟩ = some (.int .i64 o0.g) := Pk.cell_at m1 3
    have c4 : w1.cell? ⟨w.heap.size, 4, none⟩ = some (.int .i64 o0.op) := Pk.cell_at m1 4
    have c5 : w1.cell? ⟨w.heap.size, 5, none⟩ = some (.int .i64 o0.is) := Pk.cell_at m1 5
    have c6 : w1.cell? ⟨w.heap.size, 6, none⟩ = some (.int .i64 o0.ve) := Pk.cell_at m1 6
    have c7 : w1.cell? ⟨w.heap.size, 7, none⟩ = some (.slice x0.a o0.ol.length x0.c) := Pk.cell_at m1 7
    have c8 : w1.cell? ⟨w.heap.size, 8, none⟩ = some (.slice x0.b o0.sl.length x0.d) := Pk.cell_at m1 8
    go_wp2_with fail
    refine (HT.out _ (I.on L2)).mono ?_
    rintro e w3 ⟨y3, ga, gb, rfl, L3, I3, -⟩
    have m3 := Pk.kept L3 (Pk.lt_of m1) m1
    have L4 := Pk.join_below L2 L3
    clear c0 c1 c2 c3 c4 c5 c6 c7 c8 L2 L3 m1
    go_wp2_with fail
    refine (HS.out _ _ I3).mono ?_
    rintro e w5 ⟨rfl, L5⟩
    have m5 := Pk.kept L5 (Pk.lt_of m3) m3
    have L6 := Pk.join_below L4 L5
    clear L4 L5 m3 I3
    have c0 : w5.cell? ⟨w.heap.size, 0, none⟩ = some (.int .i64 o0.dv) := Pk.cell_at m5 0
    have c1 : w5.cell? ⟨w.heap.size, 1, none⟩ = some (.int .i64 o0.p) := Pk.cell_at m5 1
    have c2 : w5.cell? ⟨w.heap.size, 2, none⟩ = some (.int .i64 o0.q) := Pk.cell_at m5 2
    have c3 : w5.cell? ⟨w.heap.size, 3, none⟩ = some (.int .i64 o0.g) := Pk.cell_at m5 3
    have c4 : w5.cell? ⟨w.heap.size, 4, none⟩ = some (.int .i64 o0.op) := Pk.cell_at m5 4
    have c5 : w5.cell? ⟨w.heap.size, 5, none⟩ = some (.int .i64 o0.is) := Pk.cell_at m5 5
    have c6 : w5.cell? ⟨w.heap.size, 6, none⟩ = some (.int .i64 o0.ve) := Pk.cell_at m5 6
    have c7 : w5.cell? ⟨w.heap.size, 7, none⟩ = some (.slice x0.a o0.ol.length x0.c) := Pk.cell_at m5 7
    have c8 : w5.cell? ⟨w.heap.size, 8, none⟩ = some (.slice x0.b o0.sl.length x0.d) := Pk.cell_at m5 8
    go_wp2_with fail
    refine (HT.out _ (I.on L6)).mono ?_
    rintro e w7 ⟨y7, gc, gd, rfl, L7, I7, -⟩
    have m7 := Pk.kept L7 (Pk.lt_of m5) m5
    have L8 := Pk.join_below L6 L7
    clear c0 c1 c2 c3 c4 c5 c6 c7 c8 L6 L7 m5
    have N8 := Pk.new_below w7 (Hn.hnB y7 o0 29)
    have x8 := Pk.heap_new w7 (Hn.hnB y7 o0 29)
    have m8 := Pk.kept N8 (Pk.lt_of m7) m7
    have I8 := I7.on N8
    have L9 := Pk.join_below L8 N8
    clear m7 I7 L8 N8
    go_wp2_with fail
    refine (HI.out _ _ L9 I8).mono ?_
    rintro e w10 ⟨rfl, L10⟩
    have m10 := Pk.kept L10 (Pk.lt_of m8) m8
    have x10 := Pk.kept L10 (Pk.lt_of x8) x8
    have I10 := I8.on L10
    have L11 := Pk.join_below L9 L10
    clear m8 x8 I8 L9 L10
    have c0 : w10.cell? ⟨w.heap.size, 0, none⟩ = some (.int .i64 o0.dv) := Pk.cell_at m10 0
    have c1 : w10.cell? ⟨w.heap.size, 1, none⟩ = some (.int .i64 o0.p) := Pk.cell_at m10 1
    have c2 : w10.cell? ⟨w.heap.size, 2, none⟩ = some (.int .i64 o0.q) := Pk.cell_at m10 2
    have c3 : w10.cell? ⟨w.heap.size, 3, none⟩ = some (.int .i64 o0.g) := Pk.cell_at m10 3
    have c4 : w10.cell? ⟨w.heap.size, 4, none⟩ = some (.int .i64 o0.op) := Pk.cell_at m10 4
    have c5 : w10.cell? ⟨w.heap.size, 5, none⟩ = some (.int .i64 o0.is) := Pk.cell_at m10 5
    have c6 : w10.cell? ⟨w.heap.size, 6, none⟩ = some (.int .i64 o0.ve) := Pk.cell_at m10 6
    have c7 : w10.cell? ⟨w.heap.size, 7, none⟩ = some (.slice x0.a o0.ol.length x0.c) := Pk.cell_at m10 7
    have c8 : w10.cell? ⟨w.heap.size, 8, none⟩ = some (.slice x0.b o0.sl.length x0.d) := Pk.cell_at m10 8
    have d0 : w10.cell? ⟨w7.heap.size, 0, none⟩ = some (.int .i64 o0.dv) := Pk.cell_at x10 0
    have d1 : w10.cell? ⟨w7.heap.size, 1, none⟩ = some (.int .i64 o0.p) := Pk.cell_at x10 1
    have d2 : w10.cell? ⟨w7.heap.size, 2, none⟩ = some (.int .i64 o0.q) := Pk.cell_at x10 2
    have d3 : w10.cell? ⟨w7.heap.size, 3, none⟩ = some (.int .i64 o0.g) := Pk.cell_at x10 3
    have d4 : w10.cell? ⟨w7.heap.size, 4, none⟩ = some (.int .i64 o0.op) := Pk.cell_at x10 4
    have d5 : w10.cell? ⟨w7.heap.size, 5, none⟩ = some (.int .i64 o0.is) := Pk.cell_at x10 5
    have d6 : w10.cell? ⟨w7.heap.size, 6, none⟩ = some (.int .i64 o0.ve) := Pk.cell_at x10 6
    have d7 : w10.cell? ⟨w7.heap.size, 7, none⟩ = some (.slice y7.a o0.ol.length y7.c) := Pk.cell_at x10 7
    have d8 : w10.cell? ⟨w7.heap.size, 8, none⟩ = some (.slice y7.b o0.sl.length y7.d) := Pk.cell_at x10 8
    all_goals
      go_wp2
      go_region_with (first
        | (go_at_call 25; refine (HT.out _ ?_).mono ?_; (first | exact I.on L11 | exact I.on L11.drew); rintro e x1 ⟨y1, ge, gf, rfl, M0, J1, -⟩; have M1 : Below w10.heap.size w10 x1 := (by first | exact M0 | exact ((Below.refl _ _).drew).trans M0); have p1 := Pk.kept M1 (Pk.lt_of x10) x10; have I11 := I10.on M1; have M2 := Pk.join_below L11 M1; have d0 : x1.cell? ⟨w7.heap.size, 0, none⟩ = some (.int .i64 o0.dv) := Pk.cell_at p1 0; have d1 : x1.cell? ⟨w7.heap.size, 1, none⟩ = some (.int .i64 o0.p) := Pk.cell_at p1 1; have d2 : x1.cell? ⟨w7.heap.size, 2, none⟩ = some (.int .i64 o0.q) := Pk.cell_at p1 2; have d3 : x1.cell? ⟨w7.heap.size, 3, none⟩ = some (.int .i64 o0.g) := Pk.cell_at p1 3; have d4 : x1.cell? ⟨w7.heap.size, 4, none⟩ = some (.int .i64 o0.op) := Pk.cell_at p1 4; have d5 : x1.cell? ⟨w7.heap.size, 5, none⟩ = some (.int .i64 o0.is) := Pk.cell_at p1 5; have d6 : x1.cell? ⟨w7.heap.size, 6, none⟩ = some (.int .i64 o0.ve) := Pk.cell_at p1 6; have d7 : x1.cell? ⟨w7.heap.size, 7, none⟩ = some (.slice y7.a o0.ol.length y7.c) := Pk.cell_at p1 7; have d8 : x1.cell? ⟨w7.heap.size, 8, none⟩ = some (.slice y7.b o0.sl.length y7.d) := Pk.cell_at p1 8; clear M0 M1 p1)
        | (go_at_call 26; refine (HE.out _ _ _ ?_ ?_).mono ?_; (exact I11); (exact J1); rintro e x2 ⟨rfl, M3⟩))
      all_goals
        have M4 := Pk.join_below M2 M3
        go_wp2
        go_ret
        exact ⟨rfl, M4⟩
  · have N := Pk.new_below w (Hn.hnB x0 o0 61)
    have HB : Hid (¬ (o0.ol.length : Int) + (o0.sl.length : Int) ≤ 1048576) := hb
    clear hb
    go_enter Tryz.func5, Tryz.ntmps5
    go_wp2_with fail
    refine (Hn.szHand_no x0 o0 1048576 _ (by omega) (by omega) HM.out.1 HM.out.2 (by have := HB.out; omega)).mono ?_
    rintro e w1 ⟨rfl, L1⟩
    go_wp2
    go_ret
    exact ⟨rfl, Pk.join_below N L1⟩

theorem errs {W : World} (hL : laidMetH Tryz.prog Rows.fnExactCheckRow.laid W) : Num.Tens W ∧ Errs.ErrAt 0 W ∧ Errs.ErrAt 1 W ∧ Errs.ErrAt 2 W ∧ Errs.ErrAt 3 W ∧ Pk.Runs W := by
  have h0 : laidMet Tryz.prog [("math/bits.deBruijn32tab", Rows.laid_math_bits_deBruijn32tab), ("math/bits.deBruijn64tab", Rows.laid_math_bits_deBruijn64tab), ("internal/strconv.uint64pow10", Rows.laid_internal_strconv_uint64pow10), ("unicode/utf8.acceptRanges", Rows.laid_unicode_utf8_acceptRanges), ("loop.example/g00211/impl.errParams", Rows.laid_loop_example_g00211_impl_errParams), ("loop.example/g00211/impl.errOpen", Rows.laid_loop_example_g00211_impl_errOpen), ("loop.example/g00211/impl.errMark", Rows.laid_loop_example_g00211_impl_errMark), ("loop.example/g00211/impl.errText", Rows.laid_loop_example_g00211_impl_errText), ("loop.example/g00211/impl.fixedRuns", Rows.laid_loop_example_g00211_impl_fixedRuns), ("unicode/utf8.first", Rows.laid_unicode_utf8_first)] W := hL
  exact ⟨Tabs.tens_of (laidMet.tail (laidMet.tail h0)), Errs.head (laidMet.tail (laidMet.tail (laidMet.tail (laidMet.tail h0)))) ⟨_, rfl⟩ (by kernel_rfl) (by kernel_rfl), Errs.head (laidMet.tail (laidMet.tail (laidMet.tail (laidMet.tail (laidMet.tail h0))))) ⟨_, rfl⟩ (by kernel_rfl) (by kernel_rfl), Errs.head (laidMet.tail (laidMet.tail (laidMet.tail (laidMet.tail (laidMet.tail (laidMet.tail h0)))))) ⟨_, rfl⟩ (by kernel_rfl) (by kernel_rfl), Errs.head (laidMet.tail (laidMet.tail (laidMet.tail (laidMet.tail (laidMet.tail (laidMet.tail (laidMet.tail h0))))))) ⟨_, rfl⟩ (by kernel_rfl) (by kernel_rfl), Pk.runs_of (laidMet.tail (laidMet.tail (laidMet.tail (laidMet.tail (laidMet.tail (laidMet.tail (laidMet.tail (laidMet.tail h0))))))))⟩

set_option maxRecDepth 100000 in
theorem contract (H : Type) (enc : TypeId × Value → H) (W : World) (base : Nat) (args : Array Value) (ds gs : List (DataW H)) (before : List MemPlace)
    (hval : ∀ (j : Nat) t v, Tryz.f5.params[j]? = some t → args[j]? = some v → Value.okWide Tryz.prog W .any base t v)
    (hW : DataW.Whole enc Tryz.prog Tryz.f5.params.toList Rows.fnExactCheckSpec.vars false W args.toList ds gs before) (hL : laidMetH Tryz.prog Rows.fnExactCheckRow.laid W) (hSh : W.ShapedOpen Tryz.prog) :
    Calls Tryz.prog 5 args W fun e W' => ∃ v, e = .returned v ∧ Rows.fnExactCheckSpec.post enc Tryz.prog Tryz.f5 false true false false W args v W' := by
  have hW' := hW
  obtain ⟨p, q, hA0, hV, rfl, hfz, hnd⟩ := hW
  have hA : DataW.TrodAll enc Tryz.prog W 0 (fun _ => true) true Tryz.f5.params.toList args.toList ds p := hA0
  rw [Tryz.params5] at hA hval
  obtain ⟨v0, vs0, d0, ds0, p0, q0, hargs, rfl, rfl, h0, r0⟩ := trodAll_cons hA
  obtain ⟨v1, vs1, d1, ds1, p1, q1, rfl, rfl, rfl, h1, r1⟩ := trodAll_cons r0
  obtain ⟨v2, vs2, d2, ds2, p2, q2, rfl, rfl, rfl, h2, r2⟩ := trodAll_cons r1
  obtain ⟨v3, vs3, d3, ds3, p3, q3, rfl, rfl, rfl, h3, r3⟩ := trodAll_cons r2
  obtain ⟨rfl, rfl, rfl⟩ := trodAll_nil r3
  obtain rfl : args = #[v0, v1, v2, v3] := by cases args; simp_all
  have hlen := Errs.vars_len hV
  obtain ⟨g0, gs0, rfl, hl0⟩ := Errs.len_cons hlen
  obtain ⟨g1, gs1, rfl, hl1⟩ := Errs.len_cons hl0
  obtain ⟨g2, gs2, rfl, hl2⟩ := Errs.len_cons hl1
  obtain ⟨g3, gs3, rfl, hl3⟩ := Errs.len_cons hl2
  obtain ⟨g4, gs4, rfl, hl4⟩ := Errs.len_cons hl3
  obtain rfl := List.length_eq_zero_iff.1 hl4
  have k0 := h0
  have lt0 : ∀ x ∈ p0, x.block < W.heap.size := by obtain ⟨m, hm⟩ := k0; exact DataW.trod_lt m _ _ _ hm
  obtain ⟨x0, o0, rfl, w0i, w0l⟩ := Hn.hand_open (hval 0 61 v0 rfl rfl) h0
  have k1 := h1
  have lt1 : ∀ x ∈ p1, x.block < W.heap.size := by obtain ⟨m, hm⟩ := k1; exact DataW.trod_lt m _ _ _ hm
  obtain ⟨a1, rfl, rfl, rfl, w1⟩ := open_string Tryz.underlying9 (hval 1 9 v1 rfl rfl) h1
  have k2 := h2
  have lt2 : ∀ x ∈ p2, x.block < W.heap.size := by obtain ⟨m, hm⟩ := k2; exact DataW.trod_lt m _ _ _ hm
  obtain ⟨a2, rfl, rfl, rfl, w2⟩ := open_int Tryz.underlying3 (hval 2 3 v2 rfl rfl) h2
  have k3 := h3
  have lt3 : ∀ x ∈ p3, x.block < W.heap.size := by obtain ⟨m, hm⟩ := k3; exact DataW.trod_lt m _ _ _ hm
  obtain ⟨a3, rfl, rfl, rfl, w3⟩ := open_int Tryz.underlying3 (hval 3 3 v3 rfl rfl) h3
  clear hA0
  refine (walk x0 o0 a1 w1 a2 w2 a3 w3 W ⟨w0i, w0l⟩ (errs hL).1 (errs hL).2.1 (errs hL).2.2.1 (errs hL).2.2.2.1 (errs hL).2.2.2.2.1 (errs hL).2.2.2.2.2 hSh).mono fun e W' ⟨he, bel⟩ => ?_
  subst he
  exact ⟨_, rfl, _, _, _, [], _, _, hW', trodAll_mk1 (shut_bool Tryz.underlying4 _), (trodAll_cons_mk (Below.trod Errs.laidOut (by kernel_rfl) (of_decide_eq_true (by kernel_rfl)) k0 bel lt0) (trodAll_cons_mk (Below.trod Errs.laidOut (by kernel_rfl) (of_decide_eq_true (by kernel_rfl)) k1 bel lt1) (trodAll_cons_mk (Below.trod Errs.laidOut (by kernel_rfl) (of_decide_eq_true (by kernel_rfl)) k2 bel lt2) (trodAll_cons_mk (Below.trod Errs.laidOut (by kernel_rfl) (of_decide_eq_true (by kernel_rfl)) k3 bel lt3) trodAll_mk0)))), (Below.trodVars Errs.laidOut bel (by kernel_rfl) hV), bel.frame _, fun h => by cases h⟩

theorem laid_met (os : Os) : laidMet Tryz.prog Rows.fnExactCheckRow.laid ((Tabs.tabW 6 Rows.laid_unicode_utf8_first (Pk.runsW (Errs.errW 3 Rows.laid_loop_example_g00211_impl_errText (Errs.errW 2 Rows.laid_loop_example_g00211_impl_errMark (Errs.errW 1 Rows.laid_loop_example_g00211_impl_errOpen (Errs.errW 0 Rows.laid_loop_example_g00211_impl_errParams (Tabs.tabW 7 Rows.laid_unicode_utf8_acceptRanges (Tabs.tabW 8 Rows.laid_internal_strconv_uint64pow10 (Tabs.tabW 10 Rows.laid_math_bits_deBruijn64tab (Tabs.tabW 9 Rows.laid_math_bits_deBruijn32tab (World.holding Tryz.prog os ⟨#[], #[], []⟩))))))))))).forCall (fun _ _ => 0) ⟨#[], #[.agg #[.int .i64 0, .int .i64 0, .int .i64 0, .int .i64 0, .int .i64 0, .int .i64 0, .int .i64 0, .slice none 0 0, .slice none 0 0], .string ByteArray.empty, .int .i64 0, .int .i64 0], []⟩).memory :=
  laidMet_of_run' 8 (by kernel_rfl) (by kernel_rfl)

theorem reads (os : Os) {H : Type} (enc : TypeId × Value → H) : ∃ x, DataW.whole enc Tryz.prog ((Tabs.tabW 6 Rows.laid_unicode_utf8_first (Pk.runsW (Errs.errW 3 Rows.laid_loop_example_g00211_impl_errText (Errs.errW 2 Rows.laid_loop_example_g00211_impl_errMark (Errs.errW 1 Rows.laid_loop_example_g00211_impl_errOpen (Errs.errW 0 Rows.laid_loop_example_g00211_impl_errParams (Tabs.tabW 7 Rows.laid_unicode_utf8_acceptRanges (Tabs.tabW 8 Rows.laid_internal_strconv_uint64pow10 (Tabs.tabW 10 Rows.laid_math_bits_deBruijn64tab (Tabs.tabW 9 Rows.laid_math_bits_deBruijn32tab (World.holding Tryz.prog os ⟨#[], #[], []⟩))))))))))).forCall (fun _ _ => 0) ⟨#[], #[.agg #[.int .i64 0, .int .i64 0, .int .i64 0, .int .i64 0, .int .i64 0, .int .i64 0, .int .i64 0, .slice none 0 0, .slice none 0 0], .string ByteArray.empty, .int .i64 0, .int .i64 0], []⟩).memory Tryz.f5.params.toList Rows.fnExactCheckSpec.vars false (#[.agg #[.int .i64 0, .int .i64 0, .int .i64 0, .int .i64 0, .int .i64 0, .int .i64 0, .int .i64 0, .slice none 0 0, .slice none 0 0], .string ByteArray.empty, .int .i64 0, .int .i64 0] : Array Value).toList 8 = some x :=
  Option.isSome_iff_exists.1 (by kernel_rfl)

set_option maxRecDepth 100000 in
theorem lifted (os : Os) (started : os.Started) (H : Type) (enc : TypeId × Value → H) (F : Stop.Interp) :
    ReturnsInHanded {} Tryz.checked os 5 .any ((OpenSpec.ofChange Rows.fnExactCheckSpec).preRow enc Tryz.prog Tryz.f5 Rows.fnExactCheckRow.domain false Rows.fnExactCheckRow.laid) (((OpenSpec.ofChange Rows.fnExactCheckSpec).at F).post enc Tryz.prog Tryz.f5 false true false false) := by
  obtain ⟨x, hx⟩ := reads os enc
  refine returnsInHanded_of_row (C := Tryz.checked) (s := OpenSpec.ofChange Rows.fnExactCheckSpec) Errs.own started (by kernel_rfl) Tryz.func5
    (witness_row_at (enc := enc) (C := Tryz.checked) false (Tabs.tabW 6 Rows.laid_unicode_utf8_first (Pk.runsW (Errs.errW 3 Rows.laid_loop_example_g00211_impl_errText (Errs.errW 2 Rows.laid_loop_example_g00211_impl_errMark (Errs.errW 1 Rows.laid_loop_example_g00211_impl_errOpen (Errs.errW 0 Rows.laid_loop_example_g00211_impl_errParams (Tabs.tabW 7 Rows.laid_unicode_utf8_acceptRanges (Tabs.tabW 8 Rows.laid_internal_strconv_uint64pow10 (Tabs.tabW 10 Rows.laid_math_bits_deBruijn64tab (Tabs.tabW 9 Rows.laid_math_bits_deBruijn32tab (World.holding Tryz.prog os ⟨#[], #[], []⟩))))))))))) #[.agg #[.int .i64 0, .int .i64 0, .int .i64 0, .int .i64 0, .int .i64 0, .int .i64 0, .int .i64 0, .slice none 0 0, .slice none 0 0], .string ByteArray.empty, .int .i64 0, .int .i64 0] rfl (by kernel_rfl) (by kernel_rfl) (by kernel_rfl)
      (OpenSpec.preRow_of_cond 8 hx rfl (fun k hk => by cases hk) (by kernel_rfl) (laid_met os))) ?_
  intro W base args ds gs before hval hW _ _ _ hL hSh _
  exact contract H enc W base args ds gs before hval hW hL hSh

set_option maxRecDepth 100000 in
theorem said : Rows.FnExactCheckSaid :=
  OpenClaim.holds_of_cond 5 Tryz.f5 rfl rfl rfl rfl rfl rfl rfl ⟨rfl, rfl, rfl, rfl, rfl⟩ rfl rfl rfl rfl rfl (by kernel_rfl) Tryz.func5 (by kernel_rfl)
    (of_decide_eq_true (by kernel_rfl)) (by unfold Func.isWrapper; first | (rw [if_pos (by decide +kernel)]; kernel_rfl) | (rw [if_neg (by decide +kernel)]; exact ⟨rfl, rfl⟩))
    (fun os started H enc _ F => by rw [OpenClaim.pre_eq_preRow]; exact lifted os started H enc F)

theorem plain (f : FuncId) (fn : Func) (hf : Tryz.pinned.checked.prog.funcNamed "loop.example/g00211/laws.FnExactCheck" = some f) (hfn : Tryz.pinned.checked.prog.funcs[f]? = some fn) :
    true = Tryz.pinned.checked.prog.looks [] ∧ ∀ (j : Nat) t, fn.params[j]? = some t → Tryz.pinned.checked.prog.wantsStandIn t = false := by
  obtain rfl : f = 5 := Option.some.inj ((show Tryz.prog.funcNamed "loop.example/g00211/laws.FnExactCheck" = some 5 by kernel_rfl).symm.trans hf) |>.symm
  obtain rfl : fn = Tryz.f5 := (Option.some.inj (Tryz.func5.symm.trans hfn)).symm
  refine ⟨by kernel_rfl, fun j t ht => ?_⟩
  rw [Tryz.params5] at ht
  have hm : t = 61 ∨ t = 9 ∨ t = 3 ∨ t = 3 := by simpa using Array.mem_of_getElem? ht
  rcases hm with rfl | rfl | rfl | rfl
  · exact (show Tryz.prog.wantsStandIn 61 = false by kernel_rfl)
  · exact (show Tryz.prog.wantsStandIn 9 = false by kernel_rfl)
  · exact (show Tryz.prog.wantsStandIn 3 = false by kernel_rfl)
  · exact (show Tryz.prog.wantsStandIn 3 = false by kernel_rfl)

theorem card : Rows.FnExactCheckCardSaid :=
  Claim7.holds_tied_plain_at .later [] _ _ _ _ said (fun _ h => by cases h) (by kernel_rfl) (fun _ h => by cases h) fnExactCheck_row_tie rfl ⟨rfl, rfl⟩ (by kernel_rfl) rfl plain (by kernel_rfl)
end Go.Proofs.YtlgolnddhfadeaaGreatDoor.fnExactCheck
namespace Go.Proofs.YtlgolnddhfadeaaGreatDoor
theorem FnExactCheck_holds : Rows.FnExactCheckCardSaid := fnExactCheck.card
end Go.Proofs.YtlgolnddhfadeaaGreatDoor

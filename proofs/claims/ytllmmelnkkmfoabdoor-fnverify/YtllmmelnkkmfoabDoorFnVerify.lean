/- For every code the law of FnVerify answers true: at what is drawn the program's Verify and its model return the same, and a mark out of its bounds never verifies. The errors of the program's own variables are as its text lays them (the card ties them; over a pruned copy of the project). -/
import Derived.Test.YtllmmelnkkmfoabDoorErrs
import Derived.ShutString
import Derived.Lib.SmallJoins
import Derived.Test.YtllmmelnkkmfoabDoorCards
import Derived.Test.YtllmmelnkkmfoabDoorTie
import Derived.Test.YtllmmelnkkmfoabDoorCurVer2
import Derived.Test.YtllmmelnkkmfoabDoorSignVerify
import Derived.Test.YtllmmelnkkmfoabDoorSignText
import Derived.Test.YtllmmelnkkmfoabDoorSignKey
namespace Go.Proofs.YtllmmelnkkmfoabDoor.fnVerify
open Go.ChangeShapes Go.WideShapes Go.ChangeAt Go.RowKit Go.Joins
open Go.ChangeMaps (open_string shut_string)
set_option linter.unusedVariables false

def IsRow (k : IntKind) (w : World) (a : Option Addr) (len cap : Nat) (zs : List Int) : Prop :=
  (a = none ∧ len = 0 ∧ cap = 0 ∧ zs = []) ∨
  ∃ x, a = some x ∧ len ≤ cap ∧ cap ≤ maxLen ∧ zs.length = cap ∧ (∀ i, i < zs.length → w.cell? (x.add i) = some (.int k (zs.getD i 0))) ∧ ∀ n ∈ zs, (Lit.int k n).wf = true

open Num in
theorem ver_bad {p q g o r s : Int} {t : ByteArray} (h : Num.okP p q g = false) : Num.verV p q g o r s t = false := verV_no (by unfold verOk; rw [h]; rfl)

open Num in
theorem ver_far {p q g o r s : Int} {t : ByteArray} (h : 0 ≤ r) : Num.verV p q g o (r + q) s t = false := verV_no (by
  unfold verOk
  rw [show inQ q (r + q) = false from decide_eq_false (by omega)]
  simp)

open Num in
theorem ver_none {p q g o r : Int} {t : ByteArray} : Num.verV p q g o r 0 t = false := verV_no (by
  unfold verOk
  rw [show inQ q 0 = false from decide_eq_false (by omega)]
  simp)

open Num in
theorem ver_in {p q g o r s : Int} {t : ByteArray} (h : Num.verV p q g o r s t = true) : (1 ≤ r ∧ r ≤ q - 1) ∧ (1 ≤ s ∧ s ≤ q - 1) := by
  unfold verV verOk at h
  simp only [Bool.and_eq_true] at h
  exact ⟨of_decide_eq_true h.1.1.1.2, of_decide_eq_true h.1.1.2⟩


set_option maxRecDepth 100000 in
set_option maxHeartbeats 1500000 in
theorem walk (a0 : Option Addr) (len0 cap0 : Nat) (z0 : List Int) (w : World) (w0 : IsRow .u8 w a0 len0 cap0 z0) (E_errParams : Errs.ErrAt 1 w) (E_errOpen : Errs.ErrAt 2 w) (E_errMark : Errs.ErrAt 3 w) (E_errText : Errs.ErrAt 4 w) :
    Calls Tryd.prog 3 #[.slice a0 len0 cap0] w fun e w' => e = .returned (.bool true) ∧ Below w.heap.size w w' := by
  by_cases hb : len0 ≤ 1048576
  · have B := Cur.bytes_of w a0 len0 cap0 z0 w0
    go_enter Tryd.func3, Tryd.ntmps3
    go_wp2_with fail
    refine (Cur.big_no a0 len0 cap0 _ hb).mono ?_
    rintro e w1 ⟨rfl, rfl⟩
    go_wp2_with fail
    refine (Cur.drawVerify _ a0 len0 cap0 hb B).mono ?_
    rintro e w2 ⟨⟨p, q, g, o, r, s, t, rfl, ht0, hr0, hr1⟩, L2⟩
    have ht : t.size ≤ maxLen := by unfold maxLen; omega
    obtain ⟨N2, bP, bM⟩ := Num.two_new w2 (Num.pb p q g) (Num.mb r s)
    have L3 := Num.join_below L2 N2
    have HI : Hid (∀ r s w, _ → _ → _ → _ → _) := fun r s w e1 e2 e3 e4 => Num.implVerify_val p q g o r s t w ht e1 e2 e3 e4
    have HSV : Hid (∀ w, _) := fun w => Num.specVerify_val p q g o r s t w ht
    have HSP : Hid (∀ w, _) := fun w => Num.specParamsOk_val p q g w
    have HIP : Hid (∀ w, _) := fun w => Num.implParamsOk_val p q g w
    clear N2
    go_wp2_with fail
    refine (HI.out r s _ (E_errParams.on L3) (E_errOpen.on L3) (E_errMark.on L3) (E_errText.on L3)).mono ?_
    rintro e w4 ⟨rfl, L4⟩
    have cP := Num.kept_new L4 bP
    have cM := Num.kept_new L4 bM
    have L5 := Num.join_below L3 L4
    clear L3 L4 bP bM
    generalize w2.heap.size = P at *
    have c0 : w4.cell? ⟨P, 0, none⟩ = some (.int .i64 p) := Num.cell_at cP 0
    have c1 : w4.cell? ⟨P, 1, none⟩ = some (.int .i64 q) := Num.cell_at cP 1
    have c2 : w4.cell? ⟨P, 2, none⟩ = some (.int .i64 g) := Num.cell_at cP 2
    have d0 : w4.cell? ⟨P + 1, 0, none⟩ = some (.int .i64 r) := Num.cell_at cM 0
    have d1 : w4.cell? ⟨P + 1, 1, none⟩ = some (.int .i64 s) := Num.cell_at cM 1
    go_wp2_with fail
    refine (HSV.out _).mono ?_
    rintro e w6 ⟨rfl, L6⟩
    have eP := Num.kept_new L6 cP
    have eM := Num.kept_new L6 cM
    have L7 := Num.join_below L5 L6
    clear L5 L6 cP cM c0 c1 c2 d0 d1 HSV
    have c0 : w6.cell? ⟨P, 0, none⟩ = some (.int .i64 p) := Num.cell_at eP 0
    have c1 : w6.cell? ⟨P, 1, none⟩ = some (.int .i64 q) := Num.cell_at eP 1
    have c2 : w6.cell? ⟨P, 2, none⟩ = some (.int .i64 g) := Num.cell_at eP 2
    have HF : Hid (Num.verV p q g o (r + q) s t = false) := ver_far hr0
    have HN : Hid (Num.verV p q g o r 0 t = false) := ver_none
    have HB : Hid (Num.okP p q g = false → Num.verV p q g o r s t = false) := ver_bad
    have HIN : Hid (Num.verV p q g o r s t = true → _) := ver_in
    have HQ : Hid (Num.okP p q g = true → 2 ≤ q ∧ q ≤ 2147483647) := fun h => (Num.okP_facts h).2.1
    generalize hY : Num.verV p q g o r s t = Y at *
    cases hok : Num.okP p q g
    · have hY0 := HB.out hok
      subst hY0
      rw [hok] at HSP HIP
      clear hok HB HIN HQ hY
      go_wp2_with fail
      refine (HSP.out _).mono ?_
      rintro e w8 ⟨rfl, L8⟩
      have fP := Num.kept_new L8 eP
      have L9 := Num.join_below L7 L8
      clear L7 L8 eP c0 c1 c2
      have c0 : w8.cell? ⟨P, 0, none⟩ = some (.int .i64 p) := Num.cell_at fP 0
      have c1 : w8.cell? ⟨P, 1, none⟩ = some (.int .i64 q) := Num.cell_at fP 1
      have c2 : w8.cell? ⟨P, 2, none⟩ = some (.int .i64 g) := Num.cell_at fP 2
      go_wp2_with fail
      refine (HIP.out _).mono ?_
      rintro e w10 ⟨rfl, L10⟩
      have L11 := Num.join_below L9 L10
      go_wp2
      go_ret
      exact ⟨rfl, L11⟩
    · have hq := HQ.out hok
      rw [hok] at HSP
      clear hok HB HQ hY HIP
      go_wp2_with fail
      refine (HSP.out _).mono ?_
      rintro e w8 ⟨rfl, L8⟩
      have fP := Num.kept_new L8 eP
      have fM := Num.kept_new L8 eM
      have L9 := Num.join_below L7 L8
      clear L7 L8 eP eM c0 c1 c2
      obtain ⟨N8, bF, bG⟩ := Num.two_new w8 (Num.mb (r + q) s) (Num.mb r 0)
      have gP := Num.kept_new N8 fP
      have gM := Num.kept_new N8 fM
      have L10 := Num.join_below L9 N8
      have hlP : P + 1 < w8.heap.size := (Array.getElem?_eq_some_iff.1 fM).1
      have c0 : w8.cell? ⟨P, 0, none⟩ = some (.int .i64 p) := Num.cell_at fP 0
      have c1 : w8.cell? ⟨P, 1, none⟩ = some (.int .i64 q) := Num.cell_at fP 1
      have c2 : w8.cell? ⟨P, 2, none⟩ = some (.int .i64 g) := Num.cell_at fP 2
      have d0 : w8.cell? ⟨P + 1, 0, none⟩ = some (.int .i64 r) := Num.cell_at fM 0
      have d1 : w8.cell? ⟨P + 1, 1, none⟩ = some (.int .i64 s) := Num.cell_at fM 1
      have s1 : (w8.alloc (Num.mb r s)).cell? ⟨P, 1, none⟩ = some (.int .i64 q) := Num.cell_at (Num.heap_old fP _) 1
      have s0 : (w8.alloc (Num.mb r s)).cell? ⟨P + 1, 0, none⟩ = some (.int .i64 r) := Num.cell_at (Num.heap_old fM _) 0
      have x0 : (w8.alloc (Num.mb (r + q) s)).cell? ⟨P + 1, 0, none⟩ = some (.int .i64 r) := Num.cell_at (Num.heap_old fM _) 0
      have x1 : (w8.alloc (Num.mb (r + q) s)).cell? ⟨P + 1, 1, none⟩ = some (.int .i64 s) := Num.cell_at (Num.heap_old fM _) 1
      have y0 : ((w8.alloc (Num.mb (r + q) s)).alloc (Num.mb r 0)).cell? ⟨P, 0, none⟩ = some (.int .i64 p) := Num.cell_at gP 0
      have y1 : ((w8.alloc (Num.mb (r + q) s)).alloc (Num.mb r 0)).cell? ⟨P, 1, none⟩ = some (.int .i64 q) := Num.cell_at gP 1
      have y2 : ((w8.alloc (Num.mb (r + q) s)).alloc (Num.mb r 0)).cell? ⟨P, 2, none⟩ = some (.int .i64 g) := Num.cell_at gP 2
      clear fP fM N8
      go_wp2_with fail
      refine (HI.out (r + q) s _ (E_errParams.on L10) (E_errOpen.on L10) (E_errMark.on L10) (E_errText.on L10)).mono ?_
      rw [HF.out]
      rintro e w12 ⟨rfl, L12⟩
      have hP := Num.kept_new L12 gP
      have hM := Num.kept_new L12 gM
      have hG := Num.kept_new L12 bG
      have L13 := Num.join_below L10 L12
      clear L10 L12 gP gM bF bG c0 c1 c2 d0 d1 s0 s1 x0 x1 y0 y1 y2 L9
      generalize w8.heap.size = F at *
      have c0 : w12.cell? ⟨P, 0, none⟩ = some (.int .i64 p) := Num.cell_at hP 0
      have c1 : w12.cell? ⟨P, 1, none⟩ = some (.int .i64 q) := Num.cell_at hP 1
      have c2 : w12.cell? ⟨P, 2, none⟩ = some (.int .i64 g) := Num.cell_at hP 2
      have d0 : w12.cell? ⟨F + 1, 0, none⟩ = some (.int .i64 r) := Num.cell_at hG 0
      have d1 : w12.cell? ⟨F + 1, 1, none⟩ = some (.int .i64 0) := Num.cell_at hG 1
      go_wp2_with fail
      refine (HI.out r 0 _ (E_errParams.on L13) (E_errOpen.on L13) (E_errMark.on L13) (E_errText.on L13)).mono ?_
      rw [HN.out]
      rintro e w14 ⟨rfl, L14⟩
      have iP := Num.kept_new L14 hP
      have iM := Num.kept_new L14 hM
      have L15 := Num.join_below L13 L14
      clear L13 L14 hP hM hG c0 c1 c2 d0 d1
      have c1 : w14.cell? ⟨P, 1, none⟩ = some (.int .i64 q) := Num.cell_at iP 1
      have d0 : w14.cell? ⟨P + 1, 0, none⟩ = some (.int .i64 r) := Num.cell_at iM 0
      have d1 : w14.cell? ⟨P + 1, 1, none⟩ = some (.int .i64 s) := Num.cell_at iM 1
      cases Y
      · go_wp2
        go_ret
        exact ⟨rfl, L15⟩
      · obtain ⟨⟨h1, h2⟩, ⟨h3, h4⟩⟩ := HIN.out rfl
        have t1 : decide ((0 : Int) < r) = true := decide_eq_true (by omega)
        have t2 : decide (r < q) = true := decide_eq_true (by omega)
        have t3 : decide ((0 : Int) < s) = true := decide_eq_true (by omega)
        have t4 : decide (s < q) = true := decide_eq_true (by omega)
        have u1 : (0 : Int) < r := by omega
        have u2 : r < q := by omega
        have u3 : (0 : Int) < s := by omega
        have u4 : s < q := by omega
        clear h1 h2 h3 h4
        go_wp2
        go_ret
        exact ⟨rfl, L15⟩
  · go_enter Tryd.func3, Tryd.ntmps3
    go_wp2_with fail
    refine (Cur.big_yes a0 len0 cap0 _ hb).mono ?_
    rintro e w1 ⟨rfl, rfl⟩
    go_wp2
    go_ret
    exact ⟨rfl, Below.refl _ _⟩

theorem errs {W : World} (hL : laidMetH Tryd.prog Rows.fnVerifyRow.laid W) : Errs.ErrAt 1 W ∧ Errs.ErrAt 2 W ∧ Errs.ErrAt 3 W ∧ Errs.ErrAt 4 W := by
  have h0 : laidMet Tryd.prog [("loop.example/g00211/impl.errParams", Rows.laid_loop_example_g00211_impl_errParams), ("loop.example/g00211/impl.errOpen", Rows.laid_loop_example_g00211_impl_errOpen), ("loop.example/g00211/impl.errMark", Rows.laid_loop_example_g00211_impl_errMark), ("loop.example/g00211/impl.errText", Rows.laid_loop_example_g00211_impl_errText)] W := hL
  exact ⟨Errs.head h0 ⟨_, rfl⟩ (by kernel_rfl) (by kernel_rfl), Errs.head (laidMet.tail h0) ⟨_, rfl⟩ (by kernel_rfl) (by kernel_rfl), Errs.head (laidMet.tail (laidMet.tail h0)) ⟨_, rfl⟩ (by kernel_rfl) (by kernel_rfl), Errs.head (laidMet.tail (laidMet.tail (laidMet.tail h0))) ⟨_, rfl⟩ (by kernel_rfl) (by kernel_rfl)⟩

set_option maxRecDepth 100000 in
theorem contract (H : Type) (enc : TypeId × Value → H) (W : World) (base : Nat) (args : Array Value) (ds gs : List (DataW H)) (before : List MemPlace)
    (hval : ∀ (j : Nat) t v, Tryd.f3.params[j]? = some t → args[j]? = some v → Value.okWide Tryd.prog W .any base t v)
    (hW : DataW.Whole enc Tryd.prog Tryd.f3.params.toList Rows.fnVerifySpec.vars false W args.toList ds gs before) (hL : laidMetH Tryd.prog Rows.fnVerifyRow.laid W) :
    Calls Tryd.prog 3 args W fun e W' => ∃ v, e = .returned v ∧ Rows.fnVerifySpec.post enc Tryd.prog Tryd.f3 false true false false W args v W' := by
  have hW' := hW
  obtain ⟨p, q, hA0, hV, rfl, hfz, hnd⟩ := hW
  have hA : DataW.TrodAll enc Tryd.prog W 0 (fun _ => true) true Tryd.f3.params.toList args.toList ds p := hA0
  rw [Tryd.params3] at hA hval
  obtain ⟨v0, vs0, d0, ds0, p0, q0, hargs, rfl, rfl, h0, r0⟩ := trodAll_cons hA
  obtain ⟨rfl, rfl, rfl⟩ := trodAll_nil r0
  obtain rfl : args = #[v0] := by cases args; simp_all
  have hlen := Errs.vars_len hV
  obtain ⟨g0, gs0, rfl, hl0⟩ := Errs.len_cons hlen
  obtain ⟨g1, gs1, rfl, hl1⟩ := Errs.len_cons hl0
  obtain ⟨g2, gs2, rfl, hl2⟩ := Errs.len_cons hl1
  obtain ⟨g3, gs3, rfl, hl3⟩ := Errs.len_cons hl2
  obtain rfl := List.length_eq_zero_iff.1 hl3
  have k0 := h0
  have lt0 : ∀ x ∈ p0, x.block < W.heap.size := by obtain ⟨m, hm⟩ := k0; exact DataW.trod_lt m _ _ _ hm
  obtain ⟨a0, len0, cap0, rfl⟩ := okWide_slice Tryd.underlying22 (hval 0 22 v0 rfl rfl)
  obtain ⟨z0, w0⟩ : ∃ zs, IsRow .u8 W a0 len0 cap0 zs := by
    obtain ⟨fuel, hf⟩ := h0
    rcases open_ints Tryd.underlying22 Tryd.underlying5 (by kernel_rfl) hf with ⟨hcs, _⟩ | ⟨x, l, c, zs, hcs, _, hl, hm, hz, _, hcell, hwz⟩
    · simp [Value.cells] at hcs
      obtain ⟨rfl, rfl, rfl⟩ := hcs
      exact ⟨[], .inl ⟨rfl, rfl, rfl, rfl⟩⟩
    · simp [Value.cells] at hcs
      obtain ⟨rfl, rfl, rfl⟩ := hcs
      exact ⟨zs, .inr ⟨_, rfl, hl, hm, by simpa using hz, hcell, hwz⟩⟩
  clear hA0
  refine (walk a0 len0 cap0 z0 W w0 (errs hL).1 (errs hL).2.1 (errs hL).2.2.1 (errs hL).2.2.2).mono fun e W' ⟨he, bel⟩ => ?_
  subst he
  exact ⟨_, rfl, _, _, _, [], _, _, hW', trodAll_mk1 (shut_bool Tryd.underlying4 _), (trodAll_cons_mk (Below.trod Errs.laidOut (by kernel_rfl) (of_decide_eq_true (by kernel_rfl)) k0 bel lt0) trodAll_mk0), (Below.trodVars Errs.laidOut bel (by kernel_rfl) hV), bel.frame _, fun h => by cases h⟩

theorem laid_met (os : Os) : laidMet Tryd.prog Rows.fnVerifyRow.laid ((Errs.errW 4 Rows.laid_loop_example_g00211_impl_errText (Errs.errW 3 Rows.laid_loop_example_g00211_impl_errMark (Errs.errW 2 Rows.laid_loop_example_g00211_impl_errOpen (Errs.errW 1 Rows.laid_loop_example_g00211_impl_errParams (World.holding Tryd.prog os ⟨#[], #[], []⟩))))).forCall (fun _ _ => 0) ⟨#[], #[.slice none 0 0], []⟩).memory :=
  laidMet_of_run' 8 (by kernel_rfl) (by kernel_rfl)

theorem reads (os : Os) {H : Type} (enc : TypeId × Value → H) : ∃ x, DataW.whole enc Tryd.prog ((Errs.errW 4 Rows.laid_loop_example_g00211_impl_errText (Errs.errW 3 Rows.laid_loop_example_g00211_impl_errMark (Errs.errW 2 Rows.laid_loop_example_g00211_impl_errOpen (Errs.errW 1 Rows.laid_loop_example_g00211_impl_errParams (World.holding Tryd.prog os ⟨#[], #[], []⟩))))).forCall (fun _ _ => 0) ⟨#[], #[.slice none 0 0], []⟩).memory Tryd.f3.params.toList Rows.fnVerifySpec.vars false (#[.slice none 0 0] : Array Value).toList 8 = some x :=
  Option.isSome_iff_exists.1 (by kernel_rfl)

set_option maxRecDepth 100000 in
theorem lifted (os : Os) (started : os.Started) (H : Type) (enc : TypeId × Value → H) (F : Stop.Interp) :
    ReturnsInHanded {} Tryd.checked os 3 .any ((OpenSpec.ofChange Rows.fnVerifySpec).preRow enc Tryd.prog Tryd.f3 Rows.fnVerifyRow.domain false Rows.fnVerifyRow.laid) (((OpenSpec.ofChange Rows.fnVerifySpec).at F).post enc Tryd.prog Tryd.f3 false true false false) := by
  obtain ⟨x, hx⟩ := reads os enc
  refine returnsInHanded_of_row (C := Tryd.checked) (s := OpenSpec.ofChange Rows.fnVerifySpec) Errs.own started (by kernel_rfl) Tryd.func3
    (witness_row_at (enc := enc) (C := Tryd.checked) false (Errs.errW 4 Rows.laid_loop_example_g00211_impl_errText (Errs.errW 3 Rows.laid_loop_example_g00211_impl_errMark (Errs.errW 2 Rows.laid_loop_example_g00211_impl_errOpen (Errs.errW 1 Rows.laid_loop_example_g00211_impl_errParams (World.holding Tryd.prog os ⟨#[], #[], []⟩))))) #[.slice none 0 0] rfl (by kernel_rfl) (by kernel_rfl) (by kernel_rfl)
      (OpenSpec.preRow_of_cond 8 hx rfl (fun k hk => by cases hk) (by kernel_rfl) (laid_met os))) ?_
  intro W base args ds gs before hval hW _ _ _ hL _ _
  exact contract H enc W base args ds gs before hval hW hL

set_option maxRecDepth 100000 in
theorem said : Rows.FnVerifySaid :=
  OpenClaim.holds_of_cond 3 Tryd.f3 rfl rfl rfl rfl rfl rfl rfl ⟨rfl, rfl, rfl, rfl, rfl⟩ rfl rfl rfl rfl rfl (by kernel_rfl) Tryd.func3 (by kernel_rfl)
    (of_decide_eq_true (by kernel_rfl)) (by unfold Func.isWrapper; first | (rw [if_pos (by decide +kernel)]; kernel_rfl) | (rw [if_neg (by decide +kernel)]; exact ⟨rfl, rfl⟩))
    (fun os started H enc _ F => by rw [OpenClaim.pre_eq_preRow]; exact lifted os started H enc F)

theorem plain (f : FuncId) (fn : Func) (hf : Tryd.pinned.checked.prog.funcNamed "loop.example/g00211/laws.FnVerify" = some f) (hfn : Tryd.pinned.checked.prog.funcs[f]? = some fn) :
    true = Tryd.pinned.checked.prog.looks [] ∧ ∀ (j : Nat) t, fn.params[j]? = some t → Tryd.pinned.checked.prog.wantsStandIn t = false := by
  obtain rfl : f = 3 := Option.some.inj ((show Tryd.prog.funcNamed "loop.example/g00211/laws.FnVerify" = some 3 by kernel_rfl).symm.trans hf) |>.symm
  obtain rfl : fn = Tryd.f3 := (Option.some.inj (Tryd.func3.symm.trans hfn)).symm
  refine ⟨by kernel_rfl, fun j t ht => ?_⟩
  rw [Tryd.params3] at ht
  obtain rfl : t = 22 := by simpa using Array.mem_of_getElem? ht
  exact (show Tryd.prog.wantsStandIn 22 = false by kernel_rfl)

theorem card : Rows.FnVerifyCardSaid :=
  Claim7.holds_tied_plain_at .later [] _ _ _ _ said (fun _ h => by cases h) (by kernel_rfl) (fun _ h => by cases h) fnVerify_row_tie rfl ⟨rfl, rfl⟩ (by kernel_rfl) rfl plain (by kernel_rfl)
end Go.Proofs.YtllmmelnkkmfoabDoor.fnVerify
namespace Go.Proofs.YtllmmelnkkmfoabDoor
theorem FnVerify_holds : Rows.FnVerifyCardSaid := fnVerify.card
end Go.Proofs.YtllmmelnkkmfoabDoor

/- For every list of edges and every list of stations the law of WayCost answers true: the program's WayCost and its model return the same, and nothing of the lists is turned. No condition. -/
import Derived.Test.YtmhongcbgokilaoErrs
import Derived.ShutString
import Derived.Lib.SmallJoins
import Derived.Test.YtmhongcbgokilaoTfOpen
import Derived.Test.YtmhongcbgokilaoTfWayS
namespace Go.Proofs.Ytmhongcbgokilao.fnExactWayCost
open Go.ChangeShapes Go.WideShapes Go.ChangeAt Go.RowKit Go.Joins
open Go.ChangeMaps (open_string shut_string)
set_option linter.unusedVariables false

def IsRow (k : IntKind) (w : World) (a : Option Addr) (len cap : Nat) (zs : List Int) : Prop :=
  (a = none ∧ len = 0 ∧ cap = 0 ∧ zs = []) ∨
  ∃ x, a = some x ∧ len ≤ cap ∧ cap ≤ maxLen ∧ zs.length = cap ∧ (∀ i, i < zs.length → w.cell? (x.add i) = some (.int k (zs.getD i 0))) ∧ ∀ n ∈ zs, (Lit.int k n).wf = true

theorem ints_of {w : World} {a : Option Addr} {len cap : Nat} {zs : List Int} (h : IsRow .i64 w a len cap zs) : ∃ ys : List Int, ys.length = len ∧ Tf.Ints w a ys ∧ len ≤ maxLen := by
  rcases h with ⟨_, h, _, _⟩ | ⟨x, rfl, hl, hm, hz, hc, hw⟩
  · exact ⟨[], h.symm, Or.inl rfl, by omega⟩
  · obtain ⟨ys, h1, h2⟩ := Tf.ints_row (len := len) (by omega) hc
    exact ⟨ys, h1, h2, by omega⟩


set_option maxRecDepth 100000 in
set_option maxHeartbeats 4000000 in
theorem walk (a0 : Option Addr) (cap0 : Nat) (z0 : List Tf.Ed) (a1 : Option Addr) (len1 cap1 : Nat) (z1 : List Int) (w : World) (w0 : Tf.Edges w a0 z0 ∧ z0.length ≤ maxLen) (w1 : IsRow .i64 w a1 len1 cap1 z1)  :
    Calls Try.prog 7 #[.slice a0 z0.length cap0, .slice a1 len1 cap1] w fun e w' => e = .returned (.bool true) ∧ Below w.heap.size w w' := by
  obtain ⟨I, hm⟩ := w0
  obtain ⟨y1, rfl, J, hm1⟩ := ints_of w1
  clear w1
  have HM : Hid (z0.length ≤ maxLen) := hm
  by_cases hy : y1.length ≤ 1048576
  · have hd1 : decide (1048576 < (y1.length : Int)) = false := decide_eq_false (by omega)
    by_cases hb : z0.length ≤ 1048576
    · have hd : decide (1048576 - (z0.length : Int) < 0) = false := decide_eq_false (by omega)
      clear hm hm1
      go_enter Try.func7, Try.ntmps7
      go_wp2_with fail
      refine (Tf.szEdgeS_yes a0 z0.length cap0 1048576 _ (by omega) (by omega)).mono ?_
      rintro e w1 ⟨rfl, rfl⟩
      go_wp2_with fail
      refine (Tf.toEdgeS_val a0 z0 cap0 _ hb I).mono ?_
      rintro e w2 ⟨rfl, L2, I2, -, -⟩
      go_wp2_with fail
      refine (Tf.toIntS_val a1 y1 cap1 _ hy (J.on L2)).mono ?_
      rintro e w3 ⟨rfl, L3, J3⟩
      have I3 := I2.on L3
      have K3 := Pk.join_below L2 L3
      clear I2 L2 L3
      go_wp2_with fail
      refine (Tf.specWay_val _ _ z0 y1 _ _ _ HM.out hy I3 J3).mono ?_
      rintro e w4 ⟨rfl, L4⟩
      have K4 := Pk.join_below K3 L4
      clear I3 J3 K3 L4
      go_wp2_with fail
      refine (Tf.toEdgeS_val a0 z0 cap0 _ hb (I.on K4)).mono ?_
      rintro e w5 ⟨rfl, L5, I5, -, -⟩
      have K5 := Pk.join_below K4 L5
      clear K4 L5
      go_wp2_with fail
      refine (Tf.toIntS_val a1 y1 cap1 _ hy (J.on K5)).mono ?_
      rintro e w6 ⟨rfl, L6, J6⟩
      have I6 := I5.on L6
      have K6 := Pk.join_below K5 L6
      clear I5 K5 L6
      go_wp2_with fail
      refine (Tf.implWay_val _ _ z0 y1 _ _ _ HM.out hy I6 J6).mono ?_
      rintro e w7 ⟨rfl, L7⟩
      have I7 := I6.on L7
      have J7 := J6.on L7
      have K7 := Pk.join_below K6 L7
      clear I6 J6 K6 L7
      generalize Tf.wayC z0 y1 = V at *
      go_wp2_with fail
      refine (Tf.toEdgeS_val a0 z0 cap0 _ hb (I.on K7)).mono ?_
      rintro e w8 ⟨rfl, L8, I8, -, -⟩
      have E8 := I7.on L8
      have J8 := J7.on L8
      have K8 := Pk.join_below K7 L8
      clear I7 J7 K7 L8
      go_wp2_with fail
      refine (Tf.eqEdgeS_same _ _ z0 _ _ _ hb E8 I8).mono ?_
      rintro e w9 ⟨rfl, L9⟩
      have J9 := J8.on L9
      have K9 := Pk.join_below K8 L9
      clear E8 I8 J8 K8 L9
      go_wp2_with fail
      refine (Tf.toIntS_val a1 y1 cap1 _ hy (J.on K9)).mono ?_
      rintro e w10 ⟨rfl, L10, J10⟩
      have J11 := J9.on L10
      have K10 := Pk.join_below K9 L10
      clear J9 K9 L10
      go_wp2_with fail
      refine (Tf.eqIntS_same _ _ y1 _ _ _ hy J11 J10).mono ?_
      rintro e w11 ⟨rfl, D⟩
      have K11 := K10.trans (Pk.Drawn.below _ D)
      go_wp2
      go_ret
      exact ⟨rfl, K11⟩
    · have HB : Hid (¬ z0.length ≤ 1048576) := hb
      clear hm hb hm1
      go_enter Try.func7, Try.ntmps7
      go_wp2_with fail
      refine (Tf.szEdgeS_no a0 z0.length cap0 1048576 _ (by omega) (by omega) HM.out (by have := HB.out; omega)).mono ?_
      rintro e w1 ⟨rfl, rfl⟩
      go_wp2
      go_ret
      exact ⟨rfl, Below.refl _ _⟩
  · unfold maxLen at hm1
    have hd1 : decide (1048576 < (y1.length : Int)) = true := decide_eq_true (by omega)
    clear hy hm
    go_enter Try.func7, Try.ntmps7
    go_wp2
    go_ret
    exact ⟨rfl, Below.refl _ _⟩

set_option maxRecDepth 100000 in
theorem contract (H : Type) (enc : TypeId × Value → H) (W : World) (base : Nat) (args : Array Value) (ds gs : List (DataW H)) (before : List MemPlace)
    (hval : ∀ (j : Nat) t v, Try.f7.params[j]? = some t → args[j]? = some v → Value.okWide Try.prog W .any base t v)
    (hW : DataW.Whole enc Try.prog Try.f7.params.toList Rows.fnExactWayCostSpec.vars false W args.toList ds gs before) :
    Calls Try.prog 7 args W fun e W' => ∃ v, e = .returned v ∧ Rows.fnExactWayCostSpec.post enc Try.prog Try.f7 false true false false W args v W' := by
  have hW' := hW
  obtain ⟨p, q, hA0, hV, rfl, hfz, hnd⟩ := hW
  have hA : DataW.TrodAll enc Try.prog W 0 (fun _ => true) true Try.f7.params.toList args.toList ds p := hA0
  rw [Try.params7] at hA hval
  obtain ⟨v0, vs0, d0, ds0, p0, q0, hargs, rfl, rfl, h0, r0⟩ := trodAll_cons hA
  obtain ⟨v1, vs1, d1, ds1, p1, q1, rfl, rfl, rfl, h1, r1⟩ := trodAll_cons r0
  obtain ⟨rfl, rfl, rfl⟩ := trodAll_nil r1
  obtain rfl : args = #[v0, v1] := by cases args; simp_all
  obtain ⟨rfl, rfl⟩ := trodVars_none hV
  have k0 := h0
  have lt0 : ∀ x ∈ p0, x.block < W.heap.size := by obtain ⟨m, hm⟩ := k0; exact DataW.trod_lt m _ _ _ hm
  obtain ⟨a0, len0, cap0, rfl⟩ := okWide_slice Try.underlying34 (hval 0 34 v0 rfl rfl)
  obtain ⟨z0, w0, rfl⟩ : ∃ zs : List Tf.Ed, (Tf.Edges W a0 zs ∧ zs.length ≤ maxLen) ∧ zs.length = len0 := by
    obtain ⟨fuel, hf⟩ := h0
    obtain ⟨a, cap, ts, e, hh⟩ := Tf.edges_open hf
    simp [Value.cells] at e
    obtain ⟨rfl, rfl, rfl⟩ := e
    exact ⟨ts, ⟨hh.2, hh.1⟩, rfl⟩
  have k1 := h1
  have lt1 : ∀ x ∈ p1, x.block < W.heap.size := by obtain ⟨m, hm⟩ := k1; exact DataW.trod_lt m _ _ _ hm
  obtain ⟨a1, len1, cap1, rfl⟩ := okWide_slice Try.underlying44 (hval 1 44 v1 rfl rfl)
  obtain ⟨z1, w1⟩ : ∃ zs, IsRow .i64 W a1 len1 cap1 zs := by
    obtain ⟨fuel, hf⟩ := h1
    rcases open_ints Try.underlying44 Try.underlying3 (by kernel_rfl) hf with ⟨hcs, _⟩ | ⟨x, l, c, zs, hcs, _, hl, hm, hz, _, hcell, hwz⟩
    · simp [Value.cells] at hcs
      obtain ⟨rfl, rfl, rfl⟩ := hcs
      exact ⟨[], .inl ⟨rfl, rfl, rfl, rfl⟩⟩
    · simp [Value.cells] at hcs
      obtain ⟨rfl, rfl, rfl⟩ := hcs
      exact ⟨zs, .inr ⟨_, rfl, hl, hm, by simpa using hz, hcell, hwz⟩⟩
  clear hA0
  refine (walk a0 cap0 z0 a1 len1 cap1 z1 W w0 w1 ).mono fun e W' ⟨he, bel⟩ => ?_
  subst he
  exact ⟨_, rfl, _, _, _, [], _, [], hW', trodAll_mk1 (shut_bool Try.underlying4 _), (trodAll_cons_mk (Below.trod Errs.laidOut (by kernel_rfl) (of_decide_eq_true (by kernel_rfl)) k0 bel lt0) (trodAll_cons_mk (Below.trod Errs.laidOut (by kernel_rfl) (of_decide_eq_true (by kernel_rfl)) k1 bel lt1) trodAll_mk0)), rfl, bel.frame _, fun h => by cases h⟩

set_option maxRecDepth 100000 in
theorem lifted (os : Os) (started : os.Started) (H : Type) (enc : TypeId × Value → H) :
    ReturnsInHanded {} Try.checked os 7 .any (Rows.fnExactWayCostSpec.pre6 enc Try.prog Try.f7 Rows.fnExactWayCostRow.domain false) (Rows.fnExactWayCostSpec.post enc Try.prog Try.f7 false true false false) := by
  refine returnsInHanded_of_change (C := Try.checked) Errs.own started (by kernel_rfl) Try.func7
    (ChangeSpec.witness6 (enc := enc) (C := Try.checked) false ⟨#[], #[.slice none 0 0, .slice none 0 0], []⟩ 8 (by kernel_rfl) (by kernel_rfl) (by kernel_rfl) (by kernel_rfl)) ?_
  intro W base args ds gs before hval hW _ _
  exact contract H enc W base args ds gs before hval hW

set_option maxRecDepth 100000 in
theorem over : Rows.fnExactWayCostRow.holds Try.pinned (OpenSpec.ofChange Rows.fnExactWayCostSpec) :=
  OpenClaim.holds_of_wide 7 Try.f7 rfl rfl rfl rfl rfl rfl rfl ⟨rfl, rfl, rfl, rfl, rfl⟩ rfl rfl rfl rfl rfl (by kernel_rfl) Try.func7 (by kernel_rfl)
    (of_decide_eq_true (by kernel_rfl)) (by unfold Func.isWrapper; first | (rw [if_pos (by decide +kernel)]; kernel_rfl) | (rw [if_neg (by decide +kernel)]; exact ⟨rfl, rfl⟩))
    (fun os started H enc _ => lifted os started H enc)
end Go.Proofs.Ytmhongcbgokilao.fnExactWayCost
namespace Go.Proofs.Ytmhongcbgokilao
theorem FnExactWayCost_holds : Rows.FnExactWayCostSaid := fnExactWayCost.over
end Go.Proofs.Ytmhongcbgokilao

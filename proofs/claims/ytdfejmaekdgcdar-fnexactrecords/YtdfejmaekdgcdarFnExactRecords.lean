/- For every log the law of Records answers true: the program's Records and its model return the same texts and the same end, and the texts of the answer are in memory of its own, behind another call too. No condition. -/
import Derived.Test.YtdfejmaekdgcdarErrs
import Derived.ShutString
import Derived.Lib.SmallJoins
import Derived.Test.YtdfejmaekdgcdarLgCutR
import Derived.Test.YtdfejmaekdgcdarLgMark
namespace Go.Proofs.Ytdfejmaekdgcdar.fnExactRecords
open Go.ChangeShapes Go.WideShapes Go.ChangeAt Go.RowKit Go.Joins
open Go.ChangeMaps (open_string shut_string)
set_option linter.unusedVariables false
set_option linter.unusedSimpArgs false

set_option maxRecDepth 100000 in
set_option maxHeartbeats 8000000 in
theorem walk (a0 : ByteArray) (w0 : a0.size ≤ maxLen) (w : World)    :
    Calls Try.prog 7 #[.string a0] w fun e w' => e = .returned (.bool true) ∧ Below w.heap.size w w' := by
  have hm := w0
  unfold maxLen at w0
  by_cases hb : a0.size ≤ 1048576
  · have HS : Hid (∀ W, _) := fun W => Lg10.specRecords_val a0 W hm
    have HI : Hid (∀ W, _) := fun W => Lg10.implRecords_val a0 W hm
    have hrl : (Lg10.rsL a0).length ≤ 1048576 := Lg10.rsL_length a0
    generalize Lg10.rsL a0 = l at *
    generalize Lg10.rsE a0 = E at *
    have hEE : ((E : Int) != (E : Int)) = false := by simp
    have hnn : ((1 + (l.length : Int)) != (1 + (l.length : Int))) = false := by simp
    have hlt0 : ¬ (1 + (l.length : Int)) < 0 := by omega
    have HEQ : Hid (∀ W v1 v2, Gt.Txts W v1 l → Gt.Txts W v2 l → _) := fun W v1 v2 h1 h2 => Gt.eqStringS_same v1 v2 l W hrl h1 h2
    go_enter Try.func7, Try.ntmps7
    go_wp2_with fail
    refine (HS.out _).mono ?_
    rintro e w1 ⟨⟨v1, rfl, O1⟩, L1⟩
    have T1 := Gt.own_txts O1
    have hv1 := Gt.own_lt O1
    obtain ⟨a1, c1, rfl, -⟩ := Pk.own_form O1
    go_wp2_with fail
    refine (HI.out _).mono ?_
    rintro e w2 ⟨⟨v2, rfl, O2⟩, L2⟩
    have T2 := Gt.own_txts O2
    have RM := Gt.own_room O2
    obtain ⟨a2, c2, rfl, -⟩ := Pk.own_form O2
    have T1b := T1.on L2
    have K2 := Pk.join_below L1 L2
    obtain ⟨g, hgB, RMg⟩ : ∃ g, w1.heap.size ≤ g ∧ (l.length = 0 ∨ (a2 = some ⟨g, 0, none⟩ ∧ g < w2.heap.size ∧ Pk.Room w2 g l.length)) := by
      obtain ⟨g, hg, h⟩ := RM
      refine ⟨g, hg, h.imp id ?_⟩
      rintro ⟨c, e, h1, h2⟩
      cases e
      exact ⟨rfl, h1, h2⟩
    go_wp2_with fail
    refine (HEQ.out _ _ _ T2 T1b).mono ?_
    rintro e w3 ⟨rfl, L3⟩
    have T1c := T1b.on L3
    have K3 := Pk.join_below K2 L3
    have R3 : l.length = 0 ∨ (a2 = some ⟨g, 0, none⟩ ∧ g < w3.heap.size ∧ Pk.Room w3 g l.length) := RMg.imp id (fun h => ⟨h.1, Nat.lt_of_lt_of_le h.2.1 L3.size, h.2.2.on L3 h.2.1⟩)
    clear T1 T2 T1b RMg O1 O2
    have HMK : Hid (∀ _ : Unit, _) := fun _ => Gt.markStringS_val a2 g l.length c2 w3 (by omega) R3
    go_wp2_with fail
    refine (HMK.out ()).mono ?_
    rintro e w4 ⟨rfl, KP4, M4⟩
    have T1d := T1c.kp KP4 (Nat.le_refl _) (fun b o n c e => by have := hv1 b o n c e; omega)
    have K4 := K3.trans (KP4.below (lo := w.heap.size) (Nat.le_trans L1.size hgB) K3.size)
    have A4 : l.length = 0 ∨ (a2 = some ⟨g, 0, none⟩ ∧ g < w4.heap.size) := R3.imp id (fun h => ⟨h.1, Nat.lt_of_lt_of_le h.2.1 KP4.size⟩)
    clear R3 HMK T1c
    have HH4 : Hid (∀ _ : Unit, _) := fun _ => Gt.heldStringS_val a2 g l.length c2 w4 (by omega) A4 M4
    go_wp2_with fail
    refine (HH4.out ()).mono ?_
    rintro e w5 ⟨rfl, L5⟩
    have T1e := T1d.on L5
    have K5 := Pk.join_below K4 L5
    clear HH4 T1d
    go_wp2_with fail
    refine (HI.out _).mono ?_
    rintro e w6 ⟨⟨v6, rfl, O6⟩, L6⟩
    have T6 := Gt.own_txts O6
    obtain ⟨a6, c6, rfl, -⟩ := Pk.own_form O6
    have T1f := T1e.on L6
    have K6 := Pk.join_below K5 L6
    go_wp2_with fail
    refine (HEQ.out _ _ _ T6 T1f).mono ?_
    rintro e w7 ⟨rfl, L7⟩
    have K7 := Pk.join_below K6 L7
    have A7 : l.length = 0 ∨ (a2 = some ⟨g, 0, none⟩ ∧ g < w7.heap.size ∧ Gt.MarkedT w7 g l.length) := A4.imp id (fun h => ⟨h.1, Nat.lt_of_lt_of_le h.2 (Nat.le_trans L5.size (Nat.le_trans L6.size L7.size)), ((M4.on L5 h.2).on L6 (Nat.lt_of_lt_of_le h.2 L5.size)).on L7 (Nat.lt_of_lt_of_le h.2 (Nat.le_trans L5.size L6.size))⟩)
    have M7 : Gt.MarkedT w7 g l.length := A7.elim (fun h i hi => by omega) (fun h => h.2.2)
    have HH7 : Hid (∀ _ : Unit, _) := fun _ => Gt.heldStringS_val a2 g l.length c2 w7 (by omega) (A7.imp id (fun h => ⟨h.1, h.2.1⟩)) M7
    clear T1e T1f T6 O6 A4 M4
    go_wp2_with fail
    refine (HH7.out ()).mono ?_
    rintro e w8 ⟨rfl, L8⟩
    have K8 := Pk.join_below K7 L8
    go_wp2
    go_ret
    exact ⟨rfl, K8⟩
  · go_enter Try.func7, Try.ntmps7
    go_wp2
    go_ret
    exact ⟨rfl, Below.refl _ _⟩

set_option maxRecDepth 100000 in
theorem contract (H : Type) (enc : TypeId × Value → H) (W : World) (base : Nat) (args : Array Value) (ds gs : List (DataW H)) (before : List MemPlace)
    (hval : ∀ (j : Nat) t v, Try.f7.params[j]? = some t → args[j]? = some v → Value.okWide Try.prog W .any base t v)
    (hW : DataW.Whole enc Try.prog Try.f7.params.toList Rows.fnExactRecordsSpec.vars false W args.toList ds gs before) :
    Calls Try.prog 7 args W fun e W' => ∃ v, e = .returned v ∧ Rows.fnExactRecordsSpec.post enc Try.prog Try.f7 false true false false W args v W' := by
  have hW' := hW
  obtain ⟨p, q, hA0, hV, rfl, hfz, hnd⟩ := hW
  have hA : DataW.TrodAll enc Try.prog W 0 (fun _ => true) true Try.f7.params.toList args.toList ds p := hA0
  rw [Try.params7] at hA hval
  obtain ⟨v0, vs0, d0, ds0, p0, q0, hargs, rfl, rfl, h0, r0⟩ := trodAll_cons hA
  obtain ⟨rfl, rfl, rfl⟩ := trodAll_nil r0
  obtain rfl : args = #[v0] := by cases args; simp_all
  obtain ⟨rfl, rfl⟩ := trodVars_none hV
  have k0 := h0
  have lt0 : ∀ x ∈ p0, x.block < W.heap.size := by obtain ⟨m, hm⟩ := k0; exact DataW.trod_lt m _ _ _ hm
  obtain ⟨a0, rfl, rfl, rfl, w0⟩ := open_string Try.underlying9 (hval 0 9 v0 rfl rfl) h0
  clear hA0
  refine (walk a0 w0 W   ).mono fun e W' ⟨he, bel⟩ => ?_
  subst he
  exact ⟨_, rfl, _, _, _, [], _, [], hW', trodAll_mk1 (shut_bool Try.underlying4 _), (trodAll_cons_mk (Below.trod Errs.laidOut (by kernel_rfl) (of_decide_eq_true (by kernel_rfl)) k0 bel lt0) trodAll_mk0), rfl, bel.frame _, fun h => by cases h⟩

set_option maxRecDepth 100000 in
theorem lifted (os : Os) (started : os.Started) (H : Type) (enc : TypeId × Value → H) :
    ReturnsInHanded {} Try.checked os 7 .any (Rows.fnExactRecordsSpec.pre6 enc Try.prog Try.f7 Rows.fnExactRecordsRow.domain false) (Rows.fnExactRecordsSpec.post enc Try.prog Try.f7 false true false false) := by
  refine returnsInHanded_of_change (C := Try.checked) Errs.own started (by kernel_rfl) Try.func7
    (ChangeSpec.witness6 (enc := enc) (C := Try.checked) false ⟨#[], #[.string ByteArray.empty], []⟩ 8 (by kernel_rfl) (by kernel_rfl) (by kernel_rfl) (by kernel_rfl)) ?_
  intro W base args ds gs before hval hW _ _
  exact contract H enc W base args ds gs before hval hW

set_option maxRecDepth 100000 in
theorem over : Rows.fnExactRecordsRow.holds Try.pinned (OpenSpec.ofChange Rows.fnExactRecordsSpec) :=
  OpenClaim.holds_of_wide 7 Try.f7 rfl rfl rfl rfl rfl rfl rfl ⟨rfl, rfl, rfl, rfl, rfl⟩ rfl rfl rfl rfl rfl (by kernel_rfl) Try.func7 (by kernel_rfl)
    (of_decide_eq_true (by kernel_rfl)) (by unfold Func.isWrapper; first | (rw [if_pos (by decide +kernel)]; kernel_rfl) | (rw [if_neg (by decide +kernel)]; exact ⟨rfl, rfl⟩))
    (fun os started H enc _ => lifted os started H enc)
end Go.Proofs.Ytdfejmaekdgcdar.fnExactRecords
namespace Go.Proofs.Ytdfejmaekdgcdar
theorem FnExactRecords_holds : Rows.FnExactRecordsSaid := fnExactRecords.over
end Go.Proofs.Ytdfejmaekdgcdar

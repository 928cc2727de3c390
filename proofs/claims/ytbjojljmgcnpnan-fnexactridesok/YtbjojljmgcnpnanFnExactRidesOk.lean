/- For every list of trains and every list of rides the law of RidesOk answers true: the program's RidesOk and its model return the same, and nothing of the lists is turned. No condition. -/
import Derived.Test.YtbjojljmgcnpnanErrs
import Derived.ShutString
import Derived.Lib.SmallJoins
import Derived.Test.YtbjojljmgcnpnanTnRidesLaw
namespace Go.Proofs.Ytbjojljmgcnpnan.fnExactRidesOk
open Go.ChangeShapes Go.WideShapes Go.ChangeAt Go.RowKit Go.Joins
open Go.ChangeMaps (open_string shut_string)
set_option linter.unusedVariables false

set_option maxRecDepth 100000 in
set_option maxHeartbeats 4000000 in
theorem walk (a0 : Option Addr) (cap0 : Nat) (z0 : List Tn.Tr) (a1 : Option Addr) (cap1 : Nat) (z1 : List Rd.Ri) (w : World) (w0 : Tn.TrainsA w a0 z0 ∧ z0.length ≤ maxLen ∧ ∀ i (h : i < z0.length), z0[i].l.length ≤ maxLen) (w1 : Rd.Rides w a1 z1 ∧ z1.length ≤ maxLen)  :
    Calls Try.prog 8 #[.slice a0 z0.length cap0, .slice a1 z1.length cap1] w fun e w' => e = .returned (.bool true) ∧ Below w.heap.size w w' := by
  obtain ⟨I, hn, hs⟩ := w0
  obtain ⟨J, hm⟩ := w1
  by_cases hb : Tn.bulk z0 ≤ 1048576
  · have hd : decide (1048576 - (Tn.bulk z0 : Int) < 0) = false := decide_eq_false (by omega)
    have HB : Hid (Tn.bulk z0 ≤ 1048576) := hb
    have HN : Hid (z0.length ≤ 1048576) := by unfold Tn.bulk at hb; show _ ≤ _; omega
    have HS : Hid (∀ i (h : i < z0.length), z0[i].l.length ≤ 1048576) := fun i h => (Tn.bulk_le hb i h).2
    have HM : Hid (z1.length ≤ maxLen) := hm
    have hbI : 0 ≤ 1048576 - (Tn.bulk z0 : Int) := by omega
    clear hn hs hm
    by_cases h2 : (z1.length : Int) ≤ 1048576 - (Tn.bulk z0 : Int)
    · have hz1 : z1.length ≤ 1048576 := by omega
      have hd2 : decide (1048576 - (Tn.bulk z0 : Int) - (z1.length : Int) < 0) = false := decide_eq_false (by omega)
      go_enter Try.func8, Try.ntmps8
      go_wp2_with fail
      refine (Tn.szTrainS_yes a0 z0 cap0 _ HB.out I).mono ?_
      rintro e w1 ⟨rfl, L1⟩
      go_wp2_with fail
      refine (Rd.szRideS_yes a1 z1.length cap1 _ _ (by omega) h2).mono ?_
      rintro e w2 ⟨rfl, rfl⟩
      clear h2
      go_wp2_with fail
      refine (Tn.toTrainS_val a0 z0 cap0 _ HB.out (I.on L1)).mono ?_
      rintro e w3 ⟨rfl, L3, hl3, M3⟩
      have T3 := M3.trains hl3
      have K3 := Pk.join_below L1 L3
      clear M3 hl3 L1 L3
      go_wp2_with fail
      refine (Rd.toRideS_val a1 z1 cap1 _ hz1 (J.on K3)).mono ?_
      rintro e w4 ⟨rfl, L4, J4, -, -⟩
      have T4 := T3.on L4
      have K4 := Pk.join_below K3 L4
      clear T3 K3 L4
      go_wp2_with fail
      refine (Tn.specRides_val _ z0 _ _ z1 _ _ HN.out HS.out HM.out T4 J4).mono ?_
      rintro e w5 ⟨rfl, L5⟩
      have K5 := Pk.join_below K4 L5
      clear T4 J4 K4 L5
      go_wp2_with fail
      refine (Tn.toTrainS_val a0 z0 cap0 _ HB.out (I.on K5)).mono ?_
      rintro e w6 ⟨rfl, L6, hl6, M6⟩
      have T6 := M6.trains hl6
      have K6 := Pk.join_below K5 L6
      clear M6 hl6 L6 K5
      go_wp2_with fail
      refine (Rd.toRideS_val a1 z1 cap1 _ hz1 (J.on K6)).mono ?_
      rintro e w7 ⟨rfl, L7, J7, -, -⟩
      have T7 := T6.on L7
      have K7 := Pk.join_below K6 L7
      clear T6 K6 L7
      go_wp2_with fail
      refine (Tn.implRides_val _ z0 _ _ z1 _ _ HN.out HS.out HM.out T7 J7).mono ?_
      rintro e w8 ⟨rfl, L8⟩
      have T8 := T7.on L8
      have J8 := J7.on L8
      have K8 := Pk.join_below K7 L8
      clear T7 J7 K7 L8
      generalize Tn.ridesB z0 z1 = B at *
      cases B
      all_goals
        go_wp2_with fail
        refine (Tn.toTrainS_val a0 z0 cap0 _ HB.out (I.on K8)).mono ?_
        rintro e w9 ⟨rfl, L9, hl9, M9⟩
        have T9 := M9.trains hl9
        have T9' := T8.on L9
        have J9 := J8.on L9
        have K9 := Pk.join_below K8 L9
        clear M9 hl9 L9
        go_wp2_with fail
        refine (Tn.eqTrainS_same _ _ z0 _ _ _ HB.out T9' T9).mono ?_
        rintro e w10 ⟨rfl, L10⟩
        have J10 := J9.on L10
        have K10 := Pk.join_below K9 L10
        clear T9 T9' J9 K9 L10
        go_wp2_with fail
        refine (Rd.toRideS_val a1 z1 cap1 _ hz1 (J.on K10)).mono ?_
        rintro e w11 ⟨rfl, L11, J11, -, -⟩
        have J12 := J10.on L11
        have K11 := Pk.join_below K10 L11
        clear J10 K10 L11
        go_wp2_with fail
        refine (Rd.eqRideS_same _ _ z1 _ _ _ hz1 J12 J11).mono ?_
        rintro e w12 ⟨rfl, L12⟩
        have K12 := Pk.join_below K11 L12
        go_wp2
        go_ret
        exact ⟨rfl, K12⟩
    · go_enter Try.func8, Try.ntmps8
      go_wp2_with fail
      refine (Tn.szTrainS_yes a0 z0 cap0 _ HB.out I).mono ?_
      rintro e w1 ⟨rfl, L1⟩
      go_wp2_with fail
      refine (Rd.szRideS_no a1 z1.length cap1 _ _ (by omega) (by omega) HM.out (by omega)).mono ?_
      rintro e w2 ⟨rfl, rfl⟩
      go_wp2
      go_ret
      exact ⟨rfl, L1⟩
  · have HM : Hid (_ ∧ _ ∧ _) := ⟨hn, hs, hb⟩
    clear hn hs hb hm
    go_enter Try.func8, Try.ntmps8
    go_wp2_with fail
    refine (Tn.szTrainS_no a0 z0 cap0 _ HM.out.1 HM.out.2.1 HM.out.2.2 I).mono ?_
    rintro e w1 ⟨rfl, L1⟩
    go_wp2
    go_ret
    exact ⟨rfl, L1⟩

set_option maxRecDepth 100000 in
theorem contract (H : Type) (enc : TypeId × Value → H) (W : World) (base : Nat) (args : Array Value) (ds gs : List (DataW H)) (before : List MemPlace)
    (hval : ∀ (j : Nat) t v, Try.f8.params[j]? = some t → args[j]? = some v → Value.okWide Try.prog W .any base t v)
    (hW : DataW.Whole enc Try.prog Try.f8.params.toList Rows.fnExactRidesOkSpec.vars false W args.toList ds gs before) :
    Calls Try.prog 8 args W fun e W' => ∃ v, e = .returned v ∧ Rows.fnExactRidesOkSpec.post enc Try.prog Try.f8 false true false false W args v W' := by
  have hW' := hW
  obtain ⟨p, q, hA0, hV, rfl, hfz, hnd⟩ := hW
  have hA : DataW.TrodAll enc Try.prog W 0 (fun _ => true) true Try.f8.params.toList args.toList ds p := hA0
  rw [Try.params8] at hA hval
  obtain ⟨v0, vs0, d0, ds0, p0, q0, hargs, rfl, rfl, h0, r0⟩ := trodAll_cons hA
  obtain ⟨v1, vs1, d1, ds1, p1, q1, rfl, rfl, rfl, h1, r1⟩ := trodAll_cons r0
  obtain ⟨rfl, rfl, rfl⟩ := trodAll_nil r1
  obtain rfl : args = #[v0, v1] := by cases args; simp_all
  obtain ⟨rfl, rfl⟩ := trodVars_none hV
  have k0 := h0
  have lt0 : ∀ x ∈ p0, x.block < W.heap.size := by obtain ⟨m, hm⟩ := k0; exact DataW.trod_lt m _ _ _ hm
  obtain ⟨a0, len0, cap0, rfl⟩ := okWide_slice Try.underlying37 (hval 0 37 v0 rfl rfl)
  obtain ⟨z0, w0, rfl⟩ : ∃ zs : List Tn.Tr, (Tn.TrainsA W a0 zs ∧ zs.length ≤ maxLen ∧ ∀ i (h : i < zs.length), zs[i].l.length ≤ maxLen) ∧ zs.length = len0 := by
    obtain ⟨fuel, hf⟩ := h0
    obtain ⟨a, cap, ts, e, hh⟩ := Tn.trains_open hf
    simp [Value.cells] at e
    obtain ⟨rfl, rfl, rfl⟩ := e
    exact ⟨ts, ⟨hh.2.2, hh.1, hh.2.1⟩, rfl⟩
  have k1 := h1
  have lt1 : ∀ x ∈ p1, x.block < W.heap.size := by obtain ⟨m, hm⟩ := k1; exact DataW.trod_lt m _ _ _ hm
  obtain ⟨a1, len1, cap1, rfl⟩ := okWide_slice Try.underlying49 (hval 1 49 v1 rfl rfl)
  obtain ⟨z1, w1, rfl⟩ : ∃ zs : List Rd.Ri, (Rd.Rides W a1 zs ∧ zs.length ≤ maxLen) ∧ zs.length = len1 := by
    obtain ⟨fuel, hf⟩ := h1
    obtain ⟨a, cap, ts, e, hh⟩ := Rd.rides_open hf
    simp [Value.cells] at e
    obtain ⟨rfl, rfl, rfl⟩ := e
    exact ⟨ts, ⟨hh.2, hh.1⟩, rfl⟩
  clear hA0
  refine (walk a0 cap0 z0 a1 cap1 z1 W w0 w1 ).mono fun e W' ⟨he, bel⟩ => ?_
  subst he
  exact ⟨_, rfl, _, _, _, [], _, [], hW', trodAll_mk1 (shut_bool Try.underlying4 _), (trodAll_cons_mk (Below.trod Errs.laidOut (by kernel_rfl) (of_decide_eq_true (by kernel_rfl)) k0 bel lt0) (trodAll_cons_mk (Below.trod Errs.laidOut (by kernel_rfl) (of_decide_eq_true (by kernel_rfl)) k1 bel lt1) trodAll_mk0)), rfl, bel.frame _, fun h => by cases h⟩

set_option maxRecDepth 100000 in
theorem lifted (os : Os) (started : os.Started) (H : Type) (enc : TypeId × Value → H) :
    ReturnsInHanded {} Try.checked os 8 .any (Rows.fnExactRidesOkSpec.pre6 enc Try.prog Try.f8 Rows.fnExactRidesOkRow.domain false) (Rows.fnExactRidesOkSpec.post enc Try.prog Try.f8 false true false false) := by
  refine returnsInHanded_of_change (C := Try.checked) Errs.own started (by kernel_rfl) Try.func8
    (ChangeSpec.witness6 (enc := enc) (C := Try.checked) false ⟨#[], #[.slice none 0 0, .slice none 0 0], []⟩ 8 (by kernel_rfl) (by kernel_rfl) (by kernel_rfl) (by kernel_rfl)) ?_
  intro W base args ds gs before hval hW _ _
  exact contract H enc W base args ds gs before hval hW

set_option maxRecDepth 100000 in
theorem over : Rows.fnExactRidesOkRow.holds Try.pinned (OpenSpec.ofChange Rows.fnExactRidesOkSpec) :=
  OpenClaim.holds_of_wide 8 Try.f8 rfl rfl rfl rfl rfl rfl rfl ⟨rfl, rfl, rfl, rfl, rfl⟩ rfl rfl rfl rfl rfl (by kernel_rfl) Try.func8 (by kernel_rfl)
    (of_decide_eq_true (by kernel_rfl)) (by unfold Func.isWrapper; first | (rw [if_pos (by decide +kernel)]; kernel_rfl) | (rw [if_neg (by decide +kernel)]; exact ⟨rfl, rfl⟩))
    (fun os started H enc _ => lifted os started H enc)
end Go.Proofs.Ytbjojljmgcnpnan.fnExactRidesOk
namespace Go.Proofs.Ytbjojljmgcnpnan
theorem FnExactRidesOk_holds : Rows.FnExactRidesOkSaid := fnExactRidesOk.over
end Go.Proofs.Ytbjojljmgcnpnan

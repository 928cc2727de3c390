/- For every list of trains, every two stations, every day and minute the law of Earliest answers true: the program's Earliest and its model return the same rides, the same hour and the same answer, the program's rides in memory of its own, and nothing of the list is turned. No condition. -/
import Derived.Test.YtfoccmhmgdengaaErrs
import Derived.ShutString
import Derived.Lib.SmallJoins
import Derived.Test.YtfoccmhmgdengaaTnMark
import Derived.Test.YtfoccmhmgdengaaRdMark
import Derived.Test.YtfoccmhmgdengaaManyAFnExactEarliest
import Derived.Test.YtfoccmhmgdengaaManyBFnExactEarliest
namespace Go.Proofs.Ytfoccmhmgdengaa.fnExactEarliest
open Go.ChangeShapes Go.WideShapes Go.ChangeAt Go.RowKit Go.Joins
open Go.ChangeMaps (open_string shut_string)
set_option linter.unusedVariables false
set_option linter.unusedSimpArgs false

theorem ride_room {w : World} {base c : Nat} {a : Option Addr} {l : List Rd.Ri} (h : Rd.RideAt w base a c l) : l.length = 0 ∨ ∃ g, a = some ⟨g, 0, none⟩ ∧ Pk.Room w g (l.length * 4) ∧ base ≤ g ∧ g < w.heap.size := by
  obtain ⟨hl, h2⟩ := h
  rcases h2 with ⟨-, h0⟩ | ⟨g, cap', cur, hv, hg, hh, h1, h3, h4, h5⟩
  · exact Or.inl h0
  · simp only [Value.slice.injEq] at hv
    obtain ⟨rfl, -, rfl⟩ := hv
    refine Or.inr ⟨g, rfl, fun j hj => ⟨⟨cur[j]'(by rw [h4]; have := Nat.mul_le_mul_right 4 h1; omega), ?_⟩, Pk.frozen_at hh j⟩, hg, Pk.lt_of hh⟩
    rw [Pk.cell_at hh]
    exact Array.getElem?_eq_getElem _

theorem band_of {lo hi : Nat} {w w' : World} (D : Tn.Band lo hi w w') : Rd.Band lo hi w w' := ⟨D.os, D.tape, D.output, D.size, D.block⟩


set_option maxRecDepth 100000 in
set_option maxHeartbeats 8000000 in
theorem walk (a0 : Option Addr) (cap0 : Nat) (z0 : List Tn.Tr) (a1 : Int) (w1 : (Lit.int .i64 a1).wf = true) (a2 : Int) (w2 : (Lit.int .i64 a2).wf = true) (a3 : Int) (w3 : (Lit.int .i64 a3).wf = true) (a4 : Int) (w4 : (Lit.int .i64 a4).wf = true) (w : World) (w0 : Tn.TrainsA w a0 z0 ∧ z0.length ≤ maxLen ∧ ∀ i (h : i < z0.length), z0[i].l.length ≤ maxLen)   :
    Calls Try.prog 4 #[.slice a0 z0.length cap0, .int .i64 a1, .int .i64 a2, .int .i64 a3, .int .i64 a4] w fun e w' => e = .returned (.bool true) ∧ Below w.heap.size w w' := by
  obtain ⟨I, hn, hs⟩ := w0
  have HWF : Hid ((Lit.int .i64 a1).wf = true ∧ (Lit.int .i64 a2).wf = true) := ⟨w1, w2⟩
  clear w1 w2 w3 w4
  by_cases hb : Tn.bulk z0 ≤ 1048576
  · have hd : decide (1048576 - (Tn.bulk z0 : Int) < 0) = false := decide_eq_false (by omega)
    have HB : Hid (Tn.bulk z0 ≤ 1048576) := hb
    have HN : Hid (z0.length ≤ 1048576) := by unfold Tn.bulk at hb; show _ ≤ _; omega
    have HS : Hid (∀ i (h : i < z0.length), z0[i].l.length ≤ 1048576) := fun i h => (Tn.bulk_le hb i h).2
    clear hn hs hb
    go_enter Try.func4, Try.ntmps4
    go_wp2_with fail
    refine (Tn.szTrainS_yes a0 z0 cap0 _ HB.out I).mono ?_
    rintro e w1 ⟨rfl, L1⟩
    go_wp2_with fail
    refine (Tn.toTrainS_val a0 z0 cap0 _ HB.out (I.on L1)).mono ?_
    rintro e w2 ⟨rfl, L2, hl2, M2⟩
    have T2 := M2.trains hl2
    have K2 := Pk.join_below L1 L2
    clear M2 L1 L2 hl2
    go_wp2_with fail
    refine (Rd.specEarliest_val z0 _ _ a1 a2 a3 a4 _ HN.out HS.out T2).mono ?_
    rintro e w3 ⟨va, vc, rs, z, b, rfl, hT, hl6, R3, L3⟩
    have S3 := R3.rides
    have K3 := Pk.join_below K2 L3
    have HI : Hid (∀ (ea : Option Addr) (ce : Nat) (w : World), Tn.Trains w ea z0 → Calls Try.prog 7 #[.slice ea z0.length ce, .int .i64 a1, .int .i64 a2, .int .i64 a3, .int .i64 a4] w fun e w' => ∃ ga gc, e = .returned (.tuple #[.slice ga rs.length gc, .int .i64 z, .bool b]) ∧ Rd.RideAt w' w.heap.size ga gc rs ∧ Below w.heap.size w w') := by
      intro ea ce w h
      refine (Rd.implEarliest_val z0 ea ce a1 a2 a3 a4 w HN.out HS.out HWF.out.1 HWF.out.2 h).mono ?_
      rintro e w' ⟨a', c', rs', z', b', rfl, hT', -, R, L⟩
      obtain ⟨rfl, rfl, rfl⟩ := Rd.told_one hT hT'
      exact ⟨a', c', rfl, R, L⟩
    have hq : rs.length ≤ 1048576 := by omega
    have hk1 : decide (1 + 4 * (rs.length : Int) < 0) = false := decide_eq_false (by omega)
    have HV : Hid (∀ b o, va = some ⟨b, o, none⟩ → rs ≠ [] → b < w3.heap.size) := by
      intro b o hv hne
      rcases S3 with h | ⟨b', o', h1, h2, -⟩
      · exact absurd h hne
      · rw [hv] at h1
        simp only [Option.some.injEq, Addr.mk.injEq] at h1
        rw [h1.1]
        exact h2
    clear T2 K2 L3 hT R3 hl6
    go_wp2_with fail
    refine (Tn.toTrainS_val a0 z0 cap0 _ HB.out (I.on K3)).mono ?_
    rintro e w4 ⟨rfl, L4, hl4, M4⟩
    have T4 := M4.trains hl4
    have Q4 := M4.mk
    have S4 := S3.on L4
    have HK3 : Hid (w.heap.size ≤ w3.heap.size) := K3.size
    have K4 := Pk.join_below K3 L4
    have H34 : Hid (w3.heap.size ≤ w4.heap.size) := L4.size
    clear M4 K3 L4 S3
    go_wp2_with fail
    refine (HI.out _ _ _ T4).mono ?_
    rintro e w5 ⟨ga, gc, rfl, R5, L5⟩
    have G5 := R5.rides
    have K5 := Pk.join_below K4 L5
    have S5 := S4.on L5
    have T5 := T4.on L5
    have Q5 := Q4.on L5 hl4 (Nat.le_refl _)
    have hl5 := Nat.lt_of_lt_of_le hl4 L5.size
    have hh5 := L5.size
    have HG : Hid (∃ g, w3.heap.size ≤ g ∧ g < w5.heap.size ∧ (rs.length = 0 ∨ (ga = some ⟨g, 0, none⟩ ∧ w4.heap.size ≤ g ∧ Pk.Room w5 g (rs.length * 4)))) := by
      rcases ride_room R5 with h | ⟨g, h1, h2, h3, h4⟩
      · exact ⟨w3.heap.size, Nat.le_refl _, hl5, Or.inl h⟩
      · exact ⟨g, Nat.le_trans H34.out h3, h4, Or.inr ⟨h1, h3, h2⟩⟩
    obtain ⟨g, hg3, hg5, hgo⟩ := HG.out
    have HGO : Hid (_) := hgo
    have HA : Hid (rs.length = 0 ∨ ga = some ⟨g, 0, none⟩) := hgo.imp_right fun h => h.1
    clear HG hgo K4 L5 S4 T4 Q4 R5
    go_wp2_with fail
    refine (Rd.eqRideS_same ga va rs gc vc _ hq G5 S5).mono ?_
    rintro e w6 ⟨rfl, L6⟩
    have K6 := Pk.join_below K5 L6
    have S6 := S5.on L6
    have G6 := G5.on L6
    have T6 := T5.on L6
    have Q6 := Q5.on L6 hl5 hh5
    have hl6 := Nat.lt_of_lt_of_le hl5 L6.size
    have hh6 := Nat.le_trans hh5 L6.size
    have M6 := L6
    clear K5 S5 G5 T5 Q5 L6
    go_wp2_with fail
    refine (Tn.toTrainS_val a0 z0 cap0 _ HB.out (I.on K6)).mono ?_
    rintro e w7 ⟨rfl, L7, hl7', M7'⟩
    have T7' := M7'.trains hl7'
    have K7 := Pk.join_below K6 L7
    have S7 := S6.on L7
    have G7 := G6.on L7
    have T7 := T6.on L7
    have Q7 := Q6.on L7 hl6 hh6
    have hl7 := Nat.lt_of_lt_of_le hl6 L7.size
    have hh7 := Nat.le_trans hh6 L7.size
    have M7 := Pk.join_below M6 L7
    clear K6 S6 G6 T6 Q6 L7 M6 hl7' M7'
    go_wp2_with fail
    refine (Tn.eqTrainS_same _ _ z0 _ _ _ HB.out T7 T7').mono ?_
    rintro e w8 ⟨rfl, L8⟩
    have K8 := Pk.join_below K7 L8
    have S8 := S7.on L8
    have G8 := G7.on L8
    have Q8 := Q7.on L8 hl7 hh7
    have M8 := Pk.join_below M7 L8
    clear K7 S7 G7 T7 T7' Q7 L8 M7
    go_wp2_with fail
    refine (Tn.markTrainS_val w3.heap.size w4.heap.size w3.heap.size z0 _ _ HB.out (Nat.le_refl _) hl4 Q8).mono ?_
    rintro e w9 ⟨zk, hzk, rfl, D9'⟩
    have D9 := band_of D9'
    have hk0 : decide (zk < 0) = false := decide_eq_false (by omega)
    have K9 := K8.trans (D9.below.mono HK3.out)
    have S9 := S8.band D9 fun b o hv hne => Or.inl (HV.out b o hv hne)
    have HGO9 : Hid (rs.length = 0 ∨ (ga = some ⟨g, 0, none⟩ ∧ Pk.Room w9 g (rs.length * 4))) := by
      rcases HGO.out with h | ⟨h1, h2, h3⟩
      · exact Or.inl h
      · exact Or.inr ⟨h1, Rd.Room.band (h3.on M8 hg5) D9 (Or.inr h2)⟩
    have G9 := G8.band D9 fun b o hv hne => by
      rcases HGO.out with h | ⟨h1, h2, -⟩
      · exact absurd (List.eq_nil_of_length_eq_zero h) hne
      · rw [h1] at hv
        simp only [Option.some.injEq, Addr.mk.injEq] at hv
        omega
    have hg9 : g < w9.heap.size := by have := D9.size; have := M8.size; omega
    clear K8 S8 G8 Q8 D9 D9' M8 HGO hl4 hl5 hh5 hl6 hh6 hl7 hh7 hg5 hzk
    go_wp2_with fail
    refine (Rd.eqRideS_same ga va rs gc vc _ hq G9 S9).mono ?_
    rintro e w10 ⟨rfl, L10⟩
    have K10 := Pk.join_below K9 L10
    have S10 := S9.on L10
    have HGO10 : Hid (rs.length = 0 ∨ (ga = some ⟨g, 0, none⟩ ∧ Pk.Room w10 g (rs.length * 4))) := HGO9.out.imp_right fun ⟨h1, h2⟩ => ⟨h1, h2.on L10 hg9⟩
    have hg10 := Nat.lt_of_lt_of_le hg9 L10.size
    clear K9 S9 G9 L10 HGO9 hg9
    go_wp2_with fail
    refine (Rd.markRideS_val ga g rs.length gc _ (by omega) HGO10.out).mono ?_
    rintro e w11 ⟨rfl, D11, X11⟩
    have K11 := K10.trans (D11.below.mono (Nat.le_trans HK3.out hg3))
    have S11 := S10.band D11 fun b o hv hne => Or.inl (by have := HV.out b o hv hne; omega)
    have hg11 : g < w11.heap.size := by have := D11.size; omega
    clear K10 S10 D11 HGO10 hg10
    go_wp2_with fail
    refine (Rd.heldRideS_val ga g rs.length gc _ (by omega) HA.out X11).mono ?_
    rintro e w12 ⟨rfl, rfl⟩
    go_wp2_with fail
    refine (Tn.toTrainS_val a0 z0 cap0 _ HB.out (I.on K11)).mono ?_
    rintro e w13 ⟨rfl, L13, hl13, M13⟩
    have T13 := M13.trains hl13
    have K13 := Pk.join_below K11 L13
    have S13 := S11.on L13
    have X13 := X11.on L13 hg11
    have hg13 := Nat.lt_of_lt_of_le hg11 L13.size
    clear K11 S11 X11 L13 hl13 M13 hg11
    go_wp2_with fail
    refine (HI.out _ _ _ T13).mono ?_
    rintro e w14 ⟨ha, hc, rfl, R14, L14⟩
    have G14 := R14.rides
    have K14 := Pk.join_below K13 L14
    have S14 := S13.on L14
    have X14 := X13.on L14 hg13
    have hg14 := Nat.lt_of_lt_of_le hg13 L14.size
    clear K13 S13 X13 L14 T13 R14 hg13
    go_wp2_with fail
    refine (Rd.eqRideS_same ha va rs hc vc _ hq G14 S14).mono ?_
    rintro e w15 ⟨rfl, L15⟩
    have K15 := Pk.join_below K14 L15
    have X15 := X14.on L15 hg14
    clear K14 S14 X14 L15 G14
    go_wp2_with fail
    refine (Rd.heldRideS_val ga g rs.length gc _ (by omega) HA.out X15).mono ?_
    rintro e w16 ⟨rfl, rfl⟩
    go_wp2
    go_ret
    exact ⟨rfl, K15⟩
  · have HM : Hid (_ ∧ _ ∧ _) := ⟨hn, hs, hb⟩
    clear hn hs hb
    go_enter Try.func4, Try.ntmps4
    go_wp2_with fail
    refine (Tn.szTrainS_no a0 z0 cap0 _ HM.out.1 HM.out.2.1 HM.out.2.2 I).mono ?_
    rintro e w1 ⟨rfl, L1⟩
    go_wp2
    go_ret
    exact ⟨rfl, L1⟩

set_option maxRecDepth 100000 in
theorem contract (H : Type) (enc : TypeId × Value → H) (W : World) (base : Nat) (args : Array Value) (ds gs : List (DataW H)) (before : List MemPlace)
    (hval : ∀ (j : Nat) t v, Try.f4.params[j]? = some t → args[j]? = some v → Value.okWide Try.prog W .any base t v)
    (hW : DataW.Whole enc Try.prog Try.f4.params.toList Rows.fnExactEarliestSpec.vars false W args.toList ds gs before) :
    Calls Try.prog 4 args W fun e W' => ∃ v, e = .returned v ∧ Rows.fnExactEarliestSpec.post enc Try.prog Try.f4 false true false false W args v W' := by
  have hW' := hW
  obtain ⟨p, q, hA0, hV, rfl, hfz, hnd⟩ := hW
  have hA : DataW.TrodAll enc Try.prog W 0 (fun _ => true) true Try.f4.params.toList args.toList ds p := hA0
  rw [Try.params4] at hA hval
  obtain ⟨v0, vs0, d0, ds0, p0, q0, hargs, rfl, rfl, h0, r0⟩ := trodAll_cons hA
  obtain ⟨v1, vs1, d1, ds1, p1, q1, rfl, rfl, rfl, h1, r1⟩ := trodAll_cons r0
  obtain ⟨v2, vs2, d2, ds2, p2, q2, rfl, rfl, rfl, h2, r2⟩ := trodAll_cons r1
  obtain ⟨v3, vs3, d3, ds3, p3, q3, rfl, rfl, rfl, h3, r3⟩ := trodAll_cons r2
  obtain ⟨v4, vs4, d4, ds4, p4, q4, rfl, rfl, rfl, h4, r4⟩ := trodAll_cons r3
  obtain ⟨rfl, rfl, rfl⟩ := trodAll_nil r4
  obtain rfl : args = #[v0, v1, v2, v3, v4] := by cases args; simp_all
  obtain ⟨rfl, rfl⟩ := trodVars_none hV
  have k0 := h0
  have lt0 : ∀ x ∈ p0, x.block < W.heap.size := by obtain ⟨m, hm⟩ := k0; exact DataW.trod_lt m _ _ _ hm
  obtain ⟨a0, len0, cap0, rfl⟩ := okWide_slice Try.underlying45 (hval 0 45 v0 rfl rfl)
  obtain ⟨z0, w0, rfl⟩ : ∃ zs : List Tn.Tr, (Tn.TrainsA W a0 zs ∧ zs.length ≤ maxLen ∧ ∀ i (h : i < zs.length), zs[i].l.length ≤ maxLen) ∧ zs.length = len0 := by
    obtain ⟨fuel, hf⟩ := h0
    obtain ⟨a, cap, ts, e, hh⟩ := Tn.trains_open hf
    simp [Value.cells] at e
    obtain ⟨rfl, rfl, rfl⟩ := e
    exact ⟨ts, ⟨hh.2.2, hh.1, hh.2.1⟩, rfl⟩
  have k1 := h1
  have lt1 : ∀ x ∈ p1, x.block < W.heap.size := by obtain ⟨m, hm⟩ := k1; exact DataW.trod_lt m _ _ _ hm
  obtain ⟨a1, rfl, rfl, rfl, w1⟩ := open_int Try.underlying3 (hval 1 3 v1 rfl rfl) h1
  have k2 := h2
  have lt2 : ∀ x ∈ p2, x.block < W.heap.size := by obtain ⟨m, hm⟩ := k2; exact DataW.trod_lt m _ _ _ hm
  obtain ⟨a2, rfl, rfl, rfl, w2⟩ := open_int Try.underlying3 (hval 2 3 v2 rfl rfl) h2
  have k3 := h3
  have lt3 : ∀ x ∈ p3, x.block < W.heap.size := by obtain ⟨m, hm⟩ := k3; exact DataW.trod_lt m _ _ _ hm
  obtain ⟨a3, rfl, rfl, rfl, w3⟩ := open_int Try.underlying3 (hval 3 3 v3 rfl rfl) h3
  have k4 := h4
  have lt4 : ∀ x ∈ p4, x.block < W.heap.size := by obtain ⟨m, hm⟩ := k4; exact DataW.trod_lt m _ _ _ hm
  obtain ⟨a4, rfl, rfl, rfl, w4⟩ := open_int Try.underlying3 (hval 4 3 v4 rfl rfl) h4
  clear hA0
  refine (walk a0 cap0 z0 a1 w1 a2 w2 a3 w3 a4 w4 W w0  ).mono fun e W' ⟨he, bel⟩ => ?_
  subst he
  exact ⟨_, rfl, _, _, _, [], _, [], hW', trodAll_mk1 (shut_bool Try.underlying4 _), (trodAll_cons_mk (Below.trod Errs.laidOut (by kernel_rfl) (of_decide_eq_true (by kernel_rfl)) k0 bel lt0) (trodAll_cons_mk (Below.trod Errs.laidOut (by kernel_rfl) (of_decide_eq_true (by kernel_rfl)) k1 bel lt1) (trodAll_cons_mk (Below.trod Errs.laidOut (by kernel_rfl) (of_decide_eq_true (by kernel_rfl)) k2 bel lt2) (trodAll_cons_mk (Below.trod Errs.laidOut (by kernel_rfl) (of_decide_eq_true (by kernel_rfl)) k3 bel lt3) (trodAll_cons_mk (Below.trod Errs.laidOut (by kernel_rfl) (of_decide_eq_true (by kernel_rfl)) k4 bel lt4) trodAll_mk0))))), rfl, bel.frame _, fun h => by cases h⟩

set_option maxRecDepth 100000 in
theorem lifted (os : Os) (started : os.Started) (H : Type) (enc : TypeId × Value → H) :
    ReturnsInHanded {} Try.checked os 4 .any (Rows.fnExactEarliestSpec.pre6 enc Try.prog Try.f4 Rows.fnExactEarliestRow.domain false) (Rows.fnExactEarliestSpec.post enc Try.prog Try.f4 false true false false) := by
  refine returnsInHanded_of_change (C := Try.checked) Errs.own started (by kernel_rfl) Try.func4
    (ChangeSpec.witness6 (enc := enc) (C := Try.checked) false ⟨#[], #[.slice none 0 0, .int .i64 0, .int .i64 0, .int .i64 0, .int .i64 0], []⟩ 8 (by kernel_rfl) (by kernel_rfl) (by kernel_rfl) (by kernel_rfl)) ?_
  intro W base args ds gs before hval hW _ _
  exact contract H enc W base args ds gs before hval hW

set_option maxRecDepth 100000 in
theorem over : Rows.fnExactEarliestRow.holds Try.pinned (OpenSpec.ofChange Rows.fnExactEarliestSpec) :=
  OpenClaim.holds_of_wide 4 Try.f4 rfl rfl rfl rfl rfl rfl rfl ⟨rfl, rfl, rfl, rfl, rfl⟩ rfl rfl rfl rfl rfl (by kernel_rfl) Try.func4 (by kernel_rfl)
    (of_decide_eq_true (by kernel_rfl)) (by unfold Func.isWrapper; first | (rw [if_pos (by decide +kernel)]; kernel_rfl) | (rw [if_neg (by decide +kernel)]; exact ⟨rfl, rfl⟩))
    (fun os started H enc _ => lifted os started H enc)
end Go.Proofs.Ytfoccmhmgdengaa.fnExactEarliest
namespace Go.Proofs.Ytfoccmhmgdengaa
theorem FnExactEarliest_holds : Rows.FnExactEarliestSaid := fnExactEarliest.over
end Go.Proofs.Ytfoccmhmgdengaa

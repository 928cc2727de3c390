/- For every two holds the law of Meet answers true: the program's Meet and its model return the same. No condition. -/
import Derived.Test.YtikdganlpedbeapErrs
import Derived.ShutString
import Derived.Lib.SmallJoins
import Derived.Test.YtikdganlpedbeapSeMeetS
namespace Go.Proofs.Ytikdganlpedbeap.fnExactMeet
open Go.ChangeShapes Go.WideShapes Go.ChangeAt Go.RowKit Go.Joins
open Go.ChangeMaps (open_string shut_string)
set_option linter.unusedVariables false
set_option linter.unusedSimpArgs false

set_option maxRecDepth 100000 in
set_option maxHeartbeats 4000000 in
theorem walk (p0 : Se.Hl) (wp0 : Se.Wf p0) (p1 : Se.Hl) (wp1 : Se.Wf p1) (w : World)   :
    Calls Try.prog 6 #[Se.lgV p0, Se.lgV p1] w fun e w' => e = .returned (.bool true) ∧ Below w.heap.size w w' := by
  have HT0 : Hid (∀ w, _) := fun w => Se.toHold_val p0 w
  have HT1 : Hid (∀ w, _) := fun w => Se.toHold_val p1 w
  have HS : Hid (∀ w, _) := fun w => Se.specMeet_val p0 p1 w
  have HI : Hid (∀ w, _) := fun w => Se.implMeet_val p0 p1 w
  generalize Se.meetB p0 p1 = R at *
  have B1 : Se.Bx ((w.alloc (.cells #[.int .i64 p0.tr, .int .i64 p0.dy, .int .i64 p0.co, .int .i64 p0.se, .int .i64 p0.ba, .int .i64 p0.be, .int .i64 p0.od] 40)).alloc (.cells #[.int .i64 p1.tr, .int .i64 p1.dy, .int .i64 p1.co, .int .i64 p1.se, .int .i64 p1.ba, .int .i64 p1.be, .int .i64 p1.od] 40)) w.heap.size p0 := Se.Bx.of (Pk.heap_old (Pk.heap_new _ _) _)
  have B2 : Se.Bx ((w.alloc (.cells #[.int .i64 p0.tr, .int .i64 p0.dy, .int .i64 p0.co, .int .i64 p0.se, .int .i64 p0.ba, .int .i64 p0.be, .int .i64 p0.od] 40)).alloc (.cells #[.int .i64 p1.tr, .int .i64 p1.dy, .int .i64 p1.co, .int .i64 p1.se, .int .i64 p1.ba, .int .i64 p1.be, .int .i64 p1.od] 40)) (w.heap.size + 1) p1 := by
    have h := Se.Bx.of (p := p1) (Pk.heap_new (w.alloc (.cells #[.int .i64 p0.tr, .int .i64 p0.dy, .int .i64 p0.co, .int .i64 p0.se, .int .i64 p0.ba, .int .i64 p0.be, .int .i64 p0.od] 40)) (.cells #[.int .i64 p1.tr, .int .i64 p1.dy, .int .i64 p1.co, .int .i64 p1.se, .int .i64 p1.ba, .int .i64 p1.be, .int .i64 p1.od] 40))
    simpa using h
  have HN : Hid (Below w.heap.size w ((w.alloc (.cells #[.int .i64 p0.tr, .int .i64 p0.dy, .int .i64 p0.co, .int .i64 p0.se, .int .i64 p0.ba, .int .i64 p0.be, .int .i64 p0.od] 40)).alloc (.cells #[.int .i64 p1.tr, .int .i64 p1.dy, .int .i64 p1.co, .int .i64 p1.se, .int .i64 p1.ba, .int .i64 p1.be, .int .i64 p1.od] 40))) := Pk.join_below (Pk.new_below _ _) (Pk.new_below _ _)
  have HZ : Hid (w.heap.size + 2 ≤ ((w.alloc (.cells #[.int .i64 p0.tr, .int .i64 p0.dy, .int .i64 p0.co, .int .i64 p0.se, .int .i64 p0.ba, .int .i64 p0.be, .int .i64 p0.od] 40)).alloc (.cells #[.int .i64 p1.tr, .int .i64 p1.dy, .int .i64 p1.co, .int .i64 p1.se, .int .i64 p1.ba, .int .i64 p1.be, .int .i64 p1.od] 40)).heap.size) := by simp [Hid]
  go_enter Try.func6, Try.ntmps6
  go_wp2
  generalize (w.alloc (.cells #[.int .i64 p0.tr, .int .i64 p0.dy, .int .i64 p0.co, .int .i64 p0.se, .int .i64 p0.ba, .int .i64 p0.be, .int .i64 p0.od] 40)).alloc (.cells #[.int .i64 p1.tr, .int .i64 p1.dy, .int .i64 p1.co, .int .i64 p1.se, .int .i64 p1.ba, .int .i64 p1.be, .int .i64 p1.od] 40) = W at *
  obtain ⟨b, hb0⟩ : ∃ b, w.heap.size = b := ⟨_, rfl⟩
  obtain ⟨c, hc0⟩ : ∃ c, w.heap.size + 1 = c := ⟨_, rfl⟩
  have hb : b < W.heap.size := by have := HZ.out; omega
  have hc : c < W.heap.size := by have := HZ.out; omega
  rw [hc0] at B2 ⊢
  rw [hb0] at B1 ⊢
  have HP : Hid (Se.Bx W b p0) := B1
  have HQ : Hid (Se.Bx W c p1) := B2
  clear hb0 hc0 HZ B1 B2
  have KD1 : Below W.heap.size W W := Below.refl _ _
  have K0 : Below W.heap.size W (World.drew _) := KD1.drew
  refine wp_region_held_drew (S := (fun w' => Se.Bx w' b p0 ∧ Se.Bx w' c p1)) (by kernel_rfl) ?_ (fun hHeld => ?_)
  · exact ⟨HP.out.on K0 hb, HQ.out.on K0 hc⟩
  refine wpAnyH_take (i := 0) (v := .agg #[.int .i64 p0.tr, .int .i64 p0.dy, .int .i64 p0.co, .int .i64 p0.se, .int .i64 p0.ba, .int .i64 p0.be, .int .i64 p0.od]) rfl (by kernel_rfl) (by kernel_rfl) (by kernel_rfl) (fun _ _ _ h => h) (Or.inl ⟨by kernel_rfl, fun w hSw => by first | (go_simp; done) | (dsimp only at hSw; obtain ⟨⟨x0, x1, x2, x3, x4, x5, x6⟩, ⟨y0, y1, y2, y3, y4, y5, y6⟩⟩ := hSw; go_simp; done) | rfl⟩) (by assumption) ?_
  simp only [Act.put, List.getElem_toArray, List.getElem_cons_succ, List.getElem_cons_zero, List.setIfInBounds_toArray, List.set_cons_succ, List.set_cons_zero]
  refine wpAnyH_take (i := 2) (v := .agg #[.int .i64 p1.tr, .int .i64 p1.dy, .int .i64 p1.co, .int .i64 p1.se, .int .i64 p1.ba, .int .i64 p1.be, .int .i64 p1.od]) rfl (by kernel_rfl) (by kernel_rfl) (by kernel_rfl) (fun _ _ _ h => h) (Or.inl ⟨by kernel_rfl, fun w hSw => by first | (go_simp; done) | (dsimp only at hSw; obtain ⟨⟨x0, x1, x2, x3, x4, x5, x6⟩, ⟨y0, y1, y2, y3, y4, y5, y6⟩⟩ := hSw; go_simp; done) | rfl⟩) (by assumption) ?_
  simp only [Act.put, List.getElem_toArray, List.getElem_cons_succ, List.getElem_cons_zero, List.setIfInBounds_toArray, List.set_cons_succ, List.set_cons_zero]
  refine wpAnyH_ready (rs := [1]) (by kernel_rfl) (by simp) ?_
  refine AllReadyH.cons rfl (fun K hK => ?_) AllReadyH.nil
  go_simp
  go_wp2_with (go_at_call 22; (with_reducible refine (HT0.out _).mono ?_); rintro e w1 ⟨rfl, L1⟩; have K1 : Below W.heap.size W w1 := K0.trans (L1.mono K0.size))
  refine hK.out _ _ ?_ (fun hHeld2 => ?_)
  · first | exact ⟨HP.out.on K3 hb, HQ.out.on K3 hc⟩ | exact ⟨HP.out.on K2 hb, HQ.out.on K2 hc⟩ | exact ⟨HP.out.on K1 hb, HQ.out.on K1 hc⟩
  clear hK K hHeld
  have hHeld := hHeld2
  clear hHeld2
  refine wpAnyH_ready (rs := [3]) (by kernel_rfl) (by simp) ?_
  refine AllReadyH.cons rfl (fun K hK => ?_) AllReadyH.nil
  go_simp
  go_wp2_with (go_at_call 22; (with_reducible refine (HT1.out _).mono ?_); rintro e w2 ⟨rfl, L2⟩; have K2 : Below W.heap.size W w2 := K1.trans (L2.mono K1.size))
  refine hK.out _ _ ?_ (fun hHeld2 => ?_)
  · first | exact ⟨HP.out.on K3 hb, HQ.out.on K3 hc⟩ | exact ⟨HP.out.on K2 hb, HQ.out.on K2 hc⟩ | exact ⟨HP.out.on K1 hb, HQ.out.on K1 hc⟩
  clear hK K hHeld
  have hHeld := hHeld2
  clear hHeld2
  refine wpAnyH_ready (rs := [4]) (by kernel_rfl) (by simp) ?_
  refine AllReadyH.cons rfl (fun K hK => ?_) AllReadyH.nil
  go_simp
  go_wp2_with (go_at_call 21; (with_reducible refine (HS.out _).mono ?_); rintro e w3 ⟨rfl, L3⟩; have K3 : Below W.heap.size W w3 := K2.trans (L3.mono K2.size))
  refine hK.out _ _ ?_ (fun hHeld2 => ?_)
  · first | exact ⟨HP.out.on K3 hb, HQ.out.on K3 hc⟩ | exact ⟨HP.out.on K2 hb, HQ.out.on K2 hc⟩ | exact ⟨HP.out.on K1 hb, HQ.out.on K1 hc⟩
  clear hK K hHeld
  have hHeld := hHeld2
  clear hHeld2
  refine wpAnyH_ready (rs := [5]) (by kernel_rfl) (by simp) ?_
  refine AllReadyH.cons rfl (fun K hK => ?_) AllReadyH.nil
  go_simp
  refine hK.out _ _ ?_ (fun hHeld2 => ?_)
  · first | exact ⟨HP.out.on K3 hb, HQ.out.on K3 hc⟩ | exact ⟨HP.out.on K2 hb, HQ.out.on K2 hc⟩ | exact ⟨HP.out.on K1 hb, HQ.out.on K1 hc⟩
  clear hK K hHeld
  have hHeld := hHeld2
  clear hHeld2
  refine wpAnyH_done (by kernel_rfl) ?_ _
  have KD5 : Below W.heap.size W w3 := K3
  clear hHeld
  go_wp2
  have K4 : Below W.heap.size W (World.drew _) := KD5.drew
  refine wp_region_held_drew (S := (fun w' => Se.Bx w' b p0 ∧ Se.Bx w' c p1)) (by kernel_rfl) ?_ (fun hHeld => ?_)
  · exact ⟨HP.out.on K4 hb, HQ.out.on K4 hc⟩
  refine wpAnyH_take (i := 0) (v := .agg #[.int .i64 p0.tr, .int .i64 p0.dy, .int .i64 p0.co, .int .i64 p0.se, .int .i64 p0.ba, .int .i64 p0.be, .int .i64 p0.od]) rfl (by kernel_rfl) (by kernel_rfl) (by kernel_rfl) (fun _ _ _ h => h) (Or.inl ⟨by kernel_rfl, fun w hSw => by first | (go_simp; done) | (dsimp only at hSw; obtain ⟨⟨x0, x1, x2, x3, x4, x5, x6⟩, ⟨y0, y1, y2, y3, y4, y5, y6⟩⟩ := hSw; go_simp; done) | rfl⟩) (by assumption) ?_
  simp only [Act.put, List.getElem_toArray, List.getElem_cons_succ, List.getElem_cons_zero, List.setIfInBounds_toArray, List.set_cons_succ, List.set_cons_zero]
  refine wpAnyH_take (i := 2) (v := .agg #[.int .i64 p1.tr, .int .i64 p1.dy, .int .i64 p1.co, .int .i64 p1.se, .int .i64 p1.ba, .int .i64 p1.be, .int .i64 p1.od]) rfl (by kernel_rfl) (by kernel_rfl) (by kernel_rfl) (fun _ _ _ h => h) (Or.inl ⟨by kernel_rfl, fun w hSw => by first | (go_simp; done) | (dsimp only at hSw; obtain ⟨⟨x0, x1, x2, x3, x4, x5, x6⟩, ⟨y0, y1, y2, y3, y4, y5, y6⟩⟩ := hSw; go_simp; done) | rfl⟩) (by assumption) ?_
  simp only [Act.put, List.getElem_toArray, List.getElem_cons_succ, List.getElem_cons_zero, List.setIfInBounds_toArray, List.set_cons_succ, List.set_cons_zero]
  refine wpAnyH_ready (rs := [1]) (by kernel_rfl) (by simp) ?_
  refine AllReadyH.cons rfl (fun K hK => ?_) AllReadyH.nil
  go_simp
  go_wp2_with (go_at_call 22; (with_reducible refine (HT0.out _).mono ?_); rintro e w5 ⟨rfl, L5⟩; have K5 : Below W.heap.size W w5 := K4.trans (L5.mono K4.size))
  refine hK.out _ _ ?_ (fun hHeld2 => ?_)
  · first | exact ⟨HP.out.on K7 hb, HQ.out.on K7 hc⟩ | exact ⟨HP.out.on K6 hb, HQ.out.on K6 hc⟩ | exact ⟨HP.out.on K5 hb, HQ.out.on K5 hc⟩
  clear hK K hHeld
  have hHeld := hHeld2
  clear hHeld2
  refine wpAnyH_ready (rs := [3]) (by kernel_rfl) (by simp) ?_
  refine AllReadyH.cons rfl (fun K hK => ?_) AllReadyH.nil
  go_simp
  go_wp2_with (go_at_call 22; (with_reducible refine (HT1.out _).mono ?_); rintro e w6 ⟨rfl, L6⟩; have K6 : Below W.heap.size W w6 := K5.trans (L6.mono K5.size))
  refine hK.out _ _ ?_ (fun hHeld2 => ?_)
  · first | exact ⟨HP.out.on K7 hb, HQ.out.on K7 hc⟩ | exact ⟨HP.out.on K6 hb, HQ.out.on K6 hc⟩ | exact ⟨HP.out.on K5 hb, HQ.out.on K5 hc⟩
  clear hK K hHeld
  have hHeld := hHeld2
  clear hHeld2
  refine wpAnyH_ready (rs := [4]) (by kernel_rfl) (by simp) ?_
  refine AllReadyH.cons rfl (fun K hK => ?_) AllReadyH.nil
  go_simp
  go_wp2_with (go_at_call 23; (with_reducible refine (HI.out _).mono ?_); rintro e w7 ⟨rfl, L7⟩; have K7 : Below W.heap.size W w7 := K6.trans (L7.mono K6.size))
  refine hK.out _ _ ?_ (fun hHeld2 => ?_)
  · first | exact ⟨HP.out.on K7 hb, HQ.out.on K7 hc⟩ | exact ⟨HP.out.on K6 hb, HQ.out.on K6 hc⟩ | exact ⟨HP.out.on K5 hb, HQ.out.on K5 hc⟩
  clear hK K hHeld
  have hHeld := hHeld2
  clear hHeld2
  refine wpAnyH_ready (rs := [5]) (by kernel_rfl) (by simp) ?_
  refine AllReadyH.cons rfl (fun K hK => ?_) AllReadyH.nil
  go_simp
  refine hK.out _ _ ?_ (fun hHeld2 => ?_)
  · first | exact ⟨HP.out.on K7 hb, HQ.out.on K7 hc⟩ | exact ⟨HP.out.on K6 hb, HQ.out.on K6 hc⟩ | exact ⟨HP.out.on K5 hb, HQ.out.on K5 hc⟩
  clear hK K hHeld
  have hHeld := hHeld2
  clear hHeld2
  refine wpAnyH_done (by kernel_rfl) ?_ _
  clear hHeld
  cases R
  all_goals
    go_wp2
    go_ret
    exact ⟨rfl, Pk.join_below HN.out K7⟩

set_option maxRecDepth 100000 in
theorem contract (H : Type) (enc : TypeId × Value → H) (W : World) (base : Nat) (args : Array Value) (ds gs : List (DataW H)) (before : List MemPlace)
    (hval : ∀ (j : Nat) t v, Try.f6.params[j]? = some t → args[j]? = some v → Value.okWide Try.prog W .any base t v)
    (hW : DataW.Whole enc Try.prog Try.f6.params.toList Rows.fnExactMeetSpec.vars false W args.toList ds gs before) :
    Calls Try.prog 6 args W fun e W' => ∃ v, e = .returned v ∧ Rows.fnExactMeetSpec.post enc Try.prog Try.f6 false true false false W args v W' := by
  have hW' := hW
  obtain ⟨p, q, hA0, hV, rfl, hfz, hnd⟩ := hW
  have hA : DataW.TrodAll enc Try.prog W 0 (fun _ => true) true Try.f6.params.toList args.toList ds p := hA0
  rw [Try.params6] at hA hval
  obtain ⟨v0, vs0, d0, ds0, p0, q0, hargs, rfl, rfl, h0, r0⟩ := trodAll_cons hA
  obtain ⟨v1, vs1, d1, ds1, p1, q1, rfl, rfl, rfl, h1, r1⟩ := trodAll_cons r0
  obtain ⟨rfl, rfl, rfl⟩ := trodAll_nil r1
  obtain rfl : args = #[v0, v1] := by cases args; simp_all
  obtain ⟨rfl, rfl⟩ := trodVars_none hV
  have k0 := h0
  have lt0 : ∀ x ∈ p0, x.block < W.heap.size := by obtain ⟨m, hm⟩ := k0; exact DataW.trod_lt m _ _ _ hm
  obtain ⟨p0_, rfl, wp0⟩ := Se.hold_open (hval 0 40 v0 rfl rfl) h0
  have k1 := h1
  have lt1 : ∀ x ∈ p1, x.block < W.heap.size := by obtain ⟨m, hm⟩ := k1; exact DataW.trod_lt m _ _ _ hm
  obtain ⟨p1_, rfl, wp1⟩ := Se.hold_open (hval 1 40 v1 rfl rfl) h1
  clear hA0
  refine (walk p0_ wp0 p1_ wp1 W  ).mono fun e W' ⟨he, bel⟩ => ?_
  subst he
  exact ⟨_, rfl, _, _, _, [], _, [], hW', trodAll_mk1 (shut_bool Try.underlying4 _), (trodAll_cons_mk (Below.trod Errs.laidOut (by kernel_rfl) (of_decide_eq_true (by kernel_rfl)) k0 bel lt0) (trodAll_cons_mk (Below.trod Errs.laidOut (by kernel_rfl) (of_decide_eq_true (by kernel_rfl)) k1 bel lt1) trodAll_mk0)), rfl, bel.frame _, fun h => by cases h⟩

set_option maxRecDepth 100000 in
theorem lifted (os : Os) (started : os.Started) (H : Type) (enc : TypeId × Value → H) :
    ReturnsInHanded {} Try.checked os 6 .any (Rows.fnExactMeetSpec.pre6 enc Try.prog Try.f6 Rows.fnExactMeetRow.domain false) (Rows.fnExactMeetSpec.post enc Try.prog Try.f6 false true false false) := by
  refine returnsInHanded_of_change (C := Try.checked) Errs.own started (by kernel_rfl) Try.func6
    (ChangeSpec.witness6 (enc := enc) (C := Try.checked) false ⟨#[], #[.agg #[.int .i64 0, .int .i64 0, .int .i64 0, .int .i64 0, .int .i64 0, .int .i64 0, .int .i64 0], .agg #[.int .i64 0, .int .i64 0, .int .i64 0, .int .i64 0, .int .i64 0, .int .i64 0, .int .i64 0]], []⟩ 8 (by kernel_rfl) (by kernel_rfl) (by kernel_rfl) (by kernel_rfl)) ?_
  intro W base args ds gs before hval hW _ _
  exact contract H enc W base args ds gs before hval hW

set_option maxRecDepth 100000 in
theorem over : Rows.fnExactMeetRow.holds Try.pinned (OpenSpec.ofChange Rows.fnExactMeetSpec) :=
  OpenClaim.holds_of_wide 6 Try.f6 rfl rfl rfl rfl rfl rfl rfl ⟨rfl, rfl, rfl, rfl, rfl⟩ rfl rfl rfl rfl rfl (by kernel_rfl) Try.func6 (by kernel_rfl)
    (of_decide_eq_true (by kernel_rfl)) (by unfold Func.isWrapper; first | (rw [if_pos (by decide +kernel)]; kernel_rfl) | (rw [if_neg (by decide +kernel)]; exact ⟨rfl, rfl⟩))
    (fun os started H enc _ => lifted os started H enc)
end Go.Proofs.Ytikdganlpedbeap.fnExactMeet
namespace Go.Proofs.Ytikdganlpedbeap
theorem FnExactMeet_holds : Rows.FnExactMeetSaid := fnExactMeet.over
end Go.Proofs.Ytikdganlpedbeap

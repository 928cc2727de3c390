/- For every list of holds and every hold the law of Take answers true: the program's Take and its model return the same list and the same truth, the program's list in memory of its own, and no hold of the list is turned. No condition. -/
import Derived.Test.YtikdganlpedbeaqErrs
import Derived.ShutString
import Derived.Lib.SmallJoins
import Derived.Test.YtikdganlpedbeaqSeOpen
import Derived.Test.YtikdganlpedbeaqSeMark
import Derived.Test.YtikdganlpedbeaqSeTake
namespace Go.Proofs.Ytikdganlpedbeaq.fnExactTake
open Go.ChangeShapes Go.WideShapes Go.ChangeAt Go.RowKit Go.Joins
open Go.ChangeMaps (open_string shut_string)
set_option linter.unusedVariables false
set_option linter.unusedSimpArgs false

set_option maxRecDepth 100000 in
set_option maxHeartbeats 4000000 in
theorem walk (a0 : Option Addr) (cap0 : Nat) (z0 : List Se.Hl) (p1 : Se.Hl) (wp1 : Se.Wf p1) (w : World) (w0 : Se.Holds w a0 z0 ∧ z0.length ≤ maxLen ∧ Se.Wfs z0)  :
    Calls Try.prog 4 #[.slice a0 z0.length cap0, Se.lgV p1] w fun e w' => e = .returned (.bool true) ∧ Below w.heap.size w w' := by
  obtain ⟨I, hm, hwf⟩ := w0
  have HM : Hid (z0.length ≤ maxLen) := hm
  by_cases hb : z0.length ≤ 1048576
  · have hz : z0.length ≤ 1048576 := hb
    have hd : decide (1048576 - (z0.length : Int) < 0) = false := decide_eq_false (by omega)
    have hk0 : decide (1 + 7 * (z0.length : Int) < 0) = false := decide_eq_false (by omega)
    have N := Pk.new_below w (.cells #[.int .i64 p1.tr, .int .i64 p1.dy, .int .i64 p1.co, .int .i64 p1.se, .int .i64 p1.ba, .int .i64 p1.be, .int .i64 p1.od] 40)
    have HB : Hid (Se.Bx (w.alloc (.cells #[.int .i64 p1.tr, .int .i64 p1.dy, .int .i64 p1.co, .int .i64 p1.se, .int .i64 p1.ba, .int .i64 p1.be, .int .i64 p1.od] 40)) w.heap.size p1) := Se.Bx.of (Pk.heap_new _ _)
    have hb0 : w.heap.size < (w.alloc (.cells #[.int .i64 p1.tr, .int .i64 p1.dy, .int .i64 p1.co, .int .i64 p1.se, .int .i64 p1.ba, .int .i64 p1.be, .int .i64 p1.od] 40)).heap.size := by simp
    have HTO : Hid (∀ wx, Below w.heap.size w wx → _) := fun wx (L : Below w.heap.size w wx) => Se.toHoldS_val a0 z0 cap0 wx hz (I.on L)
    have HTH : Hid (∀ w, _) := fun w => Se.toHold_val p1 w
    have HSP : Hid (∀ wx b o ec, Se.Holds wx (some ⟨b, o, none⟩) z0 → Calls Try.prog 15 #[.slice (some ⟨b, o, none⟩) z0.length ec, Se.lgV p1] wx fun e w' => (∃ v, e = .returned (.tuple #[v, .bool (Se.holdsB (z0 ++ [p1]))]) ∧ w'.ownsRow wx.heap.size 43 7 v (Se.tkL z0 p1).length (Se.hcells (Se.tkL z0 p1))) ∧ Below wx.heap.size wx w') := fun wx b o ec h => Se.specTake_val b o z0 ec p1 wx hz h
    have HIM : Hid (∀ wx b o ec, Se.Holds wx (some ⟨b, o, none⟩) z0 → Calls Try.prog 17 #[.slice (some ⟨b, o, none⟩) z0.length ec, Se.lgV p1] wx fun e w' => (∃ v, e = .returned (.tuple #[v, .bool (Se.holdsB (z0 ++ [p1]))]) ∧ w'.ownsRow (wx.heap.size + 1) 43 7 v (Se.tkL z0 p1).length (Se.hcells (Se.tkL z0 p1))) ∧ Below wx.heap.size wx w') := fun wx b o ec h => Se.implTake_val b o z0 ec p1 wx hz h hwf wp1
    have hq : (Se.tkL z0 p1).length ≤ 1048576 := by
      unfold Se.tkL
      split
      · rename_i h
        unfold Se.holdsB at h
        simp only [Bool.and_eq_true, decide_eq_true_eq] at h
        omega
      · omega
    clear hm hb hwf wp1
    generalize Se.tkL z0 p1 = s at *
    generalize Se.holdsB (z0 ++ [p1]) = R at *
    have hk1 : decide (1 + 7 * (s.length : Int) < 0) = false := decide_eq_false (by omega)
    go_enter Try.func4, Try.ntmps4
    go_wp2_with fail
    refine (Se.szHoldS_yes a0 z0.length cap0 1048576 _ (by omega) (by omega)).mono ?_
    rintro e u1 ⟨rfl, rfl⟩
    generalize w.alloc (.cells #[.int .i64 p1.tr, .int .i64 p1.dy, .int .i64 p1.co, .int .i64 p1.se, .int .i64 p1.ba, .int .i64 p1.be, .int .i64 p1.od] 40) = W at *
    go_wp2
    have K1 : Below w.heap.size w W.drew := N.drew
    have KW1 : Below W.heap.size W W.drew := (Below.refl _ _).drew
    refine wp_region_held_drew (S := (fun w' => Se.Bx w' w.heap.size p1)) (by kernel_rfl) ?_ (fun hHeld => ?_)
    · exact HB.out.on KW1 hb0
    refine wpAnyH_take (i := 0) (v := .slice a0 z0.length cap0) rfl (by kernel_rfl) (by kernel_rfl) (by kernel_rfl) (fun _ _ _ h => h) (Or.inl ⟨by kernel_rfl, fun w hSw => by first | (go_simp; done) | (dsimp only at hSw; obtain ⟨x0, x1, x2, x3, x4, x5, x6⟩ := hSw; go_simp; done) | rfl⟩) (by assumption) ?_
    simp only [Act.put, List.getElem_toArray, List.getElem_cons_succ, List.getElem_cons_zero, List.setIfInBounds_toArray, List.set_cons_succ, List.set_cons_zero]
    refine wpAnyH_take (i := 2) (v := .agg #[.int .i64 p1.tr, .int .i64 p1.dy, .int .i64 p1.co, .int .i64 p1.se, .int .i64 p1.ba, .int .i64 p1.be, .int .i64 p1.od]) rfl (by kernel_rfl) (by kernel_rfl) (by kernel_rfl) (fun _ _ _ h => h) (Or.inl ⟨by kernel_rfl, fun w hSw => by first | (go_simp; done) | (dsimp only at hSw; obtain ⟨x0, x1, x2, x3, x4, x5, x6⟩ := hSw; go_simp; done) | rfl⟩) (by assumption) ?_
    simp only [Act.put, List.getElem_toArray, List.getElem_cons_succ, List.getElem_cons_zero, List.setIfInBounds_toArray, List.set_cons_succ, List.set_cons_zero]
    refine wpAnyH_ready (rs := [1]) (by kernel_rfl) (by simp) ?_
    refine AllReadyH.cons rfl (fun K hK => ?_) AllReadyH.nil
    go_simp
    go_wp2_with (go_at_call 10; (with_reducible refine (HTO.out _ K1).mono ?_); rintro e u2 ⟨rfl, L2, I2d, -, -⟩; have I2 : Se.Holds u2 (some ⟨W.heap.size, 0, none⟩) z0 := I2d; have K2 : Below w.heap.size w u2 := K1.trans (L2.mono K1.size); have KW2 : Below W.heap.size W u2 := KW1.trans (L2.mono KW1.size))
    refine hK.out _ _ ?_ (fun hHeld2 => ?_)
    · first | exact HB.out.on KW4 hb0 | exact HB.out.on KW3 hb0 | exact HB.out.on KW2 hb0
    clear hK K hHeld
    have hHeld := hHeld2
    clear hHeld2
    refine wpAnyH_ready (rs := [3]) (by kernel_rfl) (by simp) ?_
    refine AllReadyH.cons rfl (fun K hK => ?_) AllReadyH.nil
    go_simp
    go_wp2_with (go_at_call 16; (with_reducible refine (HTH.out _).mono ?_); rintro e u3 ⟨rfl, L3⟩; have I3 := I2.on L3; have K3 : Below w.heap.size w u3 := K2.trans (L3.mono K2.size); have KW3 : Below W.heap.size W u3 := KW2.trans (L3.mono KW2.size))
    refine hK.out _ _ ?_ (fun hHeld2 => ?_)
    · first | exact HB.out.on KW4 hb0 | exact HB.out.on KW3 hb0 | exact HB.out.on KW2 hb0
    clear hK K hHeld
    have hHeld := hHeld2
    clear hHeld2
    refine wpAnyH_ready (rs := [4]) (by kernel_rfl) (by simp) ?_
    refine AllReadyH.cons rfl (fun K hK => ?_) AllReadyH.nil
    go_simp
    go_wp2_with (go_at_call 15; (with_reducible refine (HSP.out _ _ _ _ I3).mono ?_); rintro e u4 ⟨⟨v4, rfl, O4⟩, L4⟩; have K4 : Below w.heap.size w u4 := K3.trans (L4.mono K3.size); have KW4 : Below W.heap.size W u4 := KW3.trans (L4.mono KW3.size))
    refine hK.out _ _ ?_ (fun hHeld2 => ?_)
    · first | exact HB.out.on KW4 hb0 | exact HB.out.on KW3 hb0 | exact HB.out.on KW2 hb0
    clear hK K hHeld
    have hHeld := hHeld2
    clear hHeld2
    refine wpAnyH_take (i := 5) (v := .tuple #[v4, .bool R]) rfl (by kernel_rfl) (by kernel_rfl) (by kernel_rfl) (fun _ _ _ h => h) (Or.inl ⟨by kernel_rfl, fun w hSw => by first | (go_simp; done) | (dsimp only at hSw; obtain ⟨x0, x1, x2, x3, x4, x5, x6⟩ := hSw; go_simp; done) | rfl⟩) (by assumption) ?_
    simp only [Act.put, List.getElem_toArray, List.getElem_cons_succ, List.getElem_cons_zero, List.setIfInBounds_toArray, List.set_cons_succ, List.set_cons_zero]
    refine wpAnyH_take (i := 6) (v := v4) rfl (by kernel_rfl) (by kernel_rfl) (by kernel_rfl) (fun _ _ _ h => h) (Or.inl ⟨by kernel_rfl, fun w hSw => by first | (go_simp; done) | (dsimp only at hSw; obtain ⟨x0, x1, x2, x3, x4, x5, x6⟩ := hSw; go_simp; done) | rfl⟩) (by assumption) ?_
    simp only [Act.put, List.getElem_toArray, List.getElem_cons_succ, List.getElem_cons_zero, List.setIfInBounds_toArray, List.set_cons_succ, List.set_cons_zero]
    refine wpAnyH_take (i := 7) (v := .bool R) rfl (by kernel_rfl) (by kernel_rfl) (by kernel_rfl) (fun _ _ _ h => h) (Or.inl ⟨by kernel_rfl, fun w hSw => by first | (go_simp; done) | (dsimp only at hSw; obtain ⟨x0, x1, x2, x3, x4, x5, x6⟩ := hSw; go_simp; done) | rfl⟩) (by assumption) ?_
    simp only [Act.put, List.getElem_toArray, List.getElem_cons_succ, List.getElem_cons_zero, List.setIfInBounds_toArray, List.set_cons_succ, List.set_cons_zero]
    refine wpAnyH_take (i := 8) (v := v4) rfl (by kernel_rfl) (by kernel_rfl) (by kernel_rfl) (fun _ _ _ h => h) (Or.inl ⟨by kernel_rfl, fun w hSw => by first | (go_simp; done) | (dsimp only at hSw; obtain ⟨x0, x1, x2, x3, x4, x5, x6⟩ := hSw; go_simp; done) | rfl⟩) (by assumption) ?_
    simp only [Act.put, List.getElem_toArray, List.getElem_cons_succ, List.getElem_cons_zero, List.setIfInBounds_toArray, List.set_cons_succ, List.set_cons_zero]
    refine wpAnyH_take (i := 9) (v := .bool R) rfl (by kernel_rfl) (by kernel_rfl) (by kernel_rfl) (fun _ _ _ h => h) (Or.inl ⟨by kernel_rfl, fun w hSw => by first | (go_simp; done) | (dsimp only at hSw; obtain ⟨x0, x1, x2, x3, x4, x5, x6⟩ := hSw; go_simp; done) | rfl⟩) (by assumption) ?_
    simp only [Act.put, List.getElem_toArray, List.getElem_cons_succ, List.getElem_cons_zero, List.setIfInBounds_toArray, List.set_cons_succ, List.set_cons_zero]
    refine wpAnyH_done (by kernel_rfl) ?_ _
    clear hHeld
    obtain ⟨va, vc, rfl, S4⟩ := Se.own_holds O4
    have HV : Hid (∀ b o, va = some ⟨b, o, none⟩ → s ≠ [] → b < u4.heap.size) := by
      intro b o hv hne
      rcases S4 with h | ⟨b', o', h1, h2, -⟩
      · exact absurd h hne
      · rw [hv] at h1
        simp only [Option.some.injEq, Addr.mk.injEq] at h1
        rw [h1.1]
        exact h2
    have HK4 : Hid (w.heap.size ≤ u4.heap.size) := K4.size
    have HWZ : Hid (W.heap.size ≤ u4.heap.size) := KW4.size
    clear I2 I2d I3 O4 L2 L3 L4
    go_wp2_with fail
    refine (HTO.out _ K4).mono ?_
    rintro e u5 ⟨rfl, L5, I5, h5, R5⟩
    have K5 : Below w.heap.size w u5 := K4.trans (L5.mono K4.size)
    have KW5 : Below W.heap.size W u5 := KW4.trans (L5.mono KW4.size)
    have S5 := S4.on L5
    obtain ⟨x0, x1, x2, x3, x4, x5, x6⟩ := HB.out.on KW5 hb0
    clear S4
    go_wp2_with fail
    refine (HTH.out _).mono ?_
    rintro e u6 ⟨rfl, L6⟩
    have K6 : Below w.heap.size w u6 := K5.trans (L6.mono K5.size)
    have KW6 : Below W.heap.size W u6 := KW5.trans (L6.mono KW5.size)
    have S6 := S5.on L6
    have I6 := I5.on L6
    have R6 := R5.on L6 h5
    have h6 := Nat.lt_of_lt_of_le h5 L6.size
    clear S5 I5 R5 x0 x1 x2 x3 x4 x5 x6
    go_wp2_with fail
    refine (HIM.out _ _ _ _ I6).mono ?_
    rintro e u7 ⟨⟨vI, rfl, OI⟩, L7⟩
    have K7 : Below w.heap.size w u7 := K6.trans (L7.mono K6.size)
    have KW7 : Below W.heap.size W u7 := KW6.trans (L7.mono KW6.size)
    have S7 := S6.on L7
    have I7 := I6.on L7
    have R7 := R6.on L7 h6
    have h7 := Nat.lt_of_lt_of_le h6 L7.size
    obtain ⟨ga, gc, rfl, G7⟩ := Se.own_holds OI
    have HG : Hid (∃ g, u4.heap.size ≤ g ∧ g < u7.heap.size ∧ (s.length = 0 ∨ (ga = some ⟨g, 0, none⟩ ∧ u4.heap.size < g ∧ Pk.Room u7 g (s.length * 7)))) := by
      by_cases h0 : s.length = 0
      · exact ⟨u4.heap.size, Nat.le_refl _, h7, Or.inl h0⟩
      · obtain ⟨g, cap, hv, hb1, hg1, hr⟩ := Se.own_room OI (by omega)
        simp only [Value.slice.injEq] at hv
        exact ⟨g, by omega, hg1, Or.inr ⟨hv.1, by omega, hr⟩⟩
    obtain ⟨g, hg4, hg7, hgo⟩ := HG.out
    have HGO : Hid (s.length = 0 ∨ (ga = some ⟨g, 0, none⟩ ∧ u4.heap.size < g ∧ Pk.Room u7 g (s.length * 7))) := hgo
    have HA : Hid (s.length = 0 ∨ ga = some ⟨g, 0, none⟩) := hgo.imp_right fun h => h.1
    clear HG hgo S6 I6 R6 OI L5 L6 L7
    cases R
    case false =>
      go_wp2_with fail
      refine (Se.eqHoldS_same ga va s gc vc _ hq G7 S7).mono ?_
      rintro e u8 ⟨rfl, L8⟩
      have K8 : Below w.heap.size w u8 := K7.trans (L8.mono K7.size)
      have KW8 : Below W.heap.size W u8 := KW7.trans (L8.mono KW7.size)
      have S8 := S7.on L8
      have G8 := G7.on L8
      have I8 := I7.on L8
      have R8 := R7.on L8 h7
      have h8 := Nat.lt_of_lt_of_le h7 L8.size
      clear S7 G7 I7 R7
      go_wp2_with fail
      refine (HTO.out _ K8).mono ?_
      rintro e u9 ⟨rfl, L9, J9, -, -⟩
      have K9 : Below w.heap.size w u9 := K8.trans (L9.mono K8.size)
      have KW9 : Below W.heap.size W u9 := KW8.trans (L9.mono KW8.size)
      have S9 := S8.on L9
      have G9 := G8.on L9
      have I9 := I8.on L9
      have R9 := R8.on L9 h8
      have h9 := Nat.lt_of_lt_of_le h8 L9.size
      have M9 := Pk.join_below L8 L9
      clear S8 G8 I8 R8 L8 L9
      go_wp2_with fail
      refine (Se.eqHoldS_same _ _ z0 _ _ _ hz I9 J9).mono ?_
      rintro e u10 ⟨rfl, L10⟩
      have K10 : Below w.heap.size w u10 := K9.trans (L10.mono K9.size)
      have KW10 : Below W.heap.size W u10 := KW9.trans (L10.mono KW9.size)
      have S10 := S9.on L10
      have G10 := G9.on L10
      have R10 := R9.on L10 h9
      have h10 := Nat.lt_of_lt_of_le h9 L10.size
      have M10 := Pk.join_below M9 L10
      clear S9 G9 I9 J9 R9 L10 M9
      go_wp2_with fail
      refine (Se.markHoldS_val (some ⟨u4.heap.size, 0, none⟩) u4.heap.size z0.length _ _ (by omega) (Or.inr ⟨rfl, R10⟩)).mono ?_
      rintro e u11 ⟨rfl, D11, -⟩
      have K11 := K10.trans (D11.below.mono HK4.out)
      have KW11 := KW10.trans (D11.below.mono HWZ.out)
      have S11 := S10.band D11 fun b o hv hne => Or.inl (HV.out b o hv hne)
      have HGO11 : Hid (s.length = 0 ∨ (ga = some ⟨g, 0, none⟩ ∧ Pk.Room u11 g (s.length * 7))) := by
        rcases HGO.out with h | ⟨h1, h2, h3⟩
        · exact Or.inl h
        · exact Or.inr ⟨h1, Se.Room.band (h3.on M10 hg7) D11 (by omega)⟩
      have G11 := G10.band D11 fun b o hv hne => by
        rcases HGO.out with h | ⟨h1, h2, -⟩
        · exact absurd (List.eq_nil_of_length_eq_zero h) hne
        · rw [h1] at hv
          simp only [Option.some.injEq, Addr.mk.injEq] at hv
          omega
      have hg11 : g < u11.heap.size := by have := D11.size; have := M10.size; omega
      clear S10 G10 R10 D11 M10 HGO
      go_wp2_with fail
      refine (Se.eqHoldS_same ga va s gc vc _ hq G11 S11).mono ?_
      rintro e u12 ⟨rfl, L12⟩
      have K12 : Below w.heap.size w u12 := K11.trans (L12.mono K11.size)
      have KW12 : Below W.heap.size W u12 := KW11.trans (L12.mono KW11.size)
      have S12 := S11.on L12
      have HGO12 : Hid (s.length = 0 ∨ (ga = some ⟨g, 0, none⟩ ∧ Pk.Room u12 g (s.length * 7))) := HGO11.out.imp_right fun ⟨h1, h2⟩ => ⟨h1, h2.on L12 hg11⟩
      have hg12 := Nat.lt_of_lt_of_le hg11 L12.size
      clear S11 G11 L12 HGO11
      go_wp2_with fail
      refine (Se.markHoldS_val ga g s.length gc _ (by omega) HGO12.out).mono ?_
      rintro e u13 ⟨rfl, D13, X13⟩
      have K13 := K12.trans (D13.below.mono (Nat.le_trans HK4.out hg4))
      have KW13 := KW12.trans (D13.below.mono (Nat.le_trans HWZ.out hg4))
      have S13 : Se.Holds u13 va s := S12.band D13 fun b o hv hne => Or.inl (by have := HV.out b o hv hne; omega)
      have hg13 : g < u13.heap.size := by have := D13.size; omega
      clear S12 D13 HGO12
      go_wp2_with fail
      refine (Se.heldHoldS_val ga g s.length gc _ (by omega) HA.out X13).mono ?_
      rintro e u14 ⟨rfl, rfl⟩
      go_wp2
      have K15 : Below w.heap.size w u14.drew := K13.drew
      have KW15 : Below W.heap.size W u14.drew := KW13.drew
      refine wp_region_held_drew (S := (fun w' => Se.Bx w' w.heap.size p1)) (by kernel_rfl) ?_ (fun hHeld => ?_)
      · exact HB.out.on KW15 hb0
      refine wpAnyH_take (i := 0) (v := .slice a0 z0.length cap0) rfl (by kernel_rfl) (by kernel_rfl) (by kernel_rfl) (fun _ _ _ h => h) (Or.inl ⟨by kernel_rfl, fun w hSw => by first | (go_simp; done) | (dsimp only at hSw; obtain ⟨x0, x1, x2, x3, x4, x5, x6⟩ := hSw; go_simp; done) | rfl⟩) (by assumption) ?_
      simp only [Act.put, List.getElem_toArray, List.getElem_cons_succ, List.getElem_cons_zero, List.setIfInBounds_toArray, List.set_cons_succ, List.set_cons_zero]
      refine wpAnyH_take (i := 2) (v := .agg #[.int .i64 p1.tr, .int .i64 p1.dy, .int .i64 p1.co, .int .i64 p1.se, .int .i64 p1.ba, .int .i64 p1.be, .int .i64 p1.od]) rfl (by kernel_rfl) (by kernel_rfl) (by kernel_rfl) (fun _ _ _ h => h) (Or.inl ⟨by kernel_rfl, fun w hSw => by first | (go_simp; done) | (dsimp only at hSw; obtain ⟨x0, x1, x2, x3, x4, x5, x6⟩ := hSw; go_simp; done) | rfl⟩) (by assumption) ?_
      simp only [Act.put, List.getElem_toArray, List.getElem_cons_succ, List.getElem_cons_zero, List.setIfInBounds_toArray, List.set_cons_succ, List.set_cons_zero]
      refine wpAnyH_ready (rs := [1]) (by kernel_rfl) (by simp) ?_
      refine AllReadyH.cons rfl (fun K hK => ?_) AllReadyH.nil
      go_simp
      go_wp2_with (go_at_call 10; (with_reducible refine (HTO.out _ K15).mono ?_); rintro e u16 ⟨rfl, L16, I16d, -, -⟩; have I16 : Se.Holds u16 (some ⟨u14.heap.size, 0, none⟩) z0 := I16d; have K16 : Below w.heap.size w u16 := K15.trans (L16.mono K15.size); have KW16 : Below W.heap.size W u16 := KW15.trans (L16.mono KW15.size))
      refine hK.out _ _ ?_ (fun hHeld2 => ?_)
      · first | exact HB.out.on KW18 hb0 | exact HB.out.on KW17 hb0 | exact HB.out.on KW16 hb0
      clear hK K hHeld
      have hHeld := hHeld2
      clear hHeld2
      refine wpAnyH_ready (rs := [3]) (by kernel_rfl) (by simp) ?_
      refine AllReadyH.cons rfl (fun K hK => ?_) AllReadyH.nil
      go_simp
      go_wp2_with (go_at_call 16; (with_reducible refine (HTH.out _).mono ?_); rintro e u17 ⟨rfl, L17⟩; have I17 := I16.on L17; have K17 : Below w.heap.size w u17 := K16.trans (L17.mono K16.size); have KW17 : Below W.heap.size W u17 := KW16.trans (L17.mono KW16.size))
      refine hK.out _ _ ?_ (fun hHeld2 => ?_)
      · first | exact HB.out.on KW18 hb0 | exact HB.out.on KW17 hb0 | exact HB.out.on KW16 hb0
      clear hK K hHeld
      have hHeld := hHeld2
      clear hHeld2
      refine wpAnyH_ready (rs := [4]) (by kernel_rfl) (by simp) ?_
      refine AllReadyH.cons rfl (fun K hK => ?_) AllReadyH.nil
      go_simp
      go_wp2_with (go_at_call 17; (with_reducible refine (HIM.out _ _ _ _ I17).mono ?_); rintro e u18 ⟨⟨v18, rfl, O18⟩, L18⟩; have K18 : Below w.heap.size w u18 := K17.trans (L18.mono K17.size); have KW18 : Below W.heap.size W u18 := KW17.trans (L18.mono KW17.size))
      refine hK.out _ _ ?_ (fun hHeld2 => ?_)
      · first | exact HB.out.on KW18 hb0 | exact HB.out.on KW17 hb0 | exact HB.out.on KW16 hb0
      clear hK K hHeld
      have hHeld := hHeld2
      clear hHeld2
      refine wpAnyH_take (i := 5) (v := .tuple #[v18, .bool false]) rfl (by kernel_rfl) (by kernel_rfl) (by kernel_rfl) (fun _ _ _ h => h) (Or.inl ⟨by kernel_rfl, fun w hSw => by first | (go_simp; done) | (dsimp only at hSw; obtain ⟨x0, x1, x2, x3, x4, x5, x6⟩ := hSw; go_simp; done) | rfl⟩) (by assumption) ?_
      simp only [Act.put, List.getElem_toArray, List.getElem_cons_succ, List.getElem_cons_zero, List.setIfInBounds_toArray, List.set_cons_succ, List.set_cons_zero]
      refine wpAnyH_take (i := 6) (v := v18) rfl (by kernel_rfl) (by kernel_rfl) (by kernel_rfl) (fun _ _ _ h => h) (Or.inl ⟨by kernel_rfl, fun w hSw => by first | (go_simp; done) | (dsimp only at hSw; obtain ⟨x0, x1, x2, x3, x4, x5, x6⟩ := hSw; go_simp; done) | rfl⟩) (by assumption) ?_
      simp only [Act.put, List.getElem_toArray, List.getElem_cons_succ, List.getElem_cons_zero, List.setIfInBounds_toArray, List.set_cons_succ, List.set_cons_zero]
      refine wpAnyH_take (i := 7) (v := .bool false) rfl (by kernel_rfl) (by kernel_rfl) (by kernel_rfl) (fun _ _ _ h => h) (Or.inl ⟨by kernel_rfl, fun w hSw => by first | (go_simp; done) | (dsimp only at hSw; obtain ⟨x0, x1, x2, x3, x4, x5, x6⟩ := hSw; go_simp; done) | rfl⟩) (by assumption) ?_
      simp only [Act.put, List.getElem_toArray, List.getElem_cons_succ, List.getElem_cons_zero, List.setIfInBounds_toArray, List.set_cons_succ, List.set_cons_zero]
      refine wpAnyH_take (i := 8) (v := v18) rfl (by kernel_rfl) (by kernel_rfl) (by kernel_rfl) (fun _ _ _ h => h) (Or.inl ⟨by kernel_rfl, fun w hSw => by first | (go_simp; done) | (dsimp only at hSw; obtain ⟨x0, x1, x2, x3, x4, x5, x6⟩ := hSw; go_simp; done) | rfl⟩) (by assumption) ?_
      simp only [Act.put, List.getElem_toArray, List.getElem_cons_succ, List.getElem_cons_zero, List.setIfInBounds_toArray, List.set_cons_succ, List.set_cons_zero]
      refine wpAnyH_take (i := 9) (v := .bool false) rfl (by kernel_rfl) (by kernel_rfl) (by kernel_rfl) (fun _ _ _ h => h) (Or.inl ⟨by kernel_rfl, fun w hSw => by first | (go_simp; done) | (dsimp only at hSw; obtain ⟨x0, x1, x2, x3, x4, x5, x6⟩ := hSw; go_simp; done) | rfl⟩) (by assumption) ?_
      simp only [Act.put, List.getElem_toArray, List.getElem_cons_succ, List.getElem_cons_zero, List.setIfInBounds_toArray, List.set_cons_succ, List.set_cons_zero]
      refine wpAnyH_done (by kernel_rfl) ?_ _
      clear hHeld
      obtain ⟨ha, hc, rfl, G18⟩ := Se.own_holds O18
      have LL : Below u14.heap.size u14 u18 := (Below.refl _ _).drew.trans ((L16.trans ((Pk.join_below L17 L18).mono L16.size)).mono (Nat.le_refl _))
      have S18 := S13.on LL
      have X18 := X13.on LL hg13
      have hg18 := Nat.lt_of_lt_of_le hg13 LL.size
      clear S13 X13 O18 I16 I16d I17
      go_wp2_with fail
      refine (Se.eqHoldS_same ha va s hc vc _ hq G18 S18).mono ?_
      rintro e u19 ⟨rfl, L19⟩
      have K19 : Below w.heap.size w u19 := K18.trans (L19.mono K18.size)
      have KW19 : Below W.heap.size W u19 := KW18.trans (L19.mono KW18.size)
      have X19 := X18.on L19 hg18
      go_wp2_with fail
      refine (Se.heldHoldS_val ga g s.length gc _ (by omega) HA.out X19).mono ?_
      rintro e u20 ⟨rfl, rfl⟩
      go_wp2
      go_ret
      exact ⟨rfl, K19⟩
    case true =>
      go_wp2_with fail
      refine (Se.eqHoldS_same ga va s gc vc _ hq G7 S7).mono ?_
      rintro e u8 ⟨rfl, L8⟩
      have K8 : Below w.heap.size w u8 := K7.trans (L8.mono K7.size)
      have KW8 : Below W.heap.size W u8 := KW7.trans (L8.mono KW7.size)
      have S8 := S7.on L8
      have G8 := G7.on L8
      have I8 := I7.on L8
      have R8 := R7.on L8 h7
      have h8 := Nat.lt_of_lt_of_le h7 L8.size
      clear S7 G7 I7 R7
      go_wp2_with fail
      refine (HTO.out _ K8).mono ?_
      rintro e u9 ⟨rfl, L9, J9, -, -⟩
      have K9 : Below w.heap.size w u9 := K8.trans (L9.mono K8.size)
      have KW9 : Below W.heap.size W u9 := KW8.trans (L9.mono KW8.size)
      have S9 := S8.on L9
      have G9 := G8.on L9
      have I9 := I8.on L9
      have R9 := R8.on L9 h8
      have h9 := Nat.lt_of_lt_of_le h8 L9.size
      have M9 := Pk.join_below L8 L9
      clear S8 G8 I8 R8 L8 L9
      go_wp2_with fail
      refine (Se.eqHoldS_same _ _ z0 _ _ _ hz I9 J9).mono ?_
      rintro e u10 ⟨rfl, L10⟩
      have K10 : Below w.heap.size w u10 := K9.trans (L10.mono K9.size)
      have KW10 : Below W.heap.size W u10 := KW9.trans (L10.mono KW9.size)
      have S10 := S9.on L10
      have G10 := G9.on L10
      have R10 := R9.on L10 h9
      have h10 := Nat.lt_of_lt_of_le h9 L10.size
      have M10 := Pk.join_below M9 L10
      clear S9 G9 I9 J9 R9 L10 M9
      go_wp2_with fail
      refine (Se.markHoldS_val (some ⟨u4.heap.size, 0, none⟩) u4.heap.size z0.length _ _ (by omega) (Or.inr ⟨rfl, R10⟩)).mono ?_
      rintro e u11 ⟨rfl, D11, -⟩
      have K11 := K10.trans (D11.below.mono HK4.out)
      have KW11 := KW10.trans (D11.below.mono HWZ.out)
      have S11 := S10.band D11 fun b o hv hne => Or.inl (HV.out b o hv hne)
      have HGO11 : Hid (s.length = 0 ∨ (ga = some ⟨g, 0, none⟩ ∧ Pk.Room u11 g (s.length * 7))) := by
        rcases HGO.out with h | ⟨h1, h2, h3⟩
        · exact Or.inl h
        · exact Or.inr ⟨h1, Se.Room.band (h3.on M10 hg7) D11 (by omega)⟩
      have G11 := G10.band D11 fun b o hv hne => by
        rcases HGO.out with h | ⟨h1, h2, -⟩
        · exact absurd (List.eq_nil_of_length_eq_zero h) hne
        · rw [h1] at hv
          simp only [Option.some.injEq, Addr.mk.injEq] at hv
          omega
      have hg11 : g < u11.heap.size := by have := D11.size; have := M10.size; omega
      clear S10 G10 R10 D11 M10 HGO
      go_wp2_with fail
      refine (Se.eqHoldS_same ga va s gc vc _ hq G11 S11).mono ?_
      rintro e u12 ⟨rfl, L12⟩
      have K12 : Below w.heap.size w u12 := K11.trans (L12.mono K11.size)
      have KW12 : Below W.heap.size W u12 := KW11.trans (L12.mono KW11.size)
      have S12 := S11.on L12
      have HGO12 : Hid (s.length = 0 ∨ (ga = some ⟨g, 0, none⟩ ∧ Pk.Room u12 g (s.length * 7))) := HGO11.out.imp_right fun ⟨h1, h2⟩ => ⟨h1, h2.on L12 hg11⟩
      have hg12 := Nat.lt_of_lt_of_le hg11 L12.size
      clear S11 G11 L12 HGO11
      go_wp2_with fail
      refine (Se.markHoldS_val ga g s.length gc _ (by omega) HGO12.out).mono ?_
      rintro e u13 ⟨rfl, D13, X13⟩
      have K13 := K12.trans (D13.below.mono (Nat.le_trans HK4.out hg4))
      have KW13 := KW12.trans (D13.below.mono (Nat.le_trans HWZ.out hg4))
      have S13 : Se.Holds u13 va s := S12.band D13 fun b o hv hne => Or.inl (by have := HV.out b o hv hne; omega)
      have hg13 : g < u13.heap.size := by have := D13.size; omega
      clear S12 D13 HGO12
      go_wp2_with fail
      refine (Se.heldHoldS_val ga g s.length gc _ (by omega) HA.out X13).mono ?_
      rintro e u14 ⟨rfl, rfl⟩
      go_wp2
      have K15 : Below w.heap.size w u14.drew := K13.drew
      have KW15 : Below W.heap.size W u14.drew := KW13.drew
      refine wp_region_held_drew (S := (fun w' => Se.Bx w' w.heap.size p1)) (by kernel_rfl) ?_ (fun hHeld => ?_)
      · exact HB.out.on KW15 hb0
      refine wpAnyH_take (i := 0) (v := .slice a0 z0.length cap0) rfl (by kernel_rfl) (by kernel_rfl) (by kernel_rfl) (fun _ _ _ h => h) (Or.inl ⟨by kernel_rfl, fun w hSw => by first | (go_simp; done) | (dsimp only at hSw; obtain ⟨x0, x1, x2, x3, x4, x5, x6⟩ := hSw; go_simp; done) | rfl⟩) (by assumption) ?_
      simp only [Act.put, List.getElem_toArray, List.getElem_cons_succ, List.getElem_cons_zero, List.setIfInBounds_toArray, List.set_cons_succ, List.set_cons_zero]
      refine wpAnyH_take (i := 2) (v := .agg #[.int .i64 p1.tr, .int .i64 p1.dy, .int .i64 p1.co, .int .i64 p1.se, .int .i64 p1.ba, .int .i64 p1.be, .int .i64 p1.od]) rfl (by kernel_rfl) (by kernel_rfl) (by kernel_rfl) (fun _ _ _ h => h) (Or.inl ⟨by kernel_rfl, fun w hSw => by first | (go_simp; done) | (dsimp only at hSw; obtain ⟨x0, x1, x2, x3, x4, x5, x6⟩ := hSw; go_simp; done) | rfl⟩) (by assumption) ?_
      simp only [Act.put, List.getElem_toArray, List.getElem_cons_succ, List.getElem_cons_zero, List.setIfInBounds_toArray, List.set_cons_succ, List.set_cons_zero]
      refine wpAnyH_ready (rs := [1]) (by kernel_rfl) (by simp) ?_
      refine AllReadyH.cons rfl (fun K hK => ?_) AllReadyH.nil
      go_simp
      go_wp2_with (go_at_call 10; (with_reducible refine (HTO.out _ K15).mono ?_); rintro e u16 ⟨rfl, L16, I16d, -, -⟩; have I16 : Se.Holds u16 (some ⟨u14.heap.size, 0, none⟩) z0 := I16d; have K16 : Below w.heap.size w u16 := K15.trans (L16.mono K15.size); have KW16 : Below W.heap.size W u16 := KW15.trans (L16.mono KW15.size))
      refine hK.out _ _ ?_ (fun hHeld2 => ?_)
      · first | exact HB.out.on KW18 hb0 | exact HB.out.on KW17 hb0 | exact HB.out.on KW16 hb0
      clear hK K hHeld
      have hHeld := hHeld2
      clear hHeld2
      refine wpAnyH_ready (rs := [3]) (by kernel_rfl) (by simp) ?_
      refine AllReadyH.cons rfl (fun K hK => ?_) AllReadyH.nil
      go_simp
      go_wp2_with (go_at_call 16; (with_reducible refine (HTH.out _).mono ?_); rintro e u17 ⟨rfl, L17⟩; have I17 := I16.on L17; have K17 : Below w.heap.size w u17 := K16.trans (L17.mono K16.size); have KW17 : Below W.heap.size W u17 := KW16.trans (L17.mono KW16.size))
      refine hK.out _ _ ?_ (fun hHeld2 => ?_)
      · first | exact HB.out.on KW18 hb0 | exact HB.out.on KW17 hb0 | exact HB.out.on KW16 hb0
      clear hK K hHeld
      have hHeld := hHeld2
      clear hHeld2
      refine wpAnyH_ready (rs := [4]) (by kernel_rfl) (by simp) ?_
      refine AllReadyH.cons rfl (fun K hK => ?_) AllReadyH.nil
      go_simp
      go_wp2_with (go_at_call 17; (with_reducible refine (HIM.out _ _ _ _ I17).mono ?_); rintro e u18 ⟨⟨v18, rfl, O18⟩, L18⟩; have K18 : Below w.heap.size w u18 := K17.trans (L18.mono K17.size); have KW18 : Below W.heap.size W u18 := KW17.trans (L18.mono KW17.size))
      refine hK.out _ _ ?_ (fun hHeld2 => ?_)
      · first | exact HB.out.on KW18 hb0 | exact HB.out.on KW17 hb0 | exact HB.out.on KW16 hb0
      clear hK K hHeld
      have hHeld := hHeld2
      clear hHeld2
      refine wpAnyH_take (i := 5) (v := .tuple #[v18, .bool true]) rfl (by kernel_rfl) (by kernel_rfl) (by kernel_rfl) (fun _ _ _ h => h) (Or.inl ⟨by kernel_rfl, fun w hSw => by first | (go_simp; done) | (dsimp only at hSw; obtain ⟨x0, x1, x2, x3, x4, x5, x6⟩ := hSw; go_simp; done) | rfl⟩) (by assumption) ?_
      simp only [Act.put, List.getElem_toArray, List.getElem_cons_succ, List.getElem_cons_zero, List.setIfInBounds_toArray, List.set_cons_succ, List.set_cons_zero]
      refine wpAnyH_take (i := 6) (v := v18) rfl (by kernel_rfl) (by kernel_rfl) (by kernel_rfl) (fun _ _ _ h => h) (Or.inl ⟨by kernel_rfl, fun w hSw => by first | (go_simp; done) | (dsimp only at hSw; obtain ⟨x0, x1, x2, x3, x4, x5, x6⟩ := hSw; go_simp; done) | rfl⟩) (by assumption) ?_
      simp only [Act.put, List.getElem_toArray, List.getElem_cons_succ, List.getElem_cons_zero, List.setIfInBounds_toArray, List.set_cons_succ, List.set_cons_zero]
      refine wpAnyH_take (i := 7) (v := .bool true) rfl (by kernel_rfl) (by kernel_rfl) (by kernel_rfl) (fun _ _ _ h => h) (Or.inl ⟨by kernel_rfl, fun w hSw => by first | (go_simp; done) | (dsimp only at hSw; obtain ⟨x0, x1, x2, x3, x4, x5, x6⟩ := hSw; go_simp; done) | rfl⟩) (by assumption) ?_
      simp only [Act.put, List.getElem_toArray, List.getElem_cons_succ, List.getElem_cons_zero, List.setIfInBounds_toArray, List.set_cons_succ, List.set_cons_zero]
      refine wpAnyH_take (i := 8) (v := v18) rfl (by kernel_rfl) (by kernel_rfl) (by kernel_rfl) (fun _ _ _ h => h) (Or.inl ⟨by kernel_rfl, fun w hSw => by first | (go_simp; done) | (dsimp only at hSw; obtain ⟨x0, x1, x2, x3, x4, x5, x6⟩ := hSw; go_simp; done) | rfl⟩) (by assumption) ?_
      simp only [Act.put, List.getElem_toArray, List.getElem_cons_succ, List.getElem_cons_zero, List.setIfInBounds_toArray, List.set_cons_succ, List.set_cons_zero]
      refine wpAnyH_take (i := 9) (v := .bool true) rfl (by kernel_rfl) (by kernel_rfl) (by kernel_rfl) (fun _ _ _ h => h) (Or.inl ⟨by kernel_rfl, fun w hSw => by first | (go_simp; done) | (dsimp only at hSw; obtain ⟨x0, x1, x2, x3, x4, x5, x6⟩ := hSw; go_simp; done) | rfl⟩) (by assumption) ?_
      simp only [Act.put, List.getElem_toArray, List.getElem_cons_succ, List.getElem_cons_zero, List.setIfInBounds_toArray, List.set_cons_succ, List.set_cons_zero]
      refine wpAnyH_done (by kernel_rfl) ?_ _
      clear hHeld
      obtain ⟨ha, hc, rfl, G18⟩ := Se.own_holds O18
      have LL : Below u14.heap.size u14 u18 := (Below.refl _ _).drew.trans ((L16.trans ((Pk.join_below L17 L18).mono L16.size)).mono (Nat.le_refl _))
      have S18 := S13.on LL
      have X18 := X13.on LL hg13
      have hg18 := Nat.lt_of_lt_of_le hg13 LL.size
      clear S13 X13 O18 I16 I16d I17
      go_wp2_with fail
      refine (Se.eqHoldS_same ha va s hc vc _ hq G18 S18).mono ?_
      rintro e u19 ⟨rfl, L19⟩
      have K19 : Below w.heap.size w u19 := K18.trans (L19.mono K18.size)
      have KW19 : Below W.heap.size W u19 := KW18.trans (L19.mono KW18.size)
      have X19 := X18.on L19 hg18
      go_wp2_with fail
      refine (Se.heldHoldS_val ga g s.length gc _ (by omega) HA.out X19).mono ?_
      rintro e u20 ⟨rfl, rfl⟩
      go_wp2
      go_ret
      exact ⟨rfl, K19⟩
  · have HB : Hid (¬ z0.length ≤ 1048576) := hb
    have N := Pk.new_below w (.cells #[.int .i64 p1.tr, .int .i64 p1.dy, .int .i64 p1.co, .int .i64 p1.se, .int .i64 p1.ba, .int .i64 p1.be, .int .i64 p1.od] 40)
    clear hm hb
    go_enter Try.func4, Try.ntmps4
    go_wp2_with fail
    refine (Se.szHoldS_no a0 z0.length cap0 1048576 _ (by omega) (by omega) HM.out (by have := HB.out; omega)).mono ?_
    rintro e w1 ⟨rfl, rfl⟩
    go_wp2
    go_ret
    exact ⟨rfl, N⟩

set_option maxRecDepth 100000 in
theorem contract (H : Type) (enc : TypeId × Value → H) (W : World) (base : Nat) (args : Array Value) (ds gs : List (DataW H)) (before : List MemPlace)
    (hval : ∀ (j : Nat) t v, Try.f4.params[j]? = some t → args[j]? = some v → Value.okWide Try.prog W .any base t v)
    (hW : DataW.Whole enc Try.prog Try.f4.params.toList Rows.fnExactTakeSpec.vars false W args.toList ds gs before) :
    Calls Try.prog 4 args W fun e W' => ∃ v, e = .returned v ∧ Rows.fnExactTakeSpec.post enc Try.prog Try.f4 false true false false W args v W' := by
  have hW' := hW
  obtain ⟨p, q, hA0, hV, rfl, hfz, hnd⟩ := hW
  have hA : DataW.TrodAll enc Try.prog W 0 (fun _ => true) true Try.f4.params.toList args.toList ds p := hA0
  rw [Try.params4] at hA hval
  obtain ⟨v0, vs0, d0, ds0, p0, q0, hargs, rfl, rfl, h0, r0⟩ := trodAll_cons hA
  obtain ⟨v1, vs1, d1, ds1, p1, q1, rfl, rfl, rfl, h1, r1⟩ := trodAll_cons r0
  obtain ⟨rfl, rfl, rfl⟩ := trodAll_nil r1
  obtain rfl : args = #[v0, v1] := by cases args; simp_all
  obtain ⟨rfl, rfl⟩ := trodVars_none hV
  have k0 := h0
  have lt0 : ∀ x ∈ p0, x.block < W.heap.size := by obtain ⟨m, hm⟩ := k0; exact DataW.trod_lt m _ _ _ hm
  obtain ⟨a0, len0, cap0, rfl⟩ := okWide_slice Try.underlying22 (hval 0 22 v0 rfl rfl)
  obtain ⟨z0, w0, rfl⟩ : ∃ zs : List Se.Hl, (Se.Holds W a0 zs ∧ zs.length ≤ maxLen ∧ Se.Wfs zs) ∧ zs.length = len0 := by
    obtain ⟨fuel, hf⟩ := h0
    obtain ⟨a, cap, ts, e, hh⟩ := Se.holds_open hf
    simp [Value.cells] at e
    obtain ⟨rfl, rfl, rfl⟩ := e
    exact ⟨ts, ⟨hh.2.1, hh.1, hh.2.2⟩, rfl⟩
  have k1 := h1
  have lt1 : ∀ x ∈ p1, x.block < W.heap.size := by obtain ⟨m, hm⟩ := k1; exact DataW.trod_lt m _ _ _ hm
  obtain ⟨p1_, rfl, wp1⟩ := Se.hold_open (hval 1 40 v1 rfl rfl) h1
  clear hA0
  refine (walk a0 cap0 z0 p1_ wp1 W w0 ).mono fun e W' ⟨he, bel⟩ => ?_
  subst he
  exact ⟨_, rfl, _, _, _, [], _, [], hW', trodAll_mk1 (shut_bool Try.underlying4 _), (trodAll_cons_mk (Below.trod Errs.laidOut (by kernel_rfl) (of_decide_eq_true (by kernel_rfl)) k0 bel lt0) (trodAll_cons_mk (Below.trod Errs.laidOut (by kernel_rfl) (of_decide_eq_true (by kernel_rfl)) k1 bel lt1) trodAll_mk0)), rfl, bel.frame _, fun h => by cases h⟩

set_option maxRecDepth 100000 in
theorem lifted (os : Os) (started : os.Started) (H : Type) (enc : TypeId × Value → H) :
    ReturnsInHanded {} Try.checked os 4 .any (Rows.fnExactTakeSpec.pre6 enc Try.prog Try.f4 Rows.fnExactTakeRow.domain false) (Rows.fnExactTakeSpec.post enc Try.prog Try.f4 false true false false) := by
  refine returnsInHanded_of_change (C := Try.checked) Errs.own started (by kernel_rfl) Try.func4
    (ChangeSpec.witness6 (enc := enc) (C := Try.checked) false ⟨#[], #[.slice none 0 0, .agg #[.int .i64 0, .int .i64 0, .int .i64 0, .int .i64 0, .int .i64 0, .int .i64 0, .int .i64 0]], []⟩ 8 (by kernel_rfl) (by kernel_rfl) (by kernel_rfl) (by kernel_rfl)) ?_
  intro W base args ds gs before hval hW _ _
  exact contract H enc W base args ds gs before hval hW

set_option maxRecDepth 100000 in
theorem over : Rows.fnExactTakeRow.holds Try.pinned (OpenSpec.ofChange Rows.fnExactTakeSpec) :=
  OpenClaim.holds_of_wide 4 Try.f4 rfl rfl rfl rfl rfl rfl rfl ⟨rfl, rfl, rfl, rfl, rfl⟩ rfl rfl rfl rfl rfl (by kernel_rfl) Try.func4 (by kernel_rfl)
    (of_decide_eq_true (by kernel_rfl)) (by unfold Func.isWrapper; first | (rw [if_pos (by decide +kernel)]; kernel_rfl) | (rw [if_neg (by decide +kernel)]; exact ⟨rfl, rfl⟩))
    (fun os started H enc _ => lifted os started H enc)
end Go.Proofs.Ytikdganlpedbeaq.fnExactTake
namespace Go.Proofs.Ytikdganlpedbeaq
theorem FnExactTake_holds : Rows.FnExactTakeSaid := fnExactTake.over
end Go.Proofs.Ytikdganlpedbeaq

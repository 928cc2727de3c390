/- For every list of holds, every train, day and two numbers the law of BestSeat answers true: the program's BestSeat and its model return the same, and neither the list nor the train is turned. No condition. -/
import Derived.Test.YtikdganlpedbeaqErrs
import Derived.ShutString
import Derived.Lib.SmallJoins
import Derived.Test.YtikdganlpedbeaqSeOpen
import Derived.Test.YtikdganlpedbeaqTnOpen
import Derived.Test.YtikdganlpedbeaqSeBestI
namespace Go.Proofs.Ytikdganlpedbeaq.fnExactBestSeat
open Go.ChangeShapes Go.WideShapes Go.ChangeAt Go.RowKit Go.Joins
open Go.ChangeMaps (open_string shut_string)
set_option linter.unusedVariables false
set_option linter.unusedSimpArgs false

set_option maxRecDepth 100000 in
set_option maxHeartbeats 4000000 in
theorem walk (a0 : Option Addr) (cap0 : Nat) (z0 : List Se.Hl) (a1 : Tn.Hd) (b1 : Option Addr) (cap1 : Nat) (z1 : List Tn.St) (a2 : Int) (w2 : (Lit.int .i64 a2).wf = true) (a3 : Int) (w3 : (Lit.int .i64 a3).wf = true) (a4 : Int) (w4 : (Lit.int .i64 a4).wf = true) (w : World) (w0 : Se.Holds w a0 z0 ∧ z0.length ≤ maxLen ∧ Se.Wfs z0) (w1 : Tn.Stops w b1 z1 ∧ z1.length ≤ maxLen)  :
    Calls Try.prog 3 #[.slice a0 z0.length cap0, Tn.trV a1 b1 z1.length cap1, .int .i64 a2, .int .i64 a3, .int .i64 a4] w fun e w' => e = .returned (.bool true) ∧ Below w.heap.size w w' := by
  obtain ⟨I, hm, hwf⟩ := w0
  obtain ⟨J, hs⟩ := w1
  have HM : Hid (z0.length ≤ maxLen) := hm
  have HS1 : Hid (z1.length ≤ maxLen) := hs
  by_cases hb : z0.length ≤ 1048576
  · by_cases hc : (z1.length : Int) ≤ 1048576 - (z0.length : Int)
    · have hz0 : z0.length ≤ 1048576 := hb
      have hz1 : z1.length ≤ 1048576 := by omega
      have hd : decide (1048576 - (z0.length : Int) < 0) = false := decide_eq_false (by omega)
      have hd2 : decide (1048576 - (z0.length : Int) - (z1.length : Int) < 0) = false := decide_eq_false (by omega)
      have HC : Hid ((z1.length : Int) ≤ 1048576 - (z0.length : Int)) := hc
      have N := Pk.new_below w (Tn.trB a1 b1 z1.length cap1 25)
      have HB : Hid (Se.Tbx (w.alloc (Tn.trB a1 b1 z1.length cap1 25)) w.heap.size a1 b1 z1.length cap1) := Se.Tbx.of (Pk.heap_new _ _)
      have hb0 : w.heap.size < (w.alloc (Tn.trB a1 b1 z1.length cap1 25)).heap.size := by simp
      have HTO : Hid (∀ wx, Below w.heap.size w wx → _) := fun wx (L : Below w.heap.size w wx) => Se.toHoldS_val a0 z0 cap0 wx hz0 (I.on L)
      have HTT : Hid (∀ wx, Below w.heap.size w wx → _) := fun wx (L : Below w.heap.size w wx) => Tn.toTrain_val a1 b1 z1 cap1 wx hz1 (J.on L)
      have HSP : Hid (∀ wx ea ec ta, Se.Holds wx ea z0 → Tn.Stops wx ta z1 → Calls Try.prog 9 #[.slice ea z0.length ec, Tn.trV a1 ta z1.length z1.length, .int .i64 a2, .int .i64 a3, .int .i64 a4] wx fun e w' => e = .returned (.tuple #[.int .i64 ((Se.bestP (Se.resL z0 a1 z1 a2 a3 a4) (Se.gapV z0 z1.length)).co), .int .i64 ((Se.bestP (Se.resL z0 a1 z1 a2 a3 a4) (Se.gapV z0 z1.length)).se), .bool (decide (0 < (Se.resL z0 a1 z1 a2 a3 a4).length))]) ∧ Below wx.heap.size wx w') := fun wx ea ec ta h1 h2 => Se.specBest_val ea z0 ec a1 ta z1 z1.length a2 a3 a4 wx hz0 HS1.out h1 h2 hwf
      have HIP : Hid (∀ wx ea ec ta, Se.Holds wx ea z0 → Tn.Stops wx ta z1 → Calls Try.prog 12 #[.slice ea z0.length ec, Tn.trV a1 ta z1.length z1.length, .int .i64 a2, .int .i64 a3, .int .i64 a4] wx fun e w' => e = .returned (.tuple #[.int .i64 ((Se.bestP (Se.resL z0 a1 z1 a2 a3 a4) (Se.gapV z0 z1.length)).co), .int .i64 ((Se.bestP (Se.resL z0 a1 z1 a2 a3 a4) (Se.gapV z0 z1.length)).se), .bool (decide (0 < (Se.resL z0 a1 z1 a2 a3 a4).length))]) ∧ Below wx.heap.size wx w') := fun wx ea ec ta h1 h2 => Se.implBest_val ea z0 ec a1 ta z1 z1.length a2 a3 a4 wx hz0 HS1.out h1 h2 hwf
      clear hm hs hb hc hwf
      generalize (Se.bestP (Se.resL z0 a1 z1 a2 a3 a4) (Se.gapV z0 z1.length)).co = R0 at *
      generalize (Se.bestP (Se.resL z0 a1 z1 a2 a3 a4) (Se.gapV z0 z1.length)).se = R1 at *
      generalize decide (0 < (Se.resL z0 a1 z1 a2 a3 a4).length) = R2 at *
      go_enter Try.func3, Try.ntmps3
      go_wp2_with fail
      refine (Se.szHoldS_yes a0 z0.length cap0 1048576 _ (by omega) (by omega)).mono ?_
      rintro e u1 ⟨rfl, rfl⟩
      go_wp2_with fail
      refine (Tn.szTrain_yes a1 b1 z1.length cap1 _ _ (by omega) HC.out).mono ?_
      rintro e u2 ⟨rfl, L2⟩
      have K2' := Pk.join_below N L2
      generalize w.alloc (Tn.trB a1 b1 z1.length cap1 25) = W at *
      go_wp2
      have K2 : Below w.heap.size w u2.drew := K2'.drew
      have KW2 : Below W.heap.size W u2.drew := L2.drew
      refine wp_region_held_drew (S := (fun w' => Se.Tbx w' w.heap.size a1 b1 z1.length cap1)) (by kernel_rfl) ?_ (fun hHeld => ?_)
      · exact HB.out.on KW2 hb0
      refine wpAnyH_take (i := 0) (v := .slice a0 z0.length cap0) rfl (by kernel_rfl) (by kernel_rfl) (by kernel_rfl) (fun _ _ _ h => h) (Or.inl ⟨by kernel_rfl, fun w hSw => by first | (go_simp; done) | (dsimp only at hSw; obtain ⟨x0, x1, x2, x3, x4⟩ := hSw; go_simp; done) | rfl⟩) (by assumption) ?_
      simp only [Act.put, List.getElem_toArray, List.getElem_cons_succ, List.getElem_cons_zero, List.setIfInBounds_toArray, List.set_cons_succ, List.set_cons_zero]
      refine wpAnyH_take (i := 2) (v := .agg #[.int .i64 a1.id, .int .i64 a1.dy, .int .i64 a1.co, .int .i64 a1.se, .slice b1 z1.length cap1]) rfl (by kernel_rfl) (by kernel_rfl) (by kernel_rfl) (fun _ _ _ h => h) (Or.inl ⟨by kernel_rfl, fun w hSw => by first | (go_simp; done) | (dsimp only at hSw; obtain ⟨x0, x1, x2, x3, x4⟩ := hSw; go_simp; done) | rfl⟩) (by assumption) ?_
      simp only [Act.put, List.getElem_toArray, List.getElem_cons_succ, List.getElem_cons_zero, List.setIfInBounds_toArray, List.set_cons_succ, List.set_cons_zero]
      refine wpAnyH_take (i := 4) (v := .int .i64 a2) rfl (by kernel_rfl) (by kernel_rfl) (by kernel_rfl) (fun _ _ _ h => h) (Or.inl ⟨by kernel_rfl, fun w hSw => by first | (go_simp; done) | (dsimp only at hSw; obtain ⟨x0, x1, x2, x3, x4⟩ := hSw; go_simp; done) | rfl⟩) (by assumption) ?_
      simp only [Act.put, List.getElem_toArray, List.getElem_cons_succ, List.getElem_cons_zero, List.setIfInBounds_toArray, List.set_cons_succ, List.set_cons_zero]
      refine wpAnyH_take (i := 5) (v := .int .i64 a3) rfl (by kernel_rfl) (by kernel_rfl) (by kernel_rfl) (fun _ _ _ h => h) (Or.inl ⟨by kernel_rfl, fun w hSw => by first | (go_simp; done) | (dsimp only at hSw; obtain ⟨x0, x1, x2, x3, x4⟩ := hSw; go_simp; done) | rfl⟩) (by assumption) ?_
      simp only [Act.put, List.getElem_toArray, List.getElem_cons_succ, List.getElem_cons_zero, List.setIfInBounds_toArray, List.set_cons_succ, List.set_cons_zero]
      refine wpAnyH_take (i := 6) (v := .int .i64 a4) rfl (by kernel_rfl) (by kernel_rfl) (by kernel_rfl) (fun _ _ _ h => h) (Or.inl ⟨by kernel_rfl, fun w hSw => by first | (go_simp; done) | (dsimp only at hSw; obtain ⟨x0, x1, x2, x3, x4⟩ := hSw; go_simp; done) | rfl⟩) (by assumption) ?_
      simp only [Act.put, List.getElem_toArray, List.getElem_cons_succ, List.getElem_cons_zero, List.setIfInBounds_toArray, List.set_cons_succ, List.set_cons_zero]
      refine wpAnyH_ready (rs := [1]) (by kernel_rfl) (by simp) ?_
      refine AllReadyH.cons rfl (fun K hK => ?_) AllReadyH.nil
      go_simp
      go_wp2_with (go_at_call 10; (with_reducible refine (HTO.out _ K2).mono ?_); rintro e u3 ⟨rfl, L3, I3d, -, -⟩; have I3 : Se.Holds u3 (some ⟨u2.heap.size, 0, none⟩) z0 := I3d; have K3 : Below w.heap.size w u3 := K2.trans (L3.mono K2.size); have KW3 : Below W.heap.size W u3 := KW2.trans (L3.mono KW2.size))
      refine hK.out _ _ ?_ (fun hHeld2 => ?_)
      · first | exact HB.out.on KW5 hb0 | exact HB.out.on KW4 hb0 | exact HB.out.on KW3 hb0
      clear hK K hHeld
      have hHeld := hHeld2
      clear hHeld2
      refine wpAnyH_ready (rs := [3]) (by kernel_rfl) (by simp) ?_
      refine AllReadyH.cons rfl (fun K hK => ?_) AllReadyH.nil
      go_simp
      go_wp2_with (go_at_call 11; (with_reducible refine (HTT.out _ K3).mono ?_); rintro e u4 ⟨g4, rfl, -, L4, -, J4, -⟩; have I4 := I3.on L4; have K4 : Below w.heap.size w u4 := K3.trans (L4.mono K3.size); have KW4 : Below W.heap.size W u4 := KW3.trans (L4.mono KW3.size))
      refine hK.out _ _ ?_ (fun hHeld2 => ?_)
      · first | exact HB.out.on KW5 hb0 | exact HB.out.on KW4 hb0 | exact HB.out.on KW3 hb0
      clear hK K hHeld
      have hHeld := hHeld2
      clear hHeld2
      refine wpAnyH_ready (rs := [7]) (by kernel_rfl) (by simp) ?_
      refine AllReadyH.cons rfl (fun K hK => ?_) AllReadyH.nil
      go_simp
      go_wp2_with (go_at_call 9; (with_reducible refine (HSP.out _ _ _ _ I4 J4).mono ?_); rintro e u5 ⟨rfl, L5⟩; have K5 : Below w.heap.size w u5 := K4.trans (L5.mono K4.size); have KW5 : Below W.heap.size W u5 := KW4.trans (L5.mono KW4.size))
      refine hK.out _ _ ?_ (fun hHeld2 => ?_)
      · first | exact HB.out.on KW5 hb0 | exact HB.out.on KW4 hb0 | exact HB.out.on KW3 hb0
      clear hK K hHeld
      have hHeld := hHeld2
      clear hHeld2
      refine wpAnyH_take (i := 8) (v := .tuple #[.int .i64 R0, .int .i64 R1, .bool R2]) rfl (by kernel_rfl) (by kernel_rfl) (by kernel_rfl) (fun _ _ _ h => h) (Or.inl ⟨by kernel_rfl, fun w hSw => by first | (go_simp; done) | (dsimp only at hSw; obtain ⟨x0, x1, x2, x3, x4⟩ := hSw; go_simp; done) | rfl⟩) (by assumption) ?_
      simp only [Act.put, List.getElem_toArray, List.getElem_cons_succ, List.getElem_cons_zero, List.setIfInBounds_toArray, List.set_cons_succ, List.set_cons_zero]
      refine wpAnyH_take (i := 9) (v := .int .i64 R0) rfl (by kernel_rfl) (by kernel_rfl) (by kernel_rfl) (fun _ _ _ h => h) (Or.inl ⟨by kernel_rfl, fun w hSw => by first | (go_simp; done) | (dsimp only at hSw; obtain ⟨x0, x1, x2, x3, x4⟩ := hSw; go_simp; done) | rfl⟩) (by assumption) ?_
      simp only [Act.put, List.getElem_toArray, List.getElem_cons_succ, List.getElem_cons_zero, List.setIfInBounds_toArray, List.set_cons_succ, List.set_cons_zero]
      refine wpAnyH_take (i := 10) (v := .int .i64 R1) rfl (by kernel_rfl) (by kernel_rfl) (by kernel_rfl) (fun _ _ _ h => h) (Or.inl ⟨by kernel_rfl, fun w hSw => by first | (go_simp; done) | (dsimp only at hSw; obtain ⟨x0, x1, x2, x3, x4⟩ := hSw; go_simp; done) | rfl⟩) (by assumption) ?_
      simp only [Act.put, List.getElem_toArray, List.getElem_cons_succ, List.getElem_cons_zero, List.setIfInBounds_toArray, List.set_cons_succ, List.set_cons_zero]
      refine wpAnyH_take (i := 11) (v := .bool R2) rfl (by kernel_rfl) (by kernel_rfl) (by kernel_rfl) (fun _ _ _ h => h) (Or.inl ⟨by kernel_rfl, fun w hSw => by first | (go_simp; done) | (dsimp only at hSw; obtain ⟨x0, x1, x2, x3, x4⟩ := hSw; go_simp; done) | rfl⟩) (by assumption) ?_
      simp only [Act.put, List.getElem_toArray, List.getElem_cons_succ, List.getElem_cons_zero, List.setIfInBounds_toArray, List.set_cons_succ, List.set_cons_zero]
      refine wpAnyH_take (i := 12) (v := .int .i64 R0) rfl (by kernel_rfl) (by kernel_rfl) (by kernel_rfl) (fun _ _ _ h => h) (Or.inl ⟨by kernel_rfl, fun w hSw => by first | (go_simp; done) | (dsimp only at hSw; obtain ⟨x0, x1, x2, x3, x4⟩ := hSw; go_simp; done) | rfl⟩) (by assumption) ?_
      simp only [Act.put, List.getElem_toArray, List.getElem_cons_succ, List.getElem_cons_zero, List.setIfInBounds_toArray, List.set_cons_succ, List.set_cons_zero]
      refine wpAnyH_take (i := 13) (v := .int .i64 R1) rfl (by kernel_rfl) (by kernel_rfl) (by kernel_rfl) (fun _ _ _ h => h) (Or.inl ⟨by kernel_rfl, fun w hSw => by first | (go_simp; done) | (dsimp only at hSw; obtain ⟨x0, x1, x2, x3, x4⟩ := hSw; go_simp; done) | rfl⟩) (by assumption) ?_
      simp only [Act.put, List.getElem_toArray, List.getElem_cons_succ, List.getElem_cons_zero, List.setIfInBounds_toArray, List.set_cons_succ, List.set_cons_zero]
      refine wpAnyH_take (i := 14) (v := .bool R2) rfl (by kernel_rfl) (by kernel_rfl) (by kernel_rfl) (fun _ _ _ h => h) (Or.inl ⟨by kernel_rfl, fun w hSw => by first | (go_simp; done) | (dsimp only at hSw; obtain ⟨x0, x1, x2, x3, x4⟩ := hSw; go_simp; done) | rfl⟩) (by assumption) ?_
      simp only [Act.put, List.getElem_toArray, List.getElem_cons_succ, List.getElem_cons_zero, List.setIfInBounds_toArray, List.set_cons_succ, List.set_cons_zero]
      refine wpAnyH_done (by kernel_rfl) ?_ _
      clear hHeld I3 I3d J4 I4 L3 L4 L5
      go_wp2_with fail
      refine (HTO.out _ K5).mono ?_
      rintro e u6 ⟨rfl, L6, I6, -, -⟩
      have K6 : Below w.heap.size w u6 := K5.trans (L6.mono K5.size)
      have KW6 : Below W.heap.size W u6 := KW5.trans (L6.mono KW5.size)
      obtain ⟨x0, x1, x2, x3, x4⟩ := HB.out.on KW6 hb0
      go_wp2_with fail
      refine (HTT.out _ K6).mono ?_
      rintro e u7 ⟨g7, rfl, -, L7, -, J7, -⟩
      have K7 : Below w.heap.size w u7 := K6.trans (L7.mono K6.size)
      have KW7 : Below W.heap.size W u7 := KW6.trans (L7.mono KW6.size)
      have I7 := I6.on L7
      have L8 := Pk.new_below u7 (Tn.trB a1 (some ⟨g7, 0, none⟩) z1.length z1.length 34)
      have HX : Hid (Se.Tbx (u7.alloc (Tn.trB a1 (some ⟨g7, 0, none⟩) z1.length z1.length 34)) u7.heap.size a1 (some ⟨g7, 0, none⟩) z1.length z1.length) := Se.Tbx.of (Pk.heap_new _ _)
      have hx8 : u7.heap.size < (u7.alloc (Tn.trB a1 (some ⟨g7, 0, none⟩) z1.length z1.length 34)).heap.size := by simp
      have K8 := K7.trans (L8.mono K7.size)
      have KW8 := KW7.trans (L8.mono KW7.size)
      have I8 := I7.on L8
      have J8 := J7.on L8
      clear x0 x1 x2 x3 x4 I6 I7 J7 L6 L7 L8
      go_wp2_with fail
      refine (HIP.out _ _ _ _ I8 J8).mono ?_
      generalize u7.alloc (Tn.trB a1 (some ⟨g7, 0, none⟩) z1.length z1.length 34) = u8 at *
      rintro e u9 ⟨rfl, L9⟩
      have K9 : Below w.heap.size w u9 := K8.trans (L9.mono K8.size)
      have KW9 : Below W.heap.size W u9 := KW8.trans (L9.mono KW8.size)
      have KX9 : Below u8.heap.size u8 u9 := L9
      have I9 := I8.on L9
      have JX9 := J8.on L9
      clear I8 J8
      cases R2
      all_goals
        go_wp2_with fail
        refine (HTO.out _ K9).mono ?_
        rintro e u10 ⟨rfl, L10, I10, -, -⟩
        have I11 := I9.on L10
        have K10 : Below w.heap.size w u10 := K9.trans (L10.mono K9.size)
        have KW10 : Below W.heap.size W u10 := KW9.trans (L10.mono KW9.size)
        go_wp2_with fail
        refine (Se.eqHoldS_same _ _ z0 _ _ _ hz0 I11 I10).mono ?_
        rintro e u11 ⟨rfl, L11⟩
        have K11 : Below w.heap.size w u11 := K10.trans (L11.mono K10.size)
        have KW11 : Below W.heap.size W u11 := KW10.trans (L11.mono KW10.size)
        have KX11 : Below u8.heap.size u8 u11 := KX9.trans ((Pk.join_below L10 L11).mono KX9.size)
        have JX11 := (JX9.on L10).on L11
        clear I10 I11 I9 L9 L10 L11
        go_wp2
        have K12 : Below w.heap.size w u11.drew := K11.drew
        have KW12 : Below W.heap.size W u11.drew := KW11.drew
        have KX12 : Below u8.heap.size u8 u11.drew := KX11.drew
        have JX12 : Tn.Stops u11.drew (some ⟨g7, 0, none⟩) z1 := JX11.on ((Below.refl _ _).drew)
        refine wp_region_held_drew (S := (fun w' => Se.Tbx w' u7.heap.size a1 (some ⟨g7, 0, none⟩) z1.length z1.length ∧ Se.Tbx w' w.heap.size a1 b1 z1.length cap1)) (by kernel_rfl) ?_ (fun hHeld => ?_)
        · exact ⟨HX.out.on KX12 hx8, HB.out.on KW12 hb0⟩
        refine wpAnyH_take (i := 0) (v := .agg #[.int .i64 a1.id, .int .i64 a1.dy, .int .i64 a1.co, .int .i64 a1.se, .slice (some ⟨g7, 0, none⟩) z1.length z1.length]) rfl (by kernel_rfl) (by kernel_rfl) (by kernel_rfl) (fun _ _ _ h => h) (Or.inl ⟨by kernel_rfl, fun w hSw => by first | (go_simp; done) | (dsimp only at hSw; obtain ⟨⟨x0, x1, x2, x3, x4⟩, ⟨y0, y1, y2, y3, y4⟩⟩ := hSw; go_simp; done) | rfl⟩) (by assumption) ?_
        simp only [Act.put, List.getElem_toArray, List.getElem_cons_succ, List.getElem_cons_zero, List.setIfInBounds_toArray, List.set_cons_succ, List.set_cons_zero]
        refine wpAnyH_take (i := 1) (v := .agg #[.int .i64 a1.id, .int .i64 a1.dy, .int .i64 a1.co, .int .i64 a1.se, .slice b1 z1.length cap1]) rfl (by kernel_rfl) (by kernel_rfl) (by kernel_rfl) (fun _ _ _ h => h) (Or.inl ⟨by kernel_rfl, fun w hSw => by first | (go_simp; done) | (dsimp only at hSw; obtain ⟨⟨x0, x1, x2, x3, x4⟩, ⟨y0, y1, y2, y3, y4⟩⟩ := hSw; go_simp; done) | rfl⟩) (by assumption) ?_
        simp only [Act.put, List.getElem_toArray, List.getElem_cons_succ, List.getElem_cons_zero, List.setIfInBounds_toArray, List.set_cons_succ, List.set_cons_zero]
        refine wpAnyH_ready (rs := [2]) (by kernel_rfl) (by simp) ?_
        refine AllReadyH.cons rfl (fun K hK => ?_) AllReadyH.nil
        go_simp
        go_wp2_with (go_at_call 11; (with_reducible refine (HTT.out _ K12).mono ?_); rintro e u13 ⟨g13, rfl, -, L13, -, J13, -⟩; have J14 := JX12.on L13; have K13 : Below w.heap.size w u13 := K12.trans (L13.mono K12.size); have KW13 : Below W.heap.size W u13 := KW12.trans (L13.mono KW12.size); have KX13 : Below u8.heap.size u8 u13 := KX12.trans (L13.mono KX12.size))
        refine hK.out _ _ ?_ (fun hHeld2 => ?_)
        · first | exact ⟨HX.out.on KX14 hx8, HB.out.on KW14 hb0⟩ | exact ⟨HX.out.on KX13 hx8, HB.out.on KW13 hb0⟩
        clear hK K hHeld
        have hHeld := hHeld2
        clear hHeld2
        refine wpAnyH_ready (rs := [3]) (by kernel_rfl) (by simp) ?_
        refine AllReadyH.cons rfl (fun K hK => ?_) AllReadyH.nil
        go_simp
        go_wp2_with (go_at_call 14; (with_reducible refine (Tn.eqTrain_same a1 _ _ z1 _ _ _ hz1 J14 J13).mono ?_); rintro e u14 ⟨rfl, L14⟩; have K14 : Below w.heap.size w u14 := K13.trans (L14.mono K13.size); have KW14 : Below W.heap.size W u14 := KW13.trans (L14.mono KW13.size); have KX14 : Below u8.heap.size u8 u14 := KX13.trans (L14.mono KX13.size))
        refine hK.out _ _ ?_ (fun hHeld2 => ?_)
        · first | exact ⟨HX.out.on KX14 hx8, HB.out.on KW14 hb0⟩ | exact ⟨HX.out.on KX13 hx8, HB.out.on KW13 hb0⟩
        clear hK K hHeld
        have hHeld := hHeld2
        clear hHeld2
        refine wpAnyH_take (i := 4) (v := .bool false) rfl (by kernel_rfl) (by kernel_rfl) (by kernel_rfl) (fun _ _ _ h => h) (Or.inl ⟨by kernel_rfl, fun w hSw => by first | (go_simp; done) | (dsimp only at hSw; obtain ⟨⟨x0, x1, x2, x3, x4⟩, ⟨y0, y1, y2, y3, y4⟩⟩ := hSw; go_simp; done) | rfl⟩) (by assumption) ?_
        simp only [Act.put, List.getElem_toArray, List.getElem_cons_succ, List.getElem_cons_zero, List.setIfInBounds_toArray, List.set_cons_succ, List.set_cons_zero]
        refine wpAnyH_done (by kernel_rfl) ?_ _
        clear hHeld
        go_wp2
        go_ret
        exact ⟨rfl, K14⟩
    · have HC : Hid (¬ (z1.length : Int) ≤ 1048576 - (z0.length : Int)) := hc
      have hd : decide (1048576 - (z0.length : Int) < 0) = false := decide_eq_false (by omega)
      have h0 : 0 ≤ 1048576 - (z0.length : Int) := by omega
      have N := Pk.new_below w (Tn.trB a1 b1 z1.length cap1 25)
      clear hm hs hc
      go_enter Try.func3, Try.ntmps3
      go_wp2_with fail
      refine (Se.szHoldS_yes a0 z0.length cap0 1048576 _ (by omega) (by omega)).mono ?_
      rintro e u1 ⟨rfl, rfl⟩
      go_wp2_with fail
      refine (Tn.szTrain_no a1 b1 z1.length cap1 _ _ (by omega) h0 HS1.out (by have := HC.out; omega)).mono ?_
      rintro e u2 ⟨rfl, L2⟩
      go_wp2
      go_ret
      exact ⟨rfl, Pk.join_below N L2⟩
  · have HB : Hid (¬ z0.length ≤ 1048576) := hb
    have N := Pk.new_below w (Tn.trB a1 b1 z1.length cap1 25)
    clear hm hb
    go_enter Try.func3, Try.ntmps3
    go_wp2_with fail
    refine (Se.szHoldS_no a0 z0.length cap0 1048576 _ (by omega) (by omega) HM.out (by have := HB.out; omega)).mono ?_
    rintro e w1 ⟨rfl, rfl⟩
    go_wp2
    go_ret
    exact ⟨rfl, N⟩

set_option maxRecDepth 100000 in
theorem contract (H : Type) (enc : TypeId × Value → H) (W : World) (base : Nat) (args : Array Value) (ds gs : List (DataW H)) (before : List MemPlace)
    (hval : ∀ (j : Nat) t v, Try.f3.params[j]? = some t → args[j]? = some v → Value.okWide Try.prog W .any base t v)
    (hW : DataW.Whole enc Try.prog Try.f3.params.toList Rows.fnExactBestSeatSpec.vars false W args.toList ds gs before) :
    Calls Try.prog 3 args W fun e W' => ∃ v, e = .returned v ∧ Rows.fnExactBestSeatSpec.post enc Try.prog Try.f3 false true false false W args v W' := by
  have hW' := hW
  obtain ⟨p, q, hA0, hV, rfl, hfz, hnd⟩ := hW
  have hA : DataW.TrodAll enc Try.prog W 0 (fun _ => true) true Try.f3.params.toList args.toList ds p := hA0
  rw [Try.params3] at hA hval
  obtain ⟨v0, vs0, d0, ds0, p0, q0, hargs, rfl, rfl, h0, r0⟩ := trodAll_cons hA
  obtain ⟨v1, vs1, d1, ds1, p1, q1, rfl, rfl, rfl, h1, r1⟩ := trodAll_cons r0
  obtain ⟨v2, vs2, d2, ds2, p2, q2, rfl, rfl, rfl, h2, r2⟩ := trodAll_cons r1
  obtain ⟨v3, vs3, d3, ds3, p3, q3, rfl, rfl, rfl, h3, r3⟩ := trodAll_cons r2
  obtain ⟨v4, vs4, d4, ds4, p4, q4, rfl, rfl, rfl, h4, r4⟩ := trodAll_cons r3
  obtain ⟨rfl, rfl, rfl⟩ := trodAll_nil r4
  obtain rfl : args = #[v0, v1, v2, v3, v4] := by cases args; simp_all
  obtain ⟨rfl, rfl⟩ := trodVars_none hV
  have k0 := h0
  have lt0 : ∀ x ∈ p0, x.block < W.heap.size := by obtain ⟨m, hm⟩ := k0; exact DataW.trod_lt m _ _ _ hm
  obtain ⟨a0, len0, cap0, rfl⟩ := okWide_slice Try.underlying22 (hval 0 22 v0 rfl rfl)
  obtain ⟨z0, w0, rfl⟩ : ∃ zs : List Se.Hl, (Se.Holds W a0 zs ∧ zs.length ≤ maxLen ∧ Se.Wfs zs) ∧ zs.length = len0 := by
    obtain ⟨fuel, hf⟩ := h0
    obtain ⟨a, cap, ts, e, hh⟩ := Se.holds_open hf
    simp [Value.cells] at e
    obtain ⟨rfl, rfl, rfl⟩ := e
    exact ⟨ts, ⟨hh.2.1, hh.1, hh.2.2⟩, rfl⟩
  have k1 := h1
  have lt1 : ∀ x ∈ p1, x.block < W.heap.size := by obtain ⟨m, hm⟩ := k1; exact DataW.trod_lt m _ _ _ hm
  obtain ⟨a1, b1, cap1, z1, rfl, w1l, w1m⟩ := Tn.tr_open (hval 1 25 v1 rfl rfl) h1
  have k2 := h2
  have lt2 : ∀ x ∈ p2, x.block < W.heap.size := by obtain ⟨m, hm⟩ := k2; exact DataW.trod_lt m _ _ _ hm
  obtain ⟨a2, rfl, rfl, rfl, w2⟩ := open_int Try.underlying3 (hval 2 3 v2 rfl rfl) h2
  have k3 := h3
  have lt3 : ∀ x ∈ p3, x.block < W.heap.size := by obtain ⟨m, hm⟩ := k3; exact DataW.trod_lt m _ _ _ hm
  obtain ⟨a3, rfl, rfl, rfl, w3⟩ := open_int Try.underlying3 (hval 3 3 v3 rfl rfl) h3
  have k4 := h4
  have lt4 : ∀ x ∈ p4, x.block < W.heap.size := by obtain ⟨m, hm⟩ := k4; exact DataW.trod_lt m _ _ _ hm
  obtain ⟨a4, rfl, rfl, rfl, w4⟩ := open_int Try.underlying3 (hval 4 3 v4 rfl rfl) h4
  clear hA0
  refine (walk a0 cap0 z0 a1 b1 cap1 z1 a2 w2 a3 w3 a4 w4 W w0 ⟨w1l, w1m⟩ ).mono fun e W' ⟨he, bel⟩ => ?_
  subst he
  exact ⟨_, rfl, _, _, _, [], _, [], hW', trodAll_mk1 (shut_bool Try.underlying4 _), (trodAll_cons_mk (Below.trod Errs.laidOut (by kernel_rfl) (of_decide_eq_true (by kernel_rfl)) k0 bel lt0) (trodAll_cons_mk (Below.trod Errs.laidOut (by kernel_rfl) (of_decide_eq_true (by kernel_rfl)) k1 bel lt1) (trodAll_cons_mk (Below.trod Errs.laidOut (by kernel_rfl) (of_decide_eq_true (by kernel_rfl)) k2 bel lt2) (trodAll_cons_mk (Below.trod Errs.laidOut (by kernel_rfl) (of_decide_eq_true (by kernel_rfl)) k3 bel lt3) (trodAll_cons_mk (Below.trod Errs.laidOut (by kernel_rfl) (of_decide_eq_true (by kernel_rfl)) k4 bel lt4) trodAll_mk0))))), rfl, bel.frame _, fun h => by cases h⟩

set_option maxRecDepth 100000 in
theorem lifted (os : Os) (started : os.Started) (H : Type) (enc : TypeId × Value → H) :
    ReturnsInHanded {} Try.checked os 3 .any (Rows.fnExactBestSeatSpec.pre6 enc Try.prog Try.f3 Rows.fnExactBestSeatRow.domain false) (Rows.fnExactBestSeatSpec.post enc Try.prog Try.f3 false true false false) := by
  refine returnsInHanded_of_change (C := Try.checked) Errs.own started (by kernel_rfl) Try.func3
    (ChangeSpec.witness6 (enc := enc) (C := Try.checked) false ⟨#[], #[.slice none 0 0, .agg #[.int .i64 0, .int .i64 0, .int .i64 0, .int .i64 0, .slice none 0 0], .int .i64 0, .int .i64 0, .int .i64 0], []⟩ 8 (by kernel_rfl) (by kernel_rfl) (by kernel_rfl) (by kernel_rfl)) ?_
  intro W base args ds gs before hval hW _ _
  exact contract H enc W base args ds gs before hval hW

set_option maxRecDepth 100000 in
theorem over : Rows.fnExactBestSeatRow.holds Try.pinned (OpenSpec.ofChange Rows.fnExactBestSeatSpec) :=
  OpenClaim.holds_of_wide 3 Try.f3 rfl rfl rfl rfl rfl rfl rfl ⟨rfl, rfl, rfl, rfl, rfl⟩ rfl rfl rfl rfl rfl (by kernel_rfl) Try.func3 (by kernel_rfl)
    (of_decide_eq_true (by kernel_rfl)) (by unfold Func.isWrapper; first | (rw [if_pos (by decide +kernel)]; kernel_rfl) | (rw [if_neg (by decide +kernel)]; exact ⟨rfl, rfl⟩))
    (fun os started H enc _ => lifted os started H enc)
end Go.Proofs.Ytikdganlpedbeaq.fnExactBestSeat
namespace Go.Proofs.Ytikdganlpedbeaq
theorem FnExactBestSeat_holds : Rows.FnExactBestSeatSaid := fnExactBestSeat.over
end Go.Proofs.Ytikdganlpedbeaq

/- For every code the law of holds that meet answers true: two drawn holds meet both ways or not at all, as their model says; of a drawn list what is held of an order and what is left without it are all that there was, each as it should be; and the list is right just when its model says so. No condition. -/
import Derived.Test.YtikdganlpedbeadErrs
import Derived.ShutString
import Derived.Lib.SmallJoins
import Derived.Test.YtikdganlpedbeadSeKeep
import Derived.Test.YtikdganlpedbeadSeRel
import Derived.Test.YtikdganlpedbeadCurSe3
import Derived.Test.YtikdganlpedbeadCurSe4
import Derived.Test.YtikdganlpedbeadCurNum
import Derived.Deep.RegionHeld3
namespace Go.Proofs.Ytikdganlpedbead.fnMeet
open Go.ChangeShapes Go.WideShapes Go.ChangeAt Go.RowKit Go.Joins
open Go.ChangeMaps (open_string shut_string)
set_option linter.unusedVariables false
set_option linter.unusedSimpArgs false

def IsRow (k : IntKind) (w : World) (a : Option Addr) (len cap : Nat) (zs : List Int) : Prop :=
  (a = none ∧ len = 0 ∧ cap = 0 ∧ zs = []) ∨
  ∃ x, a = some x ∧ len ≤ cap ∧ cap ≤ maxLen ∧ zs.length = cap ∧ (∀ i, i < zs.length → w.cell? (x.add i) = some (.int k (zs.getD i 0))) ∧ ∀ n ∈ zs, (Lit.int k n).wf = true

theorem filters (l : List Se.Hl) (x : Int) : (l.filter fun p => decide (p.od ≠ x)).length + (l.filter fun p => decide (p.od = x)).length = l.length := by
  induction l with
  | nil => rfl
  | cons p l ih =>
    by_cases e : p.od = x
    · simp [e] at ih ⊢
      omega
    · simp [e] at ih ⊢
      omega


set_option maxRecDepth 100000 in
set_option maxHeartbeats 8000000 in
theorem walk (a0 : Option Addr) (len0 cap0 : Nat) (z0 : List Int) (w : World) (w0 : IsRow .u8 w a0 len0 cap0 z0)  :
    Calls Try.prog 8 #[.slice a0 len0 cap0] w fun e w' => e = .returned (.bool true) ∧ Below w.heap.size w w' := by
  by_cases hb : len0 ≤ 1048576
  · have B := Cur.bytes_of w a0 len0 cap0 z0 w0
    clear w0
    go_enter Try.func8, Try.ntmps8
    go_wp2_with fail
    refine (Cur.big_no a0 len0 cap0 _ hb).mono ?_
    rintro e w1 ⟨rfl, rfl⟩
    go_wp2_with fail
    refine (Se.drawMeet _ a0 len0 cap0 hb B).mono ?_
    rintro e w2 ⟨⟨p, q, rfl⟩, L2⟩
    have N3 := Pk.join_below (Pk.new_below w2 (.cells #[.int .i64 p.tr, .int .i64 p.dy, .int .i64 p.co, .int .i64 p.se, .int .i64 p.ba, .int .i64 p.be, .int .i64 p.od] 77)) (Pk.new_below (w2.alloc (.cells #[.int .i64 p.tr, .int .i64 p.dy, .int .i64 p.co, .int .i64 p.se, .int .i64 p.ba, .int .i64 p.be, .int .i64 p.od] 77)) (.cells #[.int .i64 q.tr, .int .i64 q.dy, .int .i64 q.co, .int .i64 q.se, .int .i64 q.ba, .int .i64 q.be, .int .i64 q.od] 77))
    have e1 : (w2.alloc (.cells #[.int .i64 p.tr, .int .i64 p.dy, .int .i64 p.co, .int .i64 p.se, .int .i64 p.ba, .int .i64 p.be, .int .i64 p.od] 77)).heap.size = w2.heap.size + 1 := Array.size_push ..
    have B3p : Se.Bx ((w2.alloc (.cells #[.int .i64 p.tr, .int .i64 p.dy, .int .i64 p.co, .int .i64 p.se, .int .i64 p.ba, .int .i64 p.be, .int .i64 p.od] 77)).alloc (.cells #[.int .i64 q.tr, .int .i64 q.dy, .int .i64 q.co, .int .i64 q.se, .int .i64 q.ba, .int .i64 q.be, .int .i64 q.od] 77)) w2.heap.size p := Se.Bx.of (Pk.heap_old (Pk.heap_new _ _) _)
    have B3q : Se.Bx ((w2.alloc (.cells #[.int .i64 p.tr, .int .i64 p.dy, .int .i64 p.co, .int .i64 p.se, .int .i64 p.ba, .int .i64 p.be, .int .i64 p.od] 77)).alloc (.cells #[.int .i64 q.tr, .int .i64 q.dy, .int .i64 q.co, .int .i64 q.se, .int .i64 q.ba, .int .i64 q.be, .int .i64 q.od] 77)) (w2.heap.size + 1) q := by
      have h := Se.Bx.of (p := q) (Pk.heap_new (w2.alloc (.cells #[.int .i64 p.tr, .int .i64 p.dy, .int .i64 p.co, .int .i64 p.se, .int .i64 p.ba, .int .i64 p.be, .int .i64 p.od] 77)) (.cells #[.int .i64 q.tr, .int .i64 q.dy, .int .i64 q.co, .int .i64 q.se, .int .i64 q.ba, .int .i64 q.be, .int .i64 q.od] 77))
      rw [e1] at h
      exact h
    have hq3 : w2.heap.size + 1 < ((w2.alloc (.cells #[.int .i64 p.tr, .int .i64 p.dy, .int .i64 p.co, .int .i64 p.se, .int .i64 p.ba, .int .i64 p.be, .int .i64 p.od] 77)).alloc (.cells #[.int .i64 q.tr, .int .i64 q.dy, .int .i64 q.co, .int .i64 q.se, .int .i64 q.ba, .int .i64 q.be, .int .i64 q.od] 77)).heap.size := by
      have : ((w2.alloc (.cells #[.int .i64 p.tr, .int .i64 p.dy, .int .i64 p.co, .int .i64 p.se, .int .i64 p.ba, .int .i64 p.be, .int .i64 p.od] 77)).alloc (.cells #[.int .i64 q.tr, .int .i64 q.dy, .int .i64 q.co, .int .i64 q.se, .int .i64 q.ba, .int .i64 q.be, .int .i64 q.od] 77)).heap.size = (w2.alloc (.cells #[.int .i64 p.tr, .int .i64 p.dy, .int .i64 p.co, .int .i64 p.se, .int .i64 p.ba, .int .i64 p.be, .int .i64 p.od] 77)).heap.size + 1 := Array.size_push ..
      omega
    have K3 := Pk.join_below L2 N3
    have HDR : Hid (∀ _ : Unit, _) := fun _ => Se.drawRelease _ a0 len0 cap0 hb (B.on K3)
    clear e1 N3 L2
    go_wp2_with fail
    refine (HDR.out ()).mono ?_
    generalize (w2.alloc (.cells #[.int .i64 p.tr, .int .i64 p.dy, .int .i64 p.co, .int .i64 p.se, .int .i64 p.ba, .int .i64 p.be, .int .i64 p.od] 77)).alloc (.cells #[.int .i64 q.tr, .int .i64 q.dy, .int .i64 q.co, .int .i64 q.se, .int .i64 q.ba, .int .i64 q.be, .int .i64 q.od] 77) = W at *
    obtain ⟨P0, hP0⟩ : ∃ P0, w2.heap.size = P0 := ⟨_, rfl⟩
    obtain ⟨Q0, hQ0⟩ : ∃ Q0, w2.heap.size + 1 = Q0 := ⟨_, rfl⟩
    have hp0 : P0 < W.heap.size := by omega
    have hq0 : Q0 < W.heap.size := by omega
    rw [hQ0] at B3q ⊢
    rw [hP0] at B3p ⊢
    have HBP : Hid (Se.Bx W P0 p) := B3p
    have HBQ : Hid (Se.Bx W Q0 q) := B3q
    have KW := K3
    clear hP0 hQ0 hq3 B3p B3q HDR K3
    rintro e w4 ⟨⟨l, g, vc, x, rfl, I4, hw, hl⟩, L4⟩
    have HMI : Hid (∀ w, _) := fun w => Se.implMeet_val p q w
    have HMJ : Hid (∀ w, _) := fun w => Se.implMeet_val q p w
    have HMS : Hid (∀ w, _) := fun w => Se.specMeet_val p q w
    rw [Se.meet_comm q p] at HMJ
    have HIR : Hid (∀ wx, Se.Holds wx (some ⟨g, 0, none⟩) l → _) := fun wx (h : Se.Holds wx (some ⟨g, 0, none⟩) l) => Se.implRelease_val _ l vc x wx (by omega) h
    have HIH : Hid (∀ wx, Se.Holds wx (some ⟨g, 0, none⟩) l → _) := fun wx (h : Se.Holds wx (some ⟨g, 0, none⟩) l) => Se.implHeld_val _ l vc x wx (by omega) h
    have HSR : Hid (∀ wx, Se.Holds wx (some ⟨g, 0, none⟩) l → _) := fun wx (h : Se.Holds wx (some ⟨g, 0, none⟩) l) => Se.specRelease_val _ l vc x wx (by omega) h
    have HHI : Hid (∀ wx, Se.Holds wx (some ⟨g, 0, none⟩) l → _) := fun wx (h : Se.Holds wx (some ⟨g, 0, none⟩) l) => Se.implHolds_val _ l vc wx (by unfold maxLen; omega) h hw
    have HHS : Hid (∀ wx, Se.Holds wx (some ⟨g, 0, none⟩) l → _) := fun wx (h : Se.Holds wx (some ⟨g, 0, none⟩) l) => Se.specHolds_val _ l vc wx (by unfold maxLen; omega) h
    have hfl := filters l x
    have HX : Hid (∀ i (h : i < (l.filter fun p => decide (p.od ≠ x)).length), ((l.filter fun p => decide (p.od ≠ x))[i].od == x) = false) := by
      intro i h
      have h1 := (List.mem_filter.1 (List.getElem_mem h)).2
      simpa using h1
    have HY : Hid (∀ i (h : i < (l.filter fun p => decide (p.od = x)).length), ((l.filter fun p => decide (p.od = x))[i].od != x) = false) := by
      intro i h
      have h1 := (List.mem_filter.1 (List.getElem_mem h)).2
      simpa using h1
    generalize (l.filter fun p => decide (p.od ≠ x)) = xs at *
    generalize (l.filter fun p => decide (p.od = x)) = ys at *
    generalize Se.meetB p q = M at *
    generalize Se.holdsB l = R at *
    clear hw
    go_wp2_with fail
    refine (HIR.out _ I4).mono ?_
    rintro e w5 ⟨vR, rfl, O5, L5⟩
    obtain ⟨ra, rc, rfl, J5⟩ := Se.own_holds O5
    have I5 := I4.on L5
    clear O5
    go_wp2_with fail
    refine (HIH.out _ I5).mono ?_
    rintro e w6 ⟨vH, rfl, O6, L6⟩
    obtain ⟨ha, hc, rfl, G6⟩ := Se.own_holds O6
    have J6 := J5.on L6
    have I6 := I5.on L6
    have K6 := Pk.join_below (Pk.join_below L4 L5) L6
    clear O6 L4 L5 L6 I4 I5 J5 HIR HIH
    have hsum : wrap64 ((xs.length : Int) + (ys.length : Int)) = (l.length : Int) := by unfold wrap64; omega
    have hsum2 : IntKind.i64.wrap ((xs.length : Int) + (ys.length : Int)) = (l.length : Int) := by rw [IntKind.wrap_i64]; omega
    have hxl : xs.length ≤ 401 := by omega
    have hyl : ys.length ≤ 401 := by omega
    have HS1 : Hid (wrap64 ((xs.length : Int) + (ys.length : Int)) = (l.length : Int)) := hsum
    have HS2 : Hid (IntKind.i64.wrap ((xs.length : Int) + (ys.length : Int)) = (l.length : Int)) := hsum2
    clear hsum hsum2 hfl
    go_wp2
    go_loop [9] (fun i => ∃ k : Nat, k ≤ ys.length ∧ i = .int .i64 k) (fun i => ys.length - (intOf i).toNat)
    case atStart => exact ⟨0, by omega, rfl⟩
    case round =>
      obtain ⟨k, hk, rfl⟩ := hrel
      by_cases hkn : k < ys.length
      · obtain ⟨b, o, rfl, hlt, c0, c1, c2, c3, c4, c5, c6⟩ := G6.at k hkn
        have ht := HY.out k hkn
        generalize ys[k] = y at *
        go_wp2
        go_round
        case rel => exact ⟨k + 1, by omega, by go_num⟩
        case measure => simp [intOf]; omega
      · go_wp2
        go_loop [10] (fun i => ∃ k : Nat, k ≤ xs.length ∧ i = .int .i64 k) (fun i => xs.length - (intOf i).toNat)
        case atStart => exact ⟨0, by omega, rfl⟩
        case round =>
          obtain ⟨k2, hk2, rfl⟩ := hrel
          by_cases hkm : k2 < xs.length
          · obtain ⟨b, o, rfl, hlt, c0, c1, c2, c3, c4, c5, c6⟩ := J6.at k2 hkm
            have ht := HX.out k2 hkm
            generalize xs[k2] = y at *
            go_wp2
            go_round
            case rel => exact ⟨k2 + 1, by omega, by go_num⟩
            case measure => simp [intOf]; omega
          · go_wp2
            have hsum := HS1.out
            have hsum2 := HS2.out
            have K10 : Below W.heap.size W w6.drew := K6.drew
            have I10 : Se.Holds w6.drew (some ⟨g, 0, none⟩) l := I6.on ((Below.refl _ _).drew)
            refine wp_region_held_drew (S := (fun w' => Se.Bx w' P0 p ∧ Se.Bx w' Q0 q)) (by kernel_rfl) ?_ (fun hHeld => ?_)
            · exact ⟨HBP.out.on K10 hp0, HBQ.out.on K10 hq0⟩
            refine wpAnyH_take (i := 0) (v := .agg #[.int .i64 p.tr, .int .i64 p.dy, .int .i64 p.co, .int .i64 p.se, .int .i64 p.ba, .int .i64 p.be, .int .i64 p.od]) rfl (by kernel_rfl) (by kernel_rfl) (by kernel_rfl) (fun _ _ _ h => h) (Or.inl ⟨by kernel_rfl, fun w hSw => by first | (go_simp; done) | (dsimp only at hSw; obtain ⟨⟨x0, x1, x2, x3, x4, x5, x6⟩, ⟨y0, y1, y2, y3, y4, y5, y6⟩⟩ := hSw; go_simp; done) | rfl⟩) (by assumption) ?_
            simp only [Act.put, List.getElem_toArray, List.getElem_cons_succ, List.getElem_cons_zero, List.setIfInBounds_toArray, List.set_cons_succ, List.set_cons_zero]
            refine wpAnyH_take (i := 1) (v := .agg #[.int .i64 q.tr, .int .i64 q.dy, .int .i64 q.co, .int .i64 q.se, .int .i64 q.ba, .int .i64 q.be, .int .i64 q.od]) rfl (by kernel_rfl) (by kernel_rfl) (by kernel_rfl) (fun _ _ _ h => h) (Or.inl ⟨by kernel_rfl, fun w hSw => by first | (go_simp; done) | (dsimp only at hSw; obtain ⟨⟨x0, x1, x2, x3, x4, x5, x6⟩, ⟨y0, y1, y2, y3, y4, y5, y6⟩⟩ := hSw; go_simp; done) | rfl⟩) (by assumption) ?_
            simp only [Act.put, List.getElem_toArray, List.getElem_cons_succ, List.getElem_cons_zero, List.setIfInBounds_toArray, List.set_cons_succ, List.set_cons_zero]
            refine wpAnyH_take (i := 3) (v := .agg #[.int .i64 q.tr, .int .i64 q.dy, .int .i64 q.co, .int .i64 q.se, .int .i64 q.ba, .int .i64 q.be, .int .i64 q.od]) rfl (by kernel_rfl) (by kernel_rfl) (by kernel_rfl) (fun _ _ _ h => h) (Or.inl ⟨by kernel_rfl, fun w hSw => by first | (go_simp; done) | (dsimp only at hSw; obtain ⟨⟨x0, x1, x2, x3, x4, x5, x6⟩, ⟨y0, y1, y2, y3, y4, y5, y6⟩⟩ := hSw; go_simp; done) | rfl⟩) (by assumption) ?_
            simp only [Act.put, List.getElem_toArray, List.getElem_cons_succ, List.getElem_cons_zero, List.setIfInBounds_toArray, List.set_cons_succ, List.set_cons_zero]
            refine wpAnyH_take (i := 4) (v := .agg #[.int .i64 p.tr, .int .i64 p.dy, .int .i64 p.co, .int .i64 p.se, .int .i64 p.ba, .int .i64 p.be, .int .i64 p.od]) rfl (by kernel_rfl) (by kernel_rfl) (by kernel_rfl) (fun _ _ _ h => h) (Or.inl ⟨by kernel_rfl, fun w hSw => by first | (go_simp; done) | (dsimp only at hSw; obtain ⟨⟨x0, x1, x2, x3, x4, x5, x6⟩, ⟨y0, y1, y2, y3, y4, y5, y6⟩⟩ := hSw; go_simp; done) | rfl⟩) (by assumption) ?_
            simp only [Act.put, List.getElem_toArray, List.getElem_cons_succ, List.getElem_cons_zero, List.setIfInBounds_toArray, List.set_cons_succ, List.set_cons_zero]
            refine wpAnyH_ready (rs := [2]) (by kernel_rfl) (by simp) ?_
            refine AllReadyH.cons rfl (fun K hK => ?_) AllReadyH.nil
            go_simp
            go_wp2_with (go_at_call 59; (with_reducible refine (HMI.out _).mono ?_); rintro e u11 ⟨rfl, L11⟩; have K11 : Below W.heap.size W u11 := K10.trans (L11.mono K10.size); have I11 := I10.on L11)
            refine hK.out _ _ ?_ (fun hHeld2 => ?_)
            · first | exact ⟨HBP.out.on K17 hp0, HBQ.out.on K17 hq0⟩ | exact ⟨HBP.out.on K16 hp0, HBQ.out.on K16 hq0⟩ | exact ⟨HBP.out.on K15 hp0, HBQ.out.on K15 hq0⟩ | exact ⟨HBP.out.on K14 hp0, HBQ.out.on K14 hq0⟩ | exact ⟨HBP.out.on K13 hp0, HBQ.out.on K13 hq0⟩ | exact ⟨HBP.out.on K12 hp0, HBQ.out.on K12 hq0⟩ | exact ⟨HBP.out.on K11 hp0, HBQ.out.on K11 hq0⟩
            clear hK K hHeld
            have hHeld := hHeld2
            clear hHeld2
            refine wpAnyH_ready (rs := [5]) (by kernel_rfl) (by simp) ?_
            refine AllReadyH.cons rfl (fun K hK => ?_) AllReadyH.nil
            go_simp
            go_wp2_with (go_at_call 59; (with_reducible refine (HMJ.out _).mono ?_); rintro e u12 ⟨rfl, L12⟩; have K12 : Below W.heap.size W u12 := K11.trans (L12.mono K11.size); have I12 := I11.on L12)
            refine hK.out _ _ ?_ (fun hHeld2 => ?_)
            · first | exact ⟨HBP.out.on K17 hp0, HBQ.out.on K17 hq0⟩ | exact ⟨HBP.out.on K16 hp0, HBQ.out.on K16 hq0⟩ | exact ⟨HBP.out.on K15 hp0, HBQ.out.on K15 hq0⟩ | exact ⟨HBP.out.on K14 hp0, HBQ.out.on K14 hq0⟩ | exact ⟨HBP.out.on K13 hp0, HBQ.out.on K13 hq0⟩ | exact ⟨HBP.out.on K12 hp0, HBQ.out.on K12 hq0⟩ | exact ⟨HBP.out.on K11 hp0, HBQ.out.on K11 hq0⟩
            clear hK K hHeld
            have hHeld := hHeld2
            clear hHeld2
            refine wpAnyH_take (i := 6) (v := .bool true) rfl (by kernel_rfl) (by kernel_rfl) (by kernel_rfl) (fun _ _ _ h => h) (Or.inl ⟨by kernel_rfl, fun w hSw => by first | (go_simp; done) | (dsimp only at hSw; obtain ⟨⟨x0, x1, x2, x3, x4, x5, x6⟩, ⟨y0, y1, y2, y3, y4, y5, y6⟩⟩ := hSw; go_simp; done) | rfl⟩) (by assumption) ?_
            simp only [Act.put, List.getElem_toArray, List.getElem_cons_succ, List.getElem_cons_zero, List.setIfInBounds_toArray, List.set_cons_succ, List.set_cons_zero]
            refine wpAnyH_take (i := 7) (v := .bool true) rfl (by kernel_rfl) (by kernel_rfl) (by kernel_rfl) (fun _ _ _ h => h) (Or.inl ⟨by kernel_rfl, fun w hSw => by first | (go_simp; done) | (dsimp only at hSw; obtain ⟨⟨x0, x1, x2, x3, x4, x5, x6⟩, ⟨y0, y1, y2, y3, y4, y5, y6⟩⟩ := hSw; go_simp; done) | rfl⟩) (by assumption) ?_
            simp only [Act.put, List.getElem_toArray, List.getElem_cons_succ, List.getElem_cons_zero, List.setIfInBounds_toArray, List.set_cons_succ, List.set_cons_zero]
            refine wpAnyH_take (i := 8) (v := .agg #[.int .i64 p.tr, .int .i64 p.dy, .int .i64 p.co, .int .i64 p.se, .int .i64 p.ba, .int .i64 p.be, .int .i64 p.od]) rfl (by kernel_rfl) (by kernel_rfl) (by kernel_rfl) (fun _ _ _ h => h) (Or.inl ⟨by kernel_rfl, fun w hSw => by first | (go_simp; done) | (dsimp only at hSw; obtain ⟨⟨x0, x1, x2, x3, x4, x5, x6⟩, ⟨y0, y1, y2, y3, y4, y5, y6⟩⟩ := hSw; go_simp; done) | rfl⟩) (by assumption) ?_
            simp only [Act.put, List.getElem_toArray, List.getElem_cons_succ, List.getElem_cons_zero, List.setIfInBounds_toArray, List.set_cons_succ, List.set_cons_zero]
            refine wpAnyH_take (i := 9) (v := .agg #[.int .i64 q.tr, .int .i64 q.dy, .int .i64 q.co, .int .i64 q.se, .int .i64 q.ba, .int .i64 q.be, .int .i64 q.od]) rfl (by kernel_rfl) (by kernel_rfl) (by kernel_rfl) (fun _ _ _ h => h) (Or.inl ⟨by kernel_rfl, fun w hSw => by first | (go_simp; done) | (dsimp only at hSw; obtain ⟨⟨x0, x1, x2, x3, x4, x5, x6⟩, ⟨y0, y1, y2, y3, y4, y5, y6⟩⟩ := hSw; go_simp; done) | rfl⟩) (by assumption) ?_
            simp only [Act.put, List.getElem_toArray, List.getElem_cons_succ, List.getElem_cons_zero, List.setIfInBounds_toArray, List.set_cons_succ, List.set_cons_zero]
            refine wpAnyH_take (i := 11) (v := .agg #[.int .i64 p.tr, .int .i64 p.dy, .int .i64 p.co, .int .i64 p.se, .int .i64 p.ba, .int .i64 p.be, .int .i64 p.od]) rfl (by kernel_rfl) (by kernel_rfl) (by kernel_rfl) (fun _ _ _ h => h) (Or.inl ⟨by kernel_rfl, fun w hSw => by first | (go_simp; done) | (dsimp only at hSw; obtain ⟨⟨x0, x1, x2, x3, x4, x5, x6⟩, ⟨y0, y1, y2, y3, y4, y5, y6⟩⟩ := hSw; go_simp; done) | rfl⟩) (by assumption) ?_
            simp only [Act.put, List.getElem_toArray, List.getElem_cons_succ, List.getElem_cons_zero, List.setIfInBounds_toArray, List.set_cons_succ, List.set_cons_zero]
            refine wpAnyH_take (i := 12) (v := .agg #[.int .i64 q.tr, .int .i64 q.dy, .int .i64 q.co, .int .i64 q.se, .int .i64 q.ba, .int .i64 q.be, .int .i64 q.od]) rfl (by kernel_rfl) (by kernel_rfl) (by kernel_rfl) (fun _ _ _ h => h) (Or.inl ⟨by kernel_rfl, fun w hSw => by first | (go_simp; done) | (dsimp only at hSw; obtain ⟨⟨x0, x1, x2, x3, x4, x5, x6⟩, ⟨y0, y1, y2, y3, y4, y5, y6⟩⟩ := hSw; go_simp; done) | rfl⟩) (by assumption) ?_
            simp only [Act.put, List.getElem_toArray, List.getElem_cons_succ, List.getElem_cons_zero, List.setIfInBounds_toArray, List.set_cons_succ, List.set_cons_zero]
            refine wpAnyH_ready (rs := [10]) (by kernel_rfl) (by simp) ?_
            refine AllReadyH.cons rfl (fun K hK => ?_) AllReadyH.nil
            go_simp
            go_wp2_with (go_at_call 59; (with_reducible refine (HMI.out _).mono ?_); rintro e u13 ⟨rfl, L13⟩; have K13 : Below W.heap.size W u13 := K12.trans (L13.mono K12.size); have I13 := I12.on L13)
            refine hK.out _ _ ?_ (fun hHeld2 => ?_)
            · first | exact ⟨HBP.out.on K17 hp0, HBQ.out.on K17 hq0⟩ | exact ⟨HBP.out.on K16 hp0, HBQ.out.on K16 hq0⟩ | exact ⟨HBP.out.on K15 hp0, HBQ.out.on K15 hq0⟩ | exact ⟨HBP.out.on K14 hp0, HBQ.out.on K14 hq0⟩ | exact ⟨HBP.out.on K13 hp0, HBQ.out.on K13 hq0⟩ | exact ⟨HBP.out.on K12 hp0, HBQ.out.on K12 hq0⟩ | exact ⟨HBP.out.on K11 hp0, HBQ.out.on K11 hq0⟩
            clear hK K hHeld
            have hHeld := hHeld2
            clear hHeld2
            refine wpAnyH_ready (rs := [13]) (by kernel_rfl) (by simp) ?_
            refine AllReadyH.cons rfl (fun K hK => ?_) AllReadyH.nil
            go_simp
            go_wp2_with (go_at_call 60; (with_reducible refine (HMS.out _).mono ?_); rintro e u14 ⟨rfl, L14⟩; have K14 : Below W.heap.size W u14 := K13.trans (L14.mono K13.size); have I14 := I13.on L14)
            refine hK.out _ _ ?_ (fun hHeld2 => ?_)
            · first | exact ⟨HBP.out.on K17 hp0, HBQ.out.on K17 hq0⟩ | exact ⟨HBP.out.on K16 hp0, HBQ.out.on K16 hq0⟩ | exact ⟨HBP.out.on K15 hp0, HBQ.out.on K15 hq0⟩ | exact ⟨HBP.out.on K14 hp0, HBQ.out.on K14 hq0⟩ | exact ⟨HBP.out.on K13 hp0, HBQ.out.on K13 hq0⟩ | exact ⟨HBP.out.on K12 hp0, HBQ.out.on K12 hq0⟩ | exact ⟨HBP.out.on K11 hp0, HBQ.out.on K11 hq0⟩
            clear hK K hHeld
            have hHeld := hHeld2
            clear hHeld2
            refine wpAnyH_take (i := 14) (v := .bool true) rfl (by kernel_rfl) (by kernel_rfl) (by kernel_rfl) (fun _ _ _ h => h) (Or.inl ⟨by kernel_rfl, fun w hSw => by first | (go_simp; done) | (dsimp only at hSw; obtain ⟨⟨x0, x1, x2, x3, x4, x5, x6⟩, ⟨y0, y1, y2, y3, y4, y5, y6⟩⟩ := hSw; go_simp; done) | rfl⟩) (by assumption) ?_
            simp only [Act.put, List.getElem_toArray, List.getElem_cons_succ, List.getElem_cons_zero, List.setIfInBounds_toArray, List.set_cons_succ, List.set_cons_zero]
            refine wpAnyH_take (i := 15) (v := .bool true) rfl (by kernel_rfl) (by kernel_rfl) (by kernel_rfl) (fun _ _ _ h => h) (Or.inl ⟨by kernel_rfl, fun w hSw => by first | (go_simp; done) | (dsimp only at hSw; obtain ⟨⟨x0, x1, x2, x3, x4, x5, x6⟩, ⟨y0, y1, y2, y3, y4, y5, y6⟩⟩ := hSw; go_simp; done) | rfl⟩) (by assumption) ?_
            simp only [Act.put, List.getElem_toArray, List.getElem_cons_succ, List.getElem_cons_zero, List.setIfInBounds_toArray, List.set_cons_succ, List.set_cons_zero]
            refine wpAnyH_take (i := 16) (v := .bool true) rfl (by kernel_rfl) (by kernel_rfl) (by kernel_rfl) (fun _ _ _ h => h) (Or.inl ⟨by kernel_rfl, fun w hSw => by first | (go_simp; done) | (dsimp only at hSw; obtain ⟨⟨x0, x1, x2, x3, x4, x5, x6⟩, ⟨y0, y1, y2, y3, y4, y5, y6⟩⟩ := hSw; go_simp; done) | rfl⟩) (by assumption) ?_
            simp only [Act.put, List.getElem_toArray, List.getElem_cons_succ, List.getElem_cons_zero, List.setIfInBounds_toArray, List.set_cons_succ, List.set_cons_zero]
            refine wpAnyH_take (i := 17) (v := .slice ra xs.length rc) rfl (by kernel_rfl) (by kernel_rfl) (by kernel_rfl) (fun _ _ _ h => h) (Or.inl ⟨by kernel_rfl, fun w hSw => by first | (go_simp; done) | (dsimp only at hSw; obtain ⟨⟨x0, x1, x2, x3, x4, x5, x6⟩, ⟨y0, y1, y2, y3, y4, y5, y6⟩⟩ := hSw; go_simp; done) | rfl⟩) (by assumption) ?_
            simp only [Act.put, List.getElem_toArray, List.getElem_cons_succ, List.getElem_cons_zero, List.setIfInBounds_toArray, List.set_cons_succ, List.set_cons_zero]
            refine wpAnyH_take (i := 18) (v := .int .i64 (xs.length : Int)) rfl (by kernel_rfl) (by kernel_rfl) (by kernel_rfl) (fun _ _ _ h => h) (Or.inl ⟨by kernel_rfl, fun w hSw => by first | (go_simp; done) | (dsimp only at hSw; obtain ⟨⟨x0, x1, x2, x3, x4, x5, x6⟩, ⟨y0, y1, y2, y3, y4, y5, y6⟩⟩ := hSw; go_simp; done) | rfl⟩) (by assumption) ?_
            simp only [Act.put, List.getElem_toArray, List.getElem_cons_succ, List.getElem_cons_zero, List.setIfInBounds_toArray, List.set_cons_succ, List.set_cons_zero]
            refine wpAnyH_take (i := 19) (v := .slice ha ys.length hc) rfl (by kernel_rfl) (by kernel_rfl) (by kernel_rfl) (fun _ _ _ h => h) (Or.inl ⟨by kernel_rfl, fun w hSw => by first | (go_simp; done) | (dsimp only at hSw; obtain ⟨⟨x0, x1, x2, x3, x4, x5, x6⟩, ⟨y0, y1, y2, y3, y4, y5, y6⟩⟩ := hSw; go_simp; done) | rfl⟩) (by assumption) ?_
            simp only [Act.put, List.getElem_toArray, List.getElem_cons_succ, List.getElem_cons_zero, List.setIfInBounds_toArray, List.set_cons_succ, List.set_cons_zero]
            refine wpAnyH_take (i := 20) (v := .int .i64 (ys.length : Int)) rfl (by kernel_rfl) (by kernel_rfl) (by kernel_rfl) (fun _ _ _ h => h) (Or.inl ⟨by kernel_rfl, fun w hSw => by first | (go_simp; done) | (dsimp only at hSw; obtain ⟨⟨x0, x1, x2, x3, x4, x5, x6⟩, ⟨y0, y1, y2, y3, y4, y5, y6⟩⟩ := hSw; go_simp; done) | rfl⟩) (by assumption) ?_
            simp only [Act.put, List.getElem_toArray, List.getElem_cons_succ, List.getElem_cons_zero, List.setIfInBounds_toArray, List.set_cons_succ, List.set_cons_zero]
            refine wpAnyH_take (i := 21) (v := .int .i64 (l.length : Int)) rfl (by kernel_rfl) (by kernel_rfl) (by kernel_rfl) (fun _ _ _ h => h) (Or.inl ⟨by kernel_rfl, fun w hSw => by first | (go_simp; done) | (dsimp only at hSw; obtain ⟨⟨x0, x1, x2, x3, x4, x5, x6⟩, ⟨y0, y1, y2, y3, y4, y5, y6⟩⟩ := hSw; go_simp; done) | rfl⟩) (by assumption) ?_
            simp only [Act.put, List.getElem_toArray, List.getElem_cons_succ, List.getElem_cons_zero, List.setIfInBounds_toArray, List.set_cons_succ, List.set_cons_zero]
            refine wpAnyH_take (i := 22) (v := .slice (some ⟨g, 0, none⟩) l.length vc) rfl (by kernel_rfl) (by kernel_rfl) (by kernel_rfl) (fun _ _ _ h => h) (Or.inl ⟨by kernel_rfl, fun w hSw => by first | (go_simp; done) | (dsimp only at hSw; obtain ⟨⟨x0, x1, x2, x3, x4, x5, x6⟩, ⟨y0, y1, y2, y3, y4, y5, y6⟩⟩ := hSw; go_simp; done) | rfl⟩) (by assumption) ?_
            simp only [Act.put, List.getElem_toArray, List.getElem_cons_succ, List.getElem_cons_zero, List.setIfInBounds_toArray, List.set_cons_succ, List.set_cons_zero]
            refine wpAnyH_take (i := 23) (v := .int .i64 (l.length : Int)) rfl (by kernel_rfl) (by kernel_rfl) (by kernel_rfl) (fun _ _ _ h => h) (Or.inl ⟨by kernel_rfl, fun w hSw => by first | (go_simp; done) | (dsimp only at hSw; obtain ⟨⟨x0, x1, x2, x3, x4, x5, x6⟩, ⟨y0, y1, y2, y3, y4, y5, y6⟩⟩ := hSw; go_simp; done) | rfl⟩) (by assumption) ?_
            simp only [Act.put, List.getElem_toArray, List.getElem_cons_succ, List.getElem_cons_zero, List.setIfInBounds_toArray, List.set_cons_succ, List.set_cons_zero]
            refine wpAnyH_take (i := 24) (v := .bool true) rfl (by kernel_rfl) (by kernel_rfl) (by kernel_rfl) (fun _ _ _ h => h) (Or.inl ⟨by kernel_rfl, fun w hSw => by first | (go_simp; done) | (dsimp only at hSw; obtain ⟨⟨x0, x1, x2, x3, x4, x5, x6⟩, ⟨y0, y1, y2, y3, y4, y5, y6⟩⟩ := hSw; go_simp; done) | rfl⟩) (by assumption) ?_
            simp only [Act.put, List.getElem_toArray, List.getElem_cons_succ, List.getElem_cons_zero, List.setIfInBounds_toArray, List.set_cons_succ, List.set_cons_zero]
            refine wpAnyH_take (i := 25) (v := .bool true) rfl (by kernel_rfl) (by kernel_rfl) (by kernel_rfl) (fun _ _ _ h => h) (Or.inl ⟨by kernel_rfl, fun w hSw => by first | (go_simp; done) | (dsimp only at hSw; obtain ⟨⟨x0, x1, x2, x3, x4, x5, x6⟩, ⟨y0, y1, y2, y3, y4, y5, y6⟩⟩ := hSw; go_simp; done) | rfl⟩) (by assumption) ?_
            simp only [Act.put, List.getElem_toArray, List.getElem_cons_succ, List.getElem_cons_zero, List.setIfInBounds_toArray, List.set_cons_succ, List.set_cons_zero]
            refine wpAnyH_take (i := 26) (v := .bool true) rfl (by kernel_rfl) (by kernel_rfl) (by kernel_rfl) (fun _ _ _ h => h) (Or.inl ⟨by kernel_rfl, fun w hSw => by first | (go_simp; done) | (dsimp only at hSw; obtain ⟨⟨x0, x1, x2, x3, x4, x5, x6⟩, ⟨y0, y1, y2, y3, y4, y5, y6⟩⟩ := hSw; go_simp; done) | rfl⟩) (by assumption) ?_
            simp only [Act.put, List.getElem_toArray, List.getElem_cons_succ, List.getElem_cons_zero, List.setIfInBounds_toArray, List.set_cons_succ, List.set_cons_zero]
            refine wpAnyH_take (i := 27) (v := .slice ra xs.length rc) rfl (by kernel_rfl) (by kernel_rfl) (by kernel_rfl) (fun _ _ _ h => h) (Or.inl ⟨by kernel_rfl, fun w hSw => by first | (go_simp; done) | (dsimp only at hSw; obtain ⟨⟨x0, x1, x2, x3, x4, x5, x6⟩, ⟨y0, y1, y2, y3, y4, y5, y6⟩⟩ := hSw; go_simp; done) | rfl⟩) (by assumption) ?_
            simp only [Act.put, List.getElem_toArray, List.getElem_cons_succ, List.getElem_cons_zero, List.setIfInBounds_toArray, List.set_cons_succ, List.set_cons_zero]
            refine wpAnyH_take (i := 28) (v := .int .i64 (xs.length : Int)) rfl (by kernel_rfl) (by kernel_rfl) (by kernel_rfl) (fun _ _ _ h => h) (Or.inl ⟨by kernel_rfl, fun w hSw => by first | (go_simp; done) | (dsimp only at hSw; obtain ⟨⟨x0, x1, x2, x3, x4, x5, x6⟩, ⟨y0, y1, y2, y3, y4, y5, y6⟩⟩ := hSw; go_simp; done) | rfl⟩) (by assumption) ?_
            simp only [Act.put, List.getElem_toArray, List.getElem_cons_succ, List.getElem_cons_zero, List.setIfInBounds_toArray, List.set_cons_succ, List.set_cons_zero]
            refine wpAnyH_take (i := 29) (v := .slice (some ⟨g, 0, none⟩) l.length vc) rfl (by kernel_rfl) (by kernel_rfl) (by kernel_rfl) (fun _ _ _ h => h) (Or.inl ⟨by kernel_rfl, fun w hSw => by first | (go_simp; done) | (dsimp only at hSw; obtain ⟨⟨x0, x1, x2, x3, x4, x5, x6⟩, ⟨y0, y1, y2, y3, y4, y5, y6⟩⟩ := hSw; go_simp; done) | rfl⟩) (by assumption) ?_
            simp only [Act.put, List.getElem_toArray, List.getElem_cons_succ, List.getElem_cons_zero, List.setIfInBounds_toArray, List.set_cons_succ, List.set_cons_zero]
            refine wpAnyH_take (i := 30) (v := .int .i64 x) rfl (by kernel_rfl) (by kernel_rfl) (by kernel_rfl) (fun _ _ _ h => h) (Or.inl ⟨by kernel_rfl, fun w hSw => by first | (go_simp; done) | (dsimp only at hSw; obtain ⟨⟨x0, x1, x2, x3, x4, x5, x6⟩, ⟨y0, y1, y2, y3, y4, y5, y6⟩⟩ := hSw; go_simp; done) | rfl⟩) (by assumption) ?_
            simp only [Act.put, List.getElem_toArray, List.getElem_cons_succ, List.getElem_cons_zero, List.setIfInBounds_toArray, List.set_cons_succ, List.set_cons_zero]
            refine wpAnyH_ready (rs := [31]) (by kernel_rfl) (by simp) ?_
            refine AllReadyH.cons rfl (fun K hK => ?_) AllReadyH.nil
            go_simp
            go_wp2_with (go_at_call 61; (with_reducible refine (HSR.out _ I14).mono ?_); rintro e u15 ⟨vZ, rfl, OZ, L15⟩; have K15 : Below W.heap.size W u15 := K14.trans (L15.mono K14.size); obtain ⟨sa, sc, rfl, -⟩ := Pk.own_form OZ; have I15 := I14.on L15)
            refine hK.out _ _ ?_ (fun hHeld2 => ?_)
            · first | exact ⟨HBP.out.on K17 hp0, HBQ.out.on K17 hq0⟩ | exact ⟨HBP.out.on K16 hp0, HBQ.out.on K16 hq0⟩ | exact ⟨HBP.out.on K15 hp0, HBQ.out.on K15 hq0⟩ | exact ⟨HBP.out.on K14 hp0, HBQ.out.on K14 hq0⟩ | exact ⟨HBP.out.on K13 hp0, HBQ.out.on K13 hq0⟩ | exact ⟨HBP.out.on K12 hp0, HBQ.out.on K12 hq0⟩ | exact ⟨HBP.out.on K11 hp0, HBQ.out.on K11 hq0⟩
            clear hK K hHeld
            have hHeld := hHeld2
            clear hHeld2
            refine wpAnyH_take (i := 32) (v := .int .i64 (xs.length : Int)) rfl (by kernel_rfl) (by kernel_rfl) (by kernel_rfl) (fun _ _ _ h => h) (Or.inl ⟨by kernel_rfl, fun w hSw => by first | (go_simp; done) | (dsimp only at hSw; obtain ⟨⟨x0, x1, x2, x3, x4, x5, x6⟩, ⟨y0, y1, y2, y3, y4, y5, y6⟩⟩ := hSw; go_simp; done) | rfl⟩) (by assumption) ?_
            simp only [Act.put, List.getElem_toArray, List.getElem_cons_succ, List.getElem_cons_zero, List.setIfInBounds_toArray, List.set_cons_succ, List.set_cons_zero]
            refine wpAnyH_take (i := 33) (v := .bool true) rfl (by kernel_rfl) (by kernel_rfl) (by kernel_rfl) (fun _ _ _ h => h) (Or.inl ⟨by kernel_rfl, fun w hSw => by first | (go_simp; done) | (dsimp only at hSw; obtain ⟨⟨x0, x1, x2, x3, x4, x5, x6⟩, ⟨y0, y1, y2, y3, y4, y5, y6⟩⟩ := hSw; go_simp; done) | rfl⟩) (by assumption) ?_
            simp only [Act.put, List.getElem_toArray, List.getElem_cons_succ, List.getElem_cons_zero, List.setIfInBounds_toArray, List.set_cons_succ, List.set_cons_zero]
            refine wpAnyH_take (i := 34) (v := .bool true) rfl (by kernel_rfl) (by kernel_rfl) (by kernel_rfl) (fun _ _ _ h => h) (Or.inl ⟨by kernel_rfl, fun w hSw => by first | (go_simp; done) | (dsimp only at hSw; obtain ⟨⟨x0, x1, x2, x3, x4, x5, x6⟩, ⟨y0, y1, y2, y3, y4, y5, y6⟩⟩ := hSw; go_simp; done) | rfl⟩) (by assumption) ?_
            simp only [Act.put, List.getElem_toArray, List.getElem_cons_succ, List.getElem_cons_zero, List.setIfInBounds_toArray, List.set_cons_succ, List.set_cons_zero]
            refine wpAnyH_take (i := 35) (v := .bool true) rfl (by kernel_rfl) (by kernel_rfl) (by kernel_rfl) (fun _ _ _ h => h) (Or.inl ⟨by kernel_rfl, fun w hSw => by first | (go_simp; done) | (dsimp only at hSw; obtain ⟨⟨x0, x1, x2, x3, x4, x5, x6⟩, ⟨y0, y1, y2, y3, y4, y5, y6⟩⟩ := hSw; go_simp; done) | rfl⟩) (by assumption) ?_
            simp only [Act.put, List.getElem_toArray, List.getElem_cons_succ, List.getElem_cons_zero, List.setIfInBounds_toArray, List.set_cons_succ, List.set_cons_zero]
            refine wpAnyH_take (i := 36) (v := .slice (some ⟨g, 0, none⟩) l.length vc) rfl (by kernel_rfl) (by kernel_rfl) (by kernel_rfl) (fun _ _ _ h => h) (Or.inl ⟨by kernel_rfl, fun w hSw => by first | (go_simp; done) | (dsimp only at hSw; obtain ⟨⟨x0, x1, x2, x3, x4, x5, x6⟩, ⟨y0, y1, y2, y3, y4, y5, y6⟩⟩ := hSw; go_simp; done) | rfl⟩) (by assumption) ?_
            simp only [Act.put, List.getElem_toArray, List.getElem_cons_succ, List.getElem_cons_zero, List.setIfInBounds_toArray, List.set_cons_succ, List.set_cons_zero]
            refine wpAnyH_take (i := 38) (v := .slice (some ⟨g, 0, none⟩) l.length vc) rfl (by kernel_rfl) (by kernel_rfl) (by kernel_rfl) (fun _ _ _ h => h) (Or.inl ⟨by kernel_rfl, fun w hSw => by first | (go_simp; done) | (dsimp only at hSw; obtain ⟨⟨x0, x1, x2, x3, x4, x5, x6⟩, ⟨y0, y1, y2, y3, y4, y5, y6⟩⟩ := hSw; go_simp; done) | rfl⟩) (by assumption) ?_
            simp only [Act.put, List.getElem_toArray, List.getElem_cons_succ, List.getElem_cons_zero, List.setIfInBounds_toArray, List.set_cons_succ, List.set_cons_zero]
            refine wpAnyH_ready (rs := [37]) (by kernel_rfl) (by simp) ?_
            refine AllReadyH.cons rfl (fun K hK => ?_) AllReadyH.nil
            go_simp
            go_wp2_with (go_at_call 54; (with_reducible refine (HHI.out _ I15).mono ?_); rintro e u16 ⟨rfl, L16⟩; have K16 : Below W.heap.size W u16 := K15.trans (L16.mono K15.size); have I16 := I15.on L16)
            refine hK.out _ _ ?_ (fun hHeld2 => ?_)
            · first | exact ⟨HBP.out.on K17 hp0, HBQ.out.on K17 hq0⟩ | exact ⟨HBP.out.on K16 hp0, HBQ.out.on K16 hq0⟩ | exact ⟨HBP.out.on K15 hp0, HBQ.out.on K15 hq0⟩ | exact ⟨HBP.out.on K14 hp0, HBQ.out.on K14 hq0⟩ | exact ⟨HBP.out.on K13 hp0, HBQ.out.on K13 hq0⟩ | exact ⟨HBP.out.on K12 hp0, HBQ.out.on K12 hq0⟩ | exact ⟨HBP.out.on K11 hp0, HBQ.out.on K11 hq0⟩
            clear hK K hHeld
            have hHeld := hHeld2
            clear hHeld2
            refine wpAnyH_ready (rs := [39]) (by kernel_rfl) (by simp) ?_
            refine AllReadyH.cons rfl (fun K hK => ?_) AllReadyH.nil
            go_simp
            go_wp2_with (go_at_call 52; (with_reducible refine (HHS.out _ I16).mono ?_); rintro e u17 ⟨rfl, L17⟩; have K17 : Below W.heap.size W u17 := K16.trans (L17.mono K16.size); have I17 := I16.on L17)
            refine hK.out _ _ ?_ (fun hHeld2 => ?_)
            · first | exact ⟨HBP.out.on K17 hp0, HBQ.out.on K17 hq0⟩ | exact ⟨HBP.out.on K16 hp0, HBQ.out.on K16 hq0⟩ | exact ⟨HBP.out.on K15 hp0, HBQ.out.on K15 hq0⟩ | exact ⟨HBP.out.on K14 hp0, HBQ.out.on K14 hq0⟩ | exact ⟨HBP.out.on K13 hp0, HBQ.out.on K13 hq0⟩ | exact ⟨HBP.out.on K12 hp0, HBQ.out.on K12 hq0⟩ | exact ⟨HBP.out.on K11 hp0, HBQ.out.on K11 hq0⟩
            clear hK K hHeld
            have hHeld := hHeld2
            clear hHeld2
            refine wpAnyH_take (i := 40) (v := .bool true) rfl (by kernel_rfl) (by kernel_rfl) (by kernel_rfl) (fun _ _ _ h => h) (Or.inl ⟨by kernel_rfl, fun w hSw => by first | (go_simp; done) | (dsimp only at hSw; obtain ⟨⟨x0, x1, x2, x3, x4, x5, x6⟩, ⟨y0, y1, y2, y3, y4, y5, y6⟩⟩ := hSw; go_simp; done) | rfl⟩) (by assumption) ?_
            simp only [Act.put, List.getElem_toArray, List.getElem_cons_succ, List.getElem_cons_zero, List.setIfInBounds_toArray, List.set_cons_succ, List.set_cons_zero]
            refine wpAnyH_take (i := 41) (v := .bool true) rfl (by kernel_rfl) (by kernel_rfl) (by kernel_rfl) (fun _ _ _ h => h) (Or.inl ⟨by kernel_rfl, fun w hSw => by first | (go_simp; done) | (dsimp only at hSw; obtain ⟨⟨x0, x1, x2, x3, x4, x5, x6⟩, ⟨y0, y1, y2, y3, y4, y5, y6⟩⟩ := hSw; go_simp; done) | rfl⟩) (by assumption) ?_
            simp only [Act.put, List.getElem_toArray, List.getElem_cons_succ, List.getElem_cons_zero, List.setIfInBounds_toArray, List.set_cons_succ, List.set_cons_zero]
            refine wpAnyH_take (i := 42) (v := .bool true) rfl (by kernel_rfl) (by kernel_rfl) (by kernel_rfl) (fun _ _ _ h => h) (Or.inl ⟨by kernel_rfl, fun w hSw => by first | (go_simp; done) | (dsimp only at hSw; obtain ⟨⟨x0, x1, x2, x3, x4, x5, x6⟩, ⟨y0, y1, y2, y3, y4, y5, y6⟩⟩ := hSw; go_simp; done) | rfl⟩) (by assumption) ?_
            simp only [Act.put, List.getElem_toArray, List.getElem_cons_succ, List.getElem_cons_zero, List.setIfInBounds_toArray, List.set_cons_succ, List.set_cons_zero]
            refine wpAnyH_done (by kernel_rfl) ?_ _
            clear hHeld
            go_wp2
            go_ret
            exact ⟨rfl, KW.trans (K17.mono KW.size)⟩
  · clear w0
    go_enter Try.func8, Try.ntmps8
    go_wp2_with fail
    refine (Cur.big_yes a0 len0 cap0 _ hb).mono ?_
    rintro e w1 ⟨rfl, rfl⟩
    go_wp2
    go_ret
    exact ⟨rfl, Below.refl _ _⟩

set_option maxRecDepth 100000 in
theorem contract (H : Type) (enc : TypeId × Value → H) (W : World) (base : Nat) (args : Array Value) (ds gs : List (DataW H)) (before : List MemPlace)
    (hval : ∀ (j : Nat) t v, Try.f8.params[j]? = some t → args[j]? = some v → Value.okWide Try.prog W .any base t v)
    (hW : DataW.Whole enc Try.prog Try.f8.params.toList Rows.fnMeetSpec.vars false W args.toList ds gs before) :
    Calls Try.prog 8 args W fun e W' => ∃ v, e = .returned v ∧ Rows.fnMeetSpec.post enc Try.prog Try.f8 false true false false W args v W' := by
  have hW' := hW
  obtain ⟨p, q, hA0, hV, rfl, hfz, hnd⟩ := hW
  have hA : DataW.TrodAll enc Try.prog W 0 (fun _ => true) true Try.f8.params.toList args.toList ds p := hA0
  rw [Try.params8] at hA hval
  obtain ⟨v0, vs0, d0, ds0, p0, q0, hargs, rfl, rfl, h0, r0⟩ := trodAll_cons hA
  obtain ⟨rfl, rfl, rfl⟩ := trodAll_nil r0
  obtain rfl : args = #[v0] := by cases args; simp_all
  obtain ⟨rfl, rfl⟩ := trodVars_none hV
  have k0 := h0
  have lt0 : ∀ x ∈ p0, x.block < W.heap.size := by obtain ⟨m, hm⟩ := k0; exact DataW.trod_lt m _ _ _ hm
  obtain ⟨a0, len0, cap0, rfl⟩ := okWide_slice Try.underlying22 (hval 0 22 v0 rfl rfl)
  obtain ⟨z0, w0⟩ : ∃ zs, IsRow .u8 W a0 len0 cap0 zs := by
    obtain ⟨fuel, hf⟩ := h0
    rcases open_ints Try.underlying22 Try.underlying5 (by kernel_rfl) hf with ⟨hcs, _⟩ | ⟨x, l, c, zs, hcs, _, hl, hm, hz, _, hcell, hwz⟩
    · simp [Value.cells] at hcs
      obtain ⟨rfl, rfl, rfl⟩ := hcs
      exact ⟨[], .inl ⟨rfl, rfl, rfl, rfl⟩⟩
    · simp [Value.cells] at hcs
      obtain ⟨rfl, rfl, rfl⟩ := hcs
      exact ⟨zs, .inr ⟨_, rfl, hl, hm, by simpa using hz, hcell, hwz⟩⟩
  clear hA0
  refine (walk a0 len0 cap0 z0 W w0 ).mono fun e W' ⟨he, bel⟩ => ?_
  subst he
  exact ⟨_, rfl, _, _, _, [], _, [], hW', trodAll_mk1 (shut_bool Try.underlying4 _), (trodAll_cons_mk (Below.trod Errs.laidOut (by kernel_rfl) (of_decide_eq_true (by kernel_rfl)) k0 bel lt0) trodAll_mk0), rfl, bel.frame _, fun h => by cases h⟩

set_option maxRecDepth 100000 in
theorem lifted (os : Os) (started : os.Started) (H : Type) (enc : TypeId × Value → H) :
    ReturnsInHanded {} Try.checked os 8 .any (Rows.fnMeetSpec.pre6 enc Try.prog Try.f8 Rows.fnMeetRow.domain false) (Rows.fnMeetSpec.post enc Try.prog Try.f8 false true false false) := by
  refine returnsInHanded_of_change (C := Try.checked) Errs.own started (by kernel_rfl) Try.func8
    (ChangeSpec.witness6 (enc := enc) (C := Try.checked) false ⟨#[], #[.slice none 0 0], []⟩ 8 (by kernel_rfl) (by kernel_rfl) (by kernel_rfl) (by kernel_rfl)) ?_
  intro W base args ds gs before hval hW _ _
  exact contract H enc W base args ds gs before hval hW

set_option maxRecDepth 100000 in
theorem over : Rows.fnMeetRow.holds Try.pinned (OpenSpec.ofChange Rows.fnMeetSpec) :=
  OpenClaim.holds_of_wide 8 Try.f8 rfl rfl rfl rfl rfl rfl rfl ⟨rfl, rfl, rfl, rfl, rfl⟩ rfl rfl rfl rfl rfl (by kernel_rfl) Try.func8 (by kernel_rfl)
    (of_decide_eq_true (by kernel_rfl)) (by unfold Func.isWrapper; first | (rw [if_pos (by decide +kernel)]; kernel_rfl) | (rw [if_neg (by decide +kernel)]; exact ⟨rfl, rfl⟩))
    (fun os started H enc _ => lifted os started H enc)
end Go.Proofs.Ytikdganlpedbead.fnMeet
namespace Go.Proofs.Ytikdganlpedbead
theorem FnMeet_holds : Rows.FnMeetSaid := fnMeet.over
end Go.Proofs.Ytikdganlpedbead

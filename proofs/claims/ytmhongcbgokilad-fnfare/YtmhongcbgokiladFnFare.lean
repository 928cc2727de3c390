/- For every code the law of fares answers true: BaseCost and CheapWay are those of the model and say the same, the way that CheapWay names costs what BaseCost says and leads from one end to the other, no other way is cheaper, the way back costs the same, and no way by a third station is cheaper. No condition. -/
import Derived.Test.YtmhongcbgokiladErrs
import Derived.ShutString
import Derived.Lib.SmallJoins
import Derived.Test.YtmhongcbgokiladCurTf3
import Derived.Test.YtmhongcbgokiladMathFar
import Derived.Test.YtmhongcbgokiladTfBase
import Derived.Test.YtmhongcbgokiladTfWayI
import Derived.Test.YtmhongcbgokiladTfWayS
import Derived.Test.YtmhongcbgokiladCurNum
namespace Go.Proofs.Ytmhongcbgokilad.fnFare
open Go.ChangeShapes Go.WideShapes Go.ChangeAt Go.RowKit Go.Joins
open Go.ChangeMaps (open_string shut_string)
set_option linter.unusedVariables false

def IsRow (k : IntKind) (w : World) (a : Option Addr) (len cap : Nat) (zs : List Int) : Prop :=
  (a = none ∧ len = 0 ∧ cap = 0 ∧ zs = []) ∨
  ∃ x, a = some x ∧ len ≤ cap ∧ cap ≤ maxLen ∧ zs.length = cap ∧ (∀ i, i < zs.length → w.cell? (x.add i) = some (.int k (zs.getD i 0))) ∧ ∀ n ∈ zs, (Lit.int k n).wf = true

theorem bw_said {l : List Tf.Ed} {a b : Int} {r : Option Tf.Wy} (h : Tf.bw l a b r) : (r.isSome = false → Tf.cOf r = 0 ∧ Tf.sOf r = []) ∧ (r.isSome = true → ∃ m, Tf.bw l a b (some m) ∧ Tf.cOf r = m.c ∧ Tf.sOf r = m.s) := by
  cases r with
  | none => exact ⟨fun _ => ⟨rfl, rfl⟩, fun h => (by cases h)⟩
  | some m => exact ⟨fun h => (by cases h), fun _ => ⟨m, h, rfl, rfl⟩⟩

theorem last_at {z : List Int} {k : Nat} (h : z.length = k + 1) : z[k]'(by omega) = z.getLastD 0 := by
  have e : z.length - 1 = k := by omega
  rw [List.getLastD_eq_getLast?, List.getLast?_eq_getElem?, e, List.getElem?_eq_getElem (by omega)]
  rfl

theorem way_some {l : List Tf.Ed} {z : List Int} (h : 0 ≤ Tf.wayC l z) : ∃ x r, z = x :: r := by
  cases z with
  | nil => unfold Tf.wayC at h; rw [if_neg (by simp)] at h; omega
  | cons x r => exact ⟨x, r, rfl⟩


set_option maxRecDepth 100000 in
set_option maxHeartbeats 4000000 in
theorem walk (a0 : Option Addr) (len0 cap0 : Nat) (z0 : List Int) (w : World) (w0 : IsRow .u8 w a0 len0 cap0 z0)  :
    Calls Try.prog 5 #[.slice a0 len0 cap0] w fun e w' => e = .returned (.bool true) ∧ Below w.heap.size w w' := by
  by_cases hb : len0 ≤ 1048576
  · have B0 := Cur.bytes_of w a0 len0 cap0 z0 w0
    clear w0
    go_enter Try.func5, Try.ntmps5
    go_wp2_with fail
    refine (Cur.big_no a0 len0 cap0 _ hb).mono ?_
    rintro e w1 ⟨rfl, rfl⟩
    go_wp2_with fail
    refine (Tf.drawBaseCost a0 len0 cap0 _ hb B0).mono ?_
    rintro e w2 ⟨⟨l, va, vc, A, B, rfl, hl, E2⟩, K2⟩
    have hm : l.length ≤ maxLen := by unfold maxLen; omega
    go_wp2_with fail
    refine (Tf.implBase_val va l vc A B _ hm E2).mono ?_
    rintro e w3 ⟨r, hr, rfl, hrb, L3⟩
    have E3 := E2.on L3
    have K3 := Pk.join_below K2 L3
    clear E2 K2 L3
    go_wp2_with fail
    refine (Tf.specBase_val va l vc A B _ hm E3).mono ?_
    rintro e w4 ⟨r2, hr2, rfl, -, L4⟩
    obtain rfl := Tf.bw_one hr hr2
    have E4 := E3.on L4
    have K4 := Pk.join_below K3 L4
    clear E3 K3 L4 hr2
    go_wp2_with fail
    refine (Tf.implCheap_val va l vc A B _ hm E4).mono ?_
    rintro e w5 ⟨r3, ad, gc, hr3, rfl, hlen, G5, L5, -⟩
    obtain rfl := Tf.bw_one hr hr3
    have E5 := E4.on L5
    have K5 := Pk.join_below K4 L5
    clear E4 K4 L5 hr3
    go_wp2_with fail
    refine (Tf.specCheap_val va l vc A B _ hm E5).mono ?_
    rintro e w6 ⟨r4, ud, uc, hr4, rfl, -, S6, L6, -⟩
    obtain rfl := Tf.bw_one hr hr4
    have E6 := E5.on L6
    have G6 := G5.on L6
    have K6 := Pk.join_below K5 L6
    have HB2 : Hid (_ ∧ _) := bw_said hr
    have HN : Hid (r.isSome = false → Tf.cOf r = 0 ∧ Tf.sOf r = []) := HB2.out.1
    have HS : Hid (r.isSome = true → ∃ m, Tf.bw l A B (some m) ∧ Tf.cOf r = m.c ∧ Tf.sOf r = m.s) := HB2.out.2
    have hms : (Tf.sOf r).length ≤ 1048576 := by omega
    clear E5 G5 K5 L6 hr hr4 HB2
    obtain ⟨hc0, hc1⟩ := hrb
    generalize Tf.cOf r = c at *
    generalize Tf.sOf r = s at *
    generalize r.isSome = Bo at *
    clear hlen
    go_wp2_with fail
    refine (Tf.sameInts_same ad ud s gc uc _ hms G6 S6).mono ?_
    rintro e w7 ⟨rfl, D7⟩
    have L7 := D7.below w6.heap.size
    have E7 := E6.on L7
    have G7 := G6.on L7
    have K7 := Pk.join_below K6 L7
    clear E6 G6 S6 K6 L7 D7
    have HBB : Hid (∀ w, Tf.Edges w va l → _) := fun w h => Tf.implBase_val va l vc B A w hm h
    have HBA : Hid (∀ c w, Tf.Edges w va l → _) := fun c w h => Tf.implBase_val va l vc A c w hm h
    have HBC : Hid (∀ c w, Tf.Edges w va l → _) := fun c w h => Tf.implBase_val va l vc c B w hm h
    have HWI : Hid (∀ (z : List Int) (ad : Option Addr) (gc : Nat) (w : World), z.length ≤ 1048576 → Tf.Edges w va l → Tf.Ints w ad z → Calls Try.prog 32 #[.slice va l.length vc, .slice ad z.length gc] w fun e w' => e = .returned (.int .i64 (Tf.wayC l z)) ∧ Below w.heap.size w w') := fun z ad gc w h1 h2 h3 => Tf.implWay_val va ad l z vc gc w hm h1 h2 h3
    clear hm
    go_wp2_with fail
    refine (Tf.drawWayCost a0 len0 cap0 _ hb (B0.on K7)).mono ?_
    rintro e w8 ⟨⟨l2, vb, vd, z2, ub, ud2, rfl, hl2, hz2, E8', Z8⟩, L8⟩
    have hm2 : l2.length ≤ maxLen := by unfold maxLen; omega
    have E8 := E7.on L8
    have G8 := G7.on L8
    have K8 := Pk.join_below K7 L8
    clear E7 G7 K7 L8
    go_wp2_with fail
    refine (Tf.implWay_val vb ub l2 z2 vd ud2 _ hm2 (by omega) E8' Z8).mono ?_
    rintro e w9 ⟨rfl, L9⟩
    have E9 := E8.on L9
    have G9 := G8.on L9
    have E9' := E8'.on L9
    have Z9 := Z8.on L9
    have K9 := Pk.join_below K8 L9
    clear E8 G8 E8' Z8 K8 L9
    go_wp2_with fail
    refine (Tf.specWay_val vb ub l2 z2 vd ud2 _ hm2 (by omega) E9' Z9).mono ?_
    rintro e w10 ⟨rfl, L10⟩
    have E10 := E9.on L10
    have G10 := G9.on L10
    have E10' := E9'.on L10
    have Z10 := Z9.on L10
    have K10 := Pk.join_below K9 L10
    clear E9 G9 E9' Z9 K9 L10
    by_cases hC : 0 ≤ Tf.wayC l2 z2
    · obtain ⟨zx, zr, ez⟩ := way_some hC
      have HLC : Hid (∀ y, 1 ≤ zx → zx ≤ 9999 → Tf.bw l2 zx (z2.getLastD 0) y → y.isSome = true ∧ Tf.cOf y ≤ Tf.wayC l2 z2) := by
        intro y h1 h2 h3
        refine Tf.least_cost hC ?_ ?_ ?_
        · rw [ez]; exact h1
        · rw [ez]; exact h2
        · have e9 : z2.headD 0 = zx := by rw [ez]; rfl
          rw [e9]
          exact h3
      have hpos : z2.length = zr.length + 1 := by rw [ez]; rfl
      obtain ⟨g, o, rfl, hgl, d0⟩ := Z10.at 0 (by omega)
      obtain ⟨g', o', eg, -, d1⟩ := Z10.at zr.length (by omega)
      simp only [Option.some.injEq, Addr.mk.injEq] at eg
      obtain ⟨rfl, rfl, -⟩ := eg
      have f0 : z2[0] = zx := by simp [ez]
      have f1 : z2[zr.length] = z2.getLastD 0 := last_at hpos
      rw [f0, Nat.add_zero] at d0
      rw [f1] at d1
      have HB5 : Hid (∀ c w, Tf.Edges w vb l2 → _) := fun c w h => Tf.implBase_val vb l2 vd zx c w hm2 h
      have HE10' : Hid (Tf.Edges w10 vb l2) := E10'
      clear f0 f1 Z10 E10' ez
      generalize z2.getLastD 0 = zl at *
      generalize Tf.wayC l2 z2 = C0 at *
      generalize z2.length = N at *
      generalize zr.length = k2 at *
      have hw1 : IntKind.i64.wrap ((N : Int) - 1) = (k2 : Int) := by rw [IntKind.wrap_i64]; omega
      have hw2 : wrap64 ((N : Int) - 1) = (k2 : Int) := by unfold wrap64; omega
      have hNk : k2 < N := by omega
      have hN0 : 0 < N := by omega
      clear hpos
      have dC : decide (0 ≤ C0) = true := decide_eq_true hC
      by_cases h1 : 1 ≤ zx
      · have dh1 : decide (1 ≤ zx) = true := decide_eq_true h1
        by_cases h2 : zx ≤ 9999
        · have dh2 : decide (zx ≤ 9999) = true := decide_eq_true h2
          have HLC2 : Hid (∀ y, Tf.bw l2 zx zl y → y.isSome = true ∧ Tf.cOf y ≤ C0) := fun y h => HLC.out y h1 h2 h
          have HC2 : Hid (∀ w', Below w10.heap.size w10 w' → Calls Try.prog 26 #[.slice vb l2.length vd, .int .i64 zx, .int .i64 zl] w' fun e w'' => ∃ y : Int, y ≤ C0 ∧ 0 ≤ y ∧ e = .returned (.tuple #[.int .i64 y, .bool true]) ∧ Below w'.heap.size w' w'') := by
            intro w' hw
            refine (HB5.out zl w' (HE10'.out.on hw)).mono ?_
            rintro e w'' ⟨y, hy, rfl, hyb, L⟩
            obtain ⟨k1, k2⟩ := HLC2.out y hy
            rw [k1]
            exact ⟨_, k2, hyb.1, rfl, L⟩
          clear HLC HLC2 HB5 HE10'
          have HN1 : Hid (_) := HN
          cases Bo
          · have HNB : Hid (c = 0 ∧ s = []) := HN.out rfl
            obtain ⟨rfl, rfl⟩ := HNB.out
            clear HN HS HBB HBA HBC HWI HN1 HNB E10 G10
            go_wp2
            go_region_with (go_at_call 26; refine Calls.mono (HC2.out _ (by first | exact Below.refl _ _ | exact (Below.refl _ _).drew)) ?_; rintro e w11 ⟨y, hy0, hy1, rfl, M11⟩; have L11 : Below w10.heap.size w10 w11 := (by first | exact M11 | exact ((Below.refl _ _).drew).trans M11); have dy : decide (C0 < y) = false := decide_eq_false (by omega); have K11 := Pk.join_below K10 L11; clear M11 L11)
            all_goals
              go_wp2
              go_ret
              exact ⟨rfl, K11⟩
          · go_wp2
            go_region_with (go_at_call 26; refine Calls.mono (HC2.out _ (by first | exact Below.refl _ _ | exact (Below.refl _ _).drew)) ?_; rintro e w11 ⟨y, hy0, hy1, rfl, M11⟩; have L11 : Below w10.heap.size w10 w11 := (by first | exact M11 | exact ((Below.refl _ _).drew).trans M11); have dy : decide (C0 < y) = false := decide_eq_false (by omega))
            all_goals
              have E11 := E10.on L11
              have G11 := G10.on L11
              have K11 := Pk.join_below K10 L11
              clear HN1 HC2 E10 G10 K10 M11 L11
              have EW := E11
              have GW := G11
              have KW := K11
              clear E11 G11 K11
              obtain ⟨m, hm, rfl, rfl⟩ := HS.out (by first | rfl | trivial)
              obtain ⟨e1, ⟨rr, e2⟩, e3⟩ := Tf.best_cost (Tf.ask_is hm.1).1 hm.2
              have HM : Hid (Tf.bw l A B (some m)) := hm
              have HE1 : Hid (Tf.wayC l m.s = m.c) := e1
              have HE2 : Hid (m.s = A :: rr) := e2
              have HE3 : Hid (m.s.getLastD 0 = B) := e3
              clear hm e1 e2 e3 HN HS
              go_wp2_with fail
              refine (HBB.out _ EW).mono ?_
              rintro e y1 ⟨yb, hyb, rfl, -, L1⟩
              have hbk := Tf.bw_back HM.out hyb
              have E1 := EW.on L1
              have G1 := GW.on L1
              have K1 := Pk.join_below KW L1
              clear hyb EW GW KW L1
              generalize Tf.cOf yb = cb at *
              subst hbk
              generalize yb.isSome = ob at *
              go_wp2_with fail
              refine (Cur.at_any a0 len0 cap0 3 _ hb (by omega) (B0.on K1)).mono ?_
              rintro e y2 ⟨⟨q, rfl, hq0, hq1⟩, rfl⟩
              have hq8 : 0 ≤ q.tmod 8 ∧ q.tmod 8 < 8 := by rw [Int.tmod_eq_emod_of_nonneg hq0]; omega
              obtain ⟨hq2, hq3⟩ := hq8
              go_wp2_with fail
              refine (HBA.out _ _ E1).mono ?_
              rintro e y3 ⟨yp, hyp, rfl, hp, L3⟩
              have E3 := E1.on L3
              have G3 := G1.on L3
              have K3 := Pk.join_below K1 L3
              clear E1 G1 K1 L3
              go_wp2_with fail
              refine (HBC.out _ _ E3).mono ?_
              rintro e y4 ⟨yq, hyq, rfl, hq, L4⟩
              have E4 := E3.on L4
              have G4 := G3.on L4
              have K4 := Pk.join_below K3 L4
              have HTR : Hid (yp.isSome = true → yq.isSome = true → m.c ≤ Tf.cOf yp + Tf.cOf yq) := by
                intro h1 h2
                cases yp with
                | none => cases h1
                | some p1 =>
                  cases yq with
                  | none => cases h2
                  | some q1 => exact Tf.bw_three HM.out hyp hyq
              clear E3 G3 K3 L4 hyp hyq
              obtain ⟨hp0, hp1⟩ := hp
              obtain ⟨hq4, hq5⟩ := hq
              generalize Tf.cOf yp = cp at *
              generalize Tf.cOf yq = cq at *
              generalize yp.isSome = o1 at *
              generalize yq.isSome = o2 at *
              have HWC := HWI.out m.s ad gc y4 hms E4 G4
              rw [HE1.out] at HWC
              have hpos : m.s.length = rr.length + 1 := by rw [HE2.out]; rfl
              obtain ⟨g, o, rfl, -, d0⟩ := G4.at 0 (by omega)
              obtain ⟨g', o', eg, hgl, d1⟩ := G4.at rr.length (by omega)
              simp only [Option.some.injEq, Addr.mk.injEq] at eg
              obtain ⟨rfl, rfl, -⟩ := eg
              have f0 : m.s[0] = A := by simp [HE2.out]
              have f1 : m.s[rr.length] = B := (last_at hpos).trans HE3.out
              rw [f0, Nat.add_zero] at d0
              rw [f1] at d1
              clear f0 f1 G4 E4 HWI HBA HBB HBC HM HE1 HE2 HE3
              generalize m.s.length = N at *
              subst hpos
              generalize rr.length = k9 at *
              generalize m.c = mc at *
              go_wp2_with fail
              refine HWC.mono ?_
              rintro e y5 ⟨rfl, L5⟩
              have K5 := Pk.join_below K4 L5
              have i0 : y5.cell? ⟨g, o, none⟩ = some (.int .i64 A) := (L5.cell (p := ⟨g, o, none⟩) hgl).trans d0
              have i1 : y5.cell? ⟨g, o + k9, none⟩ = some (.int .i64 B) := (L5.cell (p := ⟨g, o + k9, none⟩) hgl).trans d1
              clear d0 d1 K4 L5 HWC
              cases o1
              · go_wp2
                go_ret
                exact ⟨rfl, K5⟩
              · cases o2
                · go_wp2
                  go_ret
                  exact ⟨rfl, K5⟩
                · have ht := HTR.out rfl rfl
                  have dt : decide (mc ≤ cp + cq) = true := decide_eq_true ht
                  go_wp2
                  go_ret
                  exact ⟨rfl, K5⟩
        · have dh2 : decide (zx ≤ 9999) = false := decide_eq_false h2
          clear HLC HB5 HE10'
          have EW := E10
          have GW := G10
          have KW := K10
          clear E10 G10 K10
          cases Bo
          · obtain ⟨rfl, rfl⟩ := HN.out rfl
            have KW' := KW
            clear HN HS HBB HBA HBC HWI EW GW
            go_wp2
            go_ret
            exact ⟨rfl, KW'⟩
          · obtain ⟨m, hm, rfl, rfl⟩ := HS.out (by first | rfl | trivial)
            obtain ⟨e1, ⟨rr, e2⟩, e3⟩ := Tf.best_cost (Tf.ask_is hm.1).1 hm.2
            have HM : Hid (Tf.bw l A B (some m)) := hm
            have HE1 : Hid (Tf.wayC l m.s = m.c) := e1
            have HE2 : Hid (m.s = A :: rr) := e2
            have HE3 : Hid (m.s.getLastD 0 = B) := e3
            clear hm e1 e2 e3 HN HS
            go_wp2_with fail
            refine (HBB.out _ EW).mono ?_
            rintro e y1 ⟨yb, hyb, rfl, -, L1⟩
            have hbk := Tf.bw_back HM.out hyb
            have E1 := EW.on L1
            have G1 := GW.on L1
            have K1 := Pk.join_below KW L1
            clear hyb EW GW KW L1
            generalize Tf.cOf yb = cb at *
            subst hbk
            generalize yb.isSome = ob at *
            go_wp2_with fail
            refine (Cur.at_any a0 len0 cap0 3 _ hb (by omega) (B0.on K1)).mono ?_
            rintro e y2 ⟨⟨q, rfl, hq0, hq1⟩, rfl⟩
            have hq8 : 0 ≤ q.tmod 8 ∧ q.tmod 8 < 8 := by rw [Int.tmod_eq_emod_of_nonneg hq0]; omega
            obtain ⟨hq2, hq3⟩ := hq8
            go_wp2_with fail
            refine (HBA.out _ _ E1).mono ?_
            rintro e y3 ⟨yp, hyp, rfl, hp, L3⟩
            have E3 := E1.on L3
            have G3 := G1.on L3
            have K3 := Pk.join_below K1 L3
            clear E1 G1 K1 L3
            go_wp2_with fail
            refine (HBC.out _ _ E3).mono ?_
            rintro e y4 ⟨yq, hyq, rfl, hq, L4⟩
            have E4 := E3.on L4
            have G4 := G3.on L4
            have K4 := Pk.join_below K3 L4
            have HTR : Hid (yp.isSome = true → yq.isSome = true → m.c ≤ Tf.cOf yp + Tf.cOf yq) := by
              intro h1 h2
              cases yp with
              | none => cases h1
              | some p1 =>
                cases yq with
                | none => cases h2
                | some q1 => exact Tf.bw_three HM.out hyp hyq
            clear E3 G3 K3 L4 hyp hyq
            obtain ⟨hp0, hp1⟩ := hp
            obtain ⟨hq4, hq5⟩ := hq
            generalize Tf.cOf yp = cp at *
            generalize Tf.cOf yq = cq at *
            generalize yp.isSome = o1 at *
            generalize yq.isSome = o2 at *
            have HWC := HWI.out m.s ad gc y4 hms E4 G4
            rw [HE1.out] at HWC
            have hpos : m.s.length = rr.length + 1 := by rw [HE2.out]; rfl
            obtain ⟨g, o, rfl, -, d0⟩ := G4.at 0 (by omega)
            obtain ⟨g', o', eg, hgl, d1⟩ := G4.at rr.length (by omega)
            simp only [Option.some.injEq, Addr.mk.injEq] at eg
            obtain ⟨rfl, rfl, -⟩ := eg
            have f0 : m.s[0] = A := by simp [HE2.out]
            have f1 : m.s[rr.length] = B := (last_at hpos).trans HE3.out
            rw [f0, Nat.add_zero] at d0
            rw [f1] at d1
            clear f0 f1 G4 E4 HWI HBA HBB HBC HM HE1 HE2 HE3
            generalize m.s.length = N at *
            subst hpos
            generalize rr.length = k9 at *
            generalize m.c = mc at *
            go_wp2_with fail
            refine HWC.mono ?_
            rintro e y5 ⟨rfl, L5⟩
            have K5 := Pk.join_below K4 L5
            have i0 : y5.cell? ⟨g, o, none⟩ = some (.int .i64 A) := (L5.cell (p := ⟨g, o, none⟩) hgl).trans d0
            have i1 : y5.cell? ⟨g, o + k9, none⟩ = some (.int .i64 B) := (L5.cell (p := ⟨g, o + k9, none⟩) hgl).trans d1
            clear d0 d1 K4 L5 HWC
            cases o1
            · go_wp2
              go_ret
              exact ⟨rfl, K5⟩
            · cases o2
              · go_wp2
                go_ret
                exact ⟨rfl, K5⟩
              · have ht := HTR.out rfl rfl
                have dt : decide (mc ≤ cp + cq) = true := decide_eq_true ht
                go_wp2
                go_ret
                exact ⟨rfl, K5⟩
      · have dh1 : decide (1 ≤ zx) = false := decide_eq_false h1
        clear HLC HB5 HE10'
        have EW := E10
        have GW := G10
        have KW := K10
        clear E10 G10 K10
        cases Bo
        · obtain ⟨rfl, rfl⟩ := HN.out rfl
          have KW' := KW
          clear HN HS HBB HBA HBC HWI EW GW
          go_wp2
          go_ret
          exact ⟨rfl, KW'⟩
        · obtain ⟨m, hm, rfl, rfl⟩ := HS.out (by first | rfl | trivial)
          obtain ⟨e1, ⟨rr, e2⟩, e3⟩ := Tf.best_cost (Tf.ask_is hm.1).1 hm.2
          have HM : Hid (Tf.bw l A B (some m)) := hm
          have HE1 : Hid (Tf.wayC l m.s = m.c) := e1
          have HE2 : Hid (m.s = A :: rr) := e2
          have HE3 : Hid (m.s.getLastD 0 = B) := e3
          clear hm e1 e2 e3 HN HS
          go_wp2_with fail
          refine (HBB.out _ EW).mono ?_
          rintro e y1 ⟨yb, hyb, rfl, -, L1⟩
          have hbk := Tf.bw_back HM.out hyb
          have E1 := EW.on L1
          have G1 := GW.on L1
          have K1 := Pk.join_below KW L1
          clear hyb EW GW KW L1
          generalize Tf.cOf yb = cb at *
          subst hbk
          generalize yb.isSome = ob at *
          go_wp2_with fail
          refine (Cur.at_any a0 len0 cap0 3 _ hb (by omega) (B0.on K1)).mono ?_
          rintro e y2 ⟨⟨q, rfl, hq0, hq1⟩, rfl⟩
          have hq8 : 0 ≤ q.tmod 8 ∧ q.tmod 8 < 8 := by rw [Int.tmod_eq_emod_of_nonneg hq0]; omega
          obtain ⟨hq2, hq3⟩ := hq8
          go_wp2_with fail
          refine (HBA.out _ _ E1).mono ?_
          rintro e y3 ⟨yp, hyp, rfl, hp, L3⟩
          have E3 := E1.on L3
          have G3 := G1.on L3
          have K3 := Pk.join_below K1 L3
          clear E1 G1 K1 L3
          go_wp2_with fail
          refine (HBC.out _ _ E3).mono ?_
          rintro e y4 ⟨yq, hyq, rfl, hq, L4⟩
          have E4 := E3.on L4
          have G4 := G3.on L4
          have K4 := Pk.join_below K3 L4
          have HTR : Hid (yp.isSome = true → yq.isSome = true → m.c ≤ Tf.cOf yp + Tf.cOf yq) := by
            intro h1 h2
            cases yp with
            | none => cases h1
            | some p1 =>
              cases yq with
              | none => cases h2
              | some q1 => exact Tf.bw_three HM.out hyp hyq
          clear E3 G3 K3 L4 hyp hyq
          obtain ⟨hp0, hp1⟩ := hp
          obtain ⟨hq4, hq5⟩ := hq
          generalize Tf.cOf yp = cp at *
          generalize Tf.cOf yq = cq at *
          generalize yp.isSome = o1 at *
          generalize yq.isSome = o2 at *
          have HWC := HWI.out m.s ad gc y4 hms E4 G4
          rw [HE1.out] at HWC
          have hpos : m.s.length = rr.length + 1 := by rw [HE2.out]; rfl
          obtain ⟨g, o, rfl, -, d0⟩ := G4.at 0 (by omega)
          obtain ⟨g', o', eg, hgl, d1⟩ := G4.at rr.length (by omega)
          simp only [Option.some.injEq, Addr.mk.injEq] at eg
          obtain ⟨rfl, rfl, -⟩ := eg
          have f0 : m.s[0] = A := by simp [HE2.out]
          have f1 : m.s[rr.length] = B := (last_at hpos).trans HE3.out
          rw [f0, Nat.add_zero] at d0
          rw [f1] at d1
          clear f0 f1 G4 E4 HWI HBA HBB HBC HM HE1 HE2 HE3
          generalize m.s.length = N at *
          subst hpos
          generalize rr.length = k9 at *
          generalize m.c = mc at *
          go_wp2_with fail
          refine HWC.mono ?_
          rintro e y5 ⟨rfl, L5⟩
          have K5 := Pk.join_below K4 L5
          have i0 : y5.cell? ⟨g, o, none⟩ = some (.int .i64 A) := (L5.cell (p := ⟨g, o, none⟩) hgl).trans d0
          have i1 : y5.cell? ⟨g, o + k9, none⟩ = some (.int .i64 B) := (L5.cell (p := ⟨g, o + k9, none⟩) hgl).trans d1
          clear d0 d1 K4 L5 HWC
          cases o1
          · go_wp2
            go_ret
            exact ⟨rfl, K5⟩
          · cases o2
            · go_wp2
              go_ret
              exact ⟨rfl, K5⟩
            · have ht := HTR.out rfl rfl
              have dt : decide (mc ≤ cp + cq) = true := decide_eq_true ht
              go_wp2
              go_ret
              exact ⟨rfl, K5⟩
    · have dC : decide (0 ≤ Tf.wayC l2 z2) = false := decide_eq_false hC
      generalize Tf.wayC l2 z2 = C0 at *
      clear E10' Z10
      have EW := E10
      have GW := G10
      have KW := K10
      clear E10 G10 K10
      cases Bo
      · obtain ⟨rfl, rfl⟩ := HN.out rfl
        have KW' := KW
        clear HN HS HBB HBA HBC HWI EW GW
        go_wp2
        go_ret
        exact ⟨rfl, KW'⟩
      · obtain ⟨m, hm, rfl, rfl⟩ := HS.out (by first | rfl | trivial)
        obtain ⟨e1, ⟨rr, e2⟩, e3⟩ := Tf.best_cost (Tf.ask_is hm.1).1 hm.2
        have HM : Hid (Tf.bw l A B (some m)) := hm
        have HE1 : Hid (Tf.wayC l m.s = m.c) := e1
        have HE2 : Hid (m.s = A :: rr) := e2
        have HE3 : Hid (m.s.getLastD 0 = B) := e3
        clear hm e1 e2 e3 HN HS
        go_wp2_with fail
        refine (HBB.out _ EW).mono ?_
        rintro e y1 ⟨yb, hyb, rfl, -, L1⟩
        have hbk := Tf.bw_back HM.out hyb
        have E1 := EW.on L1
        have G1 := GW.on L1
        have K1 := Pk.join_below KW L1
        clear hyb EW GW KW L1
        generalize Tf.cOf yb = cb at *
        subst hbk
        generalize yb.isSome = ob at *
        go_wp2_with fail
        refine (Cur.at_any a0 len0 cap0 3 _ hb (by omega) (B0.on K1)).mono ?_
        rintro e y2 ⟨⟨q, rfl, hq0, hq1⟩, rfl⟩
        have hq8 : 0 ≤ q.tmod 8 ∧ q.tmod 8 < 8 := by rw [Int.tmod_eq_emod_of_nonneg hq0]; omega
        obtain ⟨hq2, hq3⟩ := hq8
        go_wp2_with fail
        refine (HBA.out _ _ E1).mono ?_
        rintro e y3 ⟨yp, hyp, rfl, hp, L3⟩
        have E3 := E1.on L3
        have G3 := G1.on L3
        have K3 := Pk.join_below K1 L3
        clear E1 G1 K1 L3
        go_wp2_with fail
        refine (HBC.out _ _ E3).mono ?_
        rintro e y4 ⟨yq, hyq, rfl, hq, L4⟩
        have E4 := E3.on L4
        have G4 := G3.on L4
        have K4 := Pk.join_below K3 L4
        have HTR : Hid (yp.isSome = true → yq.isSome = true → m.c ≤ Tf.cOf yp + Tf.cOf yq) := by
          intro h1 h2
          cases yp with
          | none => cases h1
          | some p1 =>
            cases yq with
            | none => cases h2
            | some q1 => exact Tf.bw_three HM.out hyp hyq
        clear E3 G3 K3 L4 hyp hyq
        obtain ⟨hp0, hp1⟩ := hp
        obtain ⟨hq4, hq5⟩ := hq
        generalize Tf.cOf yp = cp at *
        generalize Tf.cOf yq = cq at *
        generalize yp.isSome = o1 at *
        generalize yq.isSome = o2 at *
        have HWC := HWI.out m.s ad gc y4 hms E4 G4
        rw [HE1.out] at HWC
        have hpos : m.s.length = rr.length + 1 := by rw [HE2.out]; rfl
        obtain ⟨g, o, rfl, -, d0⟩ := G4.at 0 (by omega)
        obtain ⟨g', o', eg, hgl, d1⟩ := G4.at rr.length (by omega)
        simp only [Option.some.injEq, Addr.mk.injEq] at eg
        obtain ⟨rfl, rfl, -⟩ := eg
        have f0 : m.s[0] = A := by simp [HE2.out]
        have f1 : m.s[rr.length] = B := (last_at hpos).trans HE3.out
        rw [f0, Nat.add_zero] at d0
        rw [f1] at d1
        clear f0 f1 G4 E4 HWI HBA HBB HBC HM HE1 HE2 HE3
        generalize m.s.length = N at *
        subst hpos
        generalize rr.length = k9 at *
        generalize m.c = mc at *
        go_wp2_with fail
        refine HWC.mono ?_
        rintro e y5 ⟨rfl, L5⟩
        have K5 := Pk.join_below K4 L5
        have i0 : y5.cell? ⟨g, o, none⟩ = some (.int .i64 A) := (L5.cell (p := ⟨g, o, none⟩) hgl).trans d0
        have i1 : y5.cell? ⟨g, o + k9, none⟩ = some (.int .i64 B) := (L5.cell (p := ⟨g, o + k9, none⟩) hgl).trans d1
        clear d0 d1 K4 L5 HWC
        cases o1
        · go_wp2
          go_ret
          exact ⟨rfl, K5⟩
        · cases o2
          · go_wp2
            go_ret
            exact ⟨rfl, K5⟩
          · have ht := HTR.out rfl rfl
            have dt : decide (mc ≤ cp + cq) = true := decide_eq_true ht
            go_wp2
            go_ret
            exact ⟨rfl, K5⟩
  · go_enter Try.func5, Try.ntmps5
    go_wp2_with fail
    refine (Cur.big_yes a0 len0 cap0 _ hb).mono ?_
    rintro e w1 ⟨rfl, rfl⟩
    go_wp2
    go_ret
    exact ⟨rfl, Below.refl _ _⟩

set_option maxRecDepth 100000 in
theorem contract (H : Type) (enc : TypeId × Value → H) (W : World) (base : Nat) (args : Array Value) (ds gs : List (DataW H)) (before : List MemPlace)
    (hval : ∀ (j : Nat) t v, Try.f5.params[j]? = some t → args[j]? = some v → Value.okWide Try.prog W .any base t v)
    (hW : DataW.Whole enc Try.prog Try.f5.params.toList Rows.fnFareSpec.vars false W args.toList ds gs before) :
    Calls Try.prog 5 args W fun e W' => ∃ v, e = .returned v ∧ Rows.fnFareSpec.post enc Try.prog Try.f5 false true false false W args v W' := by
  have hW' := hW
  obtain ⟨p, q, hA0, hV, rfl, hfz, hnd⟩ := hW
  have hA : DataW.TrodAll enc Try.prog W 0 (fun _ => true) true Try.f5.params.toList args.toList ds p := hA0
  rw [Try.params5] at hA hval
  obtain ⟨v0, vs0, d0, ds0, p0, q0, hargs, rfl, rfl, h0, r0⟩ := trodAll_cons hA
  obtain ⟨rfl, rfl, rfl⟩ := trodAll_nil r0
  obtain rfl : args = #[v0] := by cases args; simp_all
  obtain ⟨rfl, rfl⟩ := trodVars_none hV
  have k0 := h0
  have lt0 : ∀ x ∈ p0, x.block < W.heap.size := by obtain ⟨m, hm⟩ := k0; exact DataW.trod_lt m _ _ _ hm
  obtain ⟨a0, len0, cap0, rfl⟩ := okWide_slice Try.underlying22 (hval 0 22 v0 rfl rfl)
  obtain ⟨z0, w0⟩ : ∃ zs, IsRow .u8 W a0 len0 cap0 zs := by
    obtain ⟨fuel, hf⟩ := h0
    rcases open_ints Try.underlying22 Try.underlying5 (by kernel_rfl) hf with ⟨hcs, _⟩ | ⟨x, l, c, zs, hcs, _, hl, hm, hz, _, hcell, hwz⟩
    · simp [Value.cells] at hcs
      obtain ⟨rfl, rfl, rfl⟩ := hcs
      exact ⟨[], .inl ⟨rfl, rfl, rfl, rfl⟩⟩
    · simp [Value.cells] at hcs
      obtain ⟨rfl, rfl, rfl⟩ := hcs
      exact ⟨zs, .inr ⟨_, rfl, hl, hm, by simpa using hz, hcell, hwz⟩⟩
  clear hA0
  refine (walk a0 len0 cap0 z0 W w0 ).mono fun e W' ⟨he, bel⟩ => ?_
  subst he
  exact ⟨_, rfl, _, _, _, [], _, [], hW', trodAll_mk1 (shut_bool Try.underlying4 _), (trodAll_cons_mk (Below.trod Errs.laidOut (by kernel_rfl) (of_decide_eq_true (by kernel_rfl)) k0 bel lt0) trodAll_mk0), rfl, bel.frame _, fun h => by cases h⟩

set_option maxRecDepth 100000 in
theorem lifted (os : Os) (started : os.Started) (H : Type) (enc : TypeId × Value → H) :
    ReturnsInHanded {} Try.checked os 5 .any (Rows.fnFareSpec.pre6 enc Try.prog Try.f5 Rows.fnFareRow.domain false) (Rows.fnFareSpec.post enc Try.prog Try.f5 false true false false) := by
  refine returnsInHanded_of_change (C := Try.checked) Errs.own started (by kernel_rfl) Try.func5
    (ChangeSpec.witness6 (enc := enc) (C := Try.checked) false ⟨#[], #[.slice none 0 0], []⟩ 8 (by kernel_rfl) (by kernel_rfl) (by kernel_rfl) (by kernel_rfl)) ?_
  intro W base args ds gs before hval hW _ _
  exact contract H enc W base args ds gs before hval hW

set_option maxRecDepth 100000 in
theorem over : Rows.fnFareRow.holds Try.pinned (OpenSpec.ofChange Rows.fnFareSpec) :=
  OpenClaim.holds_of_wide 5 Try.f5 rfl rfl rfl rfl rfl rfl rfl ⟨rfl, rfl, rfl, rfl, rfl⟩ rfl rfl rfl rfl rfl (by kernel_rfl) Try.func5 (by kernel_rfl)
    (of_decide_eq_true (by kernel_rfl)) (by unfold Func.isWrapper; first | (rw [if_pos (by decide +kernel)]; kernel_rfl) | (rw [if_neg (by decide +kernel)]; exact ⟨rfl, rfl⟩))
    (fun os started H enc _ => lifted os started H enc)
end Go.Proofs.Ytmhongcbgokilad.fnFare
namespace Go.Proofs.Ytmhongcbgokilad
theorem FnFare_holds : Rows.FnFareSaid := fnFare.over
end Go.Proofs.Ytmhongcbgokilad

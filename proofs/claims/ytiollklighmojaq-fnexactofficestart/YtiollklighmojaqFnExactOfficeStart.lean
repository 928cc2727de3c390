/- For every list of trains, every tariff and every day the law of OfficeStart answers true: the program's OfficeStart and its model answer the same, field by field; nothing that was handed in is turned, nothing of it is kept, and what is told owns its memory, behind another call too. No condition. -/
import Derived.Test.YtiollklighmojaqErrs
import Derived.ShutString
import Derived.Lib.SmallJoins
import Derived.Test.YtiollklighmojaqOfAny
namespace Go.Proofs.Ytiollklighmojaq.fnExactOfficeStart
open Go.ChangeShapes Go.WideShapes Go.ChangeAt Go.RowKit Go.Joins
open Go.ChangeMaps (open_string shut_string)
set_option linter.unusedVariables false
set_option linter.unusedSimpArgs false

set_option maxRecDepth 100000 in
set_option maxHeartbeats 4000000 in
theorem walk (a0 : Option Addr) (cap0 : Nat) (z0 : List Tn.Tr) (a1 : Option Addr) (cap1 : Nat) (z1 : List Tf.Ed) (a2 : Int) (w2 : (Lit.int .i64 a2).wf = true) (w : World) (w0 : Tn.TrainsA w a0 z0 ∧ z0.length ≤ maxLen ∧ ∀ i (h : i < z0.length), z0[i].l.length ≤ maxLen) (w1 : Tf.Edges w a1 z1 ∧ z1.length ≤ maxLen)  :
    Calls Try.prog 7 #[.slice a0 z0.length cap0, .slice a1 z1.length cap1, .int .i64 a2] w fun e w' => e = .returned (.bool true) ∧ Below w.heap.size w w' := by
  obtain ⟨I, hn, hs⟩ := w0
  obtain ⟨J, hm⟩ := w1
  by_cases hb : Tn.bulk z0 ≤ 1048576
  · have hd : decide (1048576 - (Tn.bulk z0 : Int) < 0) = false := decide_eq_false (by omega)
    have HB : Hid (Tn.bulk z0 ≤ 1048576) := hb
    have hz0 : z0.length ≤ 1048576 := by unfold Tn.bulk at hb; omega
    have HM : Hid (z1.length ≤ maxLen) := hm
    have hbI : 0 ≤ 1048576 - (Tn.bulk z0 : Int) := by omega
    clear hn hs hm w2
    by_cases h2 : (z1.length : Int) ≤ 1048576 - (Tn.bulk z0 : Int)
    · have hz1 : z1.length ≤ 1048576 := by omega
      have hd2 : decide (1048576 - (Tn.bulk z0 : Int) - (z1.length : Int) < 0) = false := decide_eq_false (by omega)
      obtain ⟨o1, o2, o3, o4⟩ := Of.out_len z0 z1 a2
      have HT : Hid (∀ W, Tn.TrainsA W a0 z0 → _) := fun W h => Tn.toTrainS_val a0 z0 cap0 W hb h
      have HE : Hid (∀ W, Tf.Edges W a1 z1 → _) := fun W h => Tf.toEdgeS_val a1 z1 cap1 W hz1 h
      have HSP : Hid (∀ b d W, d < W.heap.size → Tn.Trains W (some ⟨b, 0, none⟩) z0 → Tf.Edges W (some ⟨d, 0, none⟩) z1 → _) := fun b d W h1 h2 h3 => Of.specStart_any b 0 d 0 z0 z1 z0.length z1.length a2 W hb hz1 h1 h2 h3
      have HIM : Hid (∀ b d W, b < W.heap.size → d < W.heap.size → Tn.Trains W (some ⟨b, 0, none⟩) z0 → Tf.Edges W (some ⟨d, 0, none⟩) z1 → _) := fun b d W h0 h1 h2 h3 => Of.implStart_any b 0 d 0 z0 z1 z0.length z1.length a2 W hb hz1 h0 h1 h2 h3
      have hes : (Of.outE z0 z1 a2).length ≤ 1048576 := by omega
      have HEQ : Hid (∀ p2 p3 q2 q3 k2 k3 l2 l3 W, Tn.Trains W p2 (Of.outT z0 z1 a2) → Tf.Edges W p3 (Of.outE z0 z1 a2) → Tn.Trains W q2 (Of.outT z0 z1 a2) → Tf.Edges W q3 (Of.outE z0 z1 a2) → _) := fun p2 p3 q2 q3 k2 k3 l2 l3 W h1 h2 h3 h4 => Of.eqStart_same p2 p3 q2 q3 k2 k3 l2 l3 (Of.outT z0 z1 a2) (Of.outE z0 z1 a2) (Of.outD z0 z1 a2) W o3 hes h1 h2 h3 h4
      have HMK : Hid (∀ lo p2 p3 k2 k3 W mid hi gf cf, lo ≤ mid → mid ≤ hi → hi ≤ W.heap.size → (∀ g, p3 = some ⟨g, 0, none⟩ → (Of.outE z0 z1 a2).length ≠ 0 → g < hi) → Of.Lm W lo mid p2 gf cf (Of.outT z0 z1 a2) → Of.Et W mid p3 (Of.outE z0 z1 a2) → _) := fun lo p2 p3 k2 k3 W mid hi gf cf h1 h2 h3 h4 h5 h6 => Of.markOffice_val lo p2 p3 (Of.outT z0 z1 a2) (Of.outE z0 z1 a2) k2 k3 (Of.outD z0 z1 a2) W o1 o2 hes mid hi gf cf h1 h2 h3 h4 h5 h6
      have HHD : Hid (∀ lo p2 p3 k2 k3 W, Of.OM W lo p2 p3 (Of.outT z0 z1 a2) (Of.outE z0 z1 a2) → _) := fun lo p2 p3 k2 k3 W h => Of.heldOffice_val lo p2 p3 (Of.outT z0 z1 a2) (Of.outE z0 z1 a2) k2 k3 (Of.outD z0 z1 a2) W o1 o2 hes h
      have hob := Of.off_bd (Of.outT z0 z1 a2) o2 (Of.outT z0 z1 a2).length (Nat.le_refl _)
      have hd3 : decide (Of.off (Of.outT z0 z1 a2) (Of.outT z0 z1 a2).length + 3 * ((Of.outE z0 z1 a2).length : Int) < 0) = false := decide_eq_false (by omega)
      have hBB : (Of.startB z0 z1 a2 != Of.startB z0 z1 a2) = false := by simp
      clear o1 o2 o3 o4 hes hob
      generalize Of.outT z0 z1 a2 = ts at *
      generalize Of.outE z0 z1 a2 = es at *
      generalize Of.outD z0 z1 a2 = td at *
      generalize Of.startB z0 z1 a2 = B at *
      generalize Of.off ts ts.length + 3 * (es.length : Int) = y at *
      go_enter Try.func7, Try.ntmps7
      go_wp2_with fail
      refine (Tn.szTrainS_yes a0 z0 cap0 _ HB.out I).mono ?_
      rintro e v1 ⟨rfl, K1⟩
      go_wp2_with fail
      refine (Tf.szEdgeS_yes a1 z1.length cap1 _ _ (by omega) h2).mono ?_
      rintro e y2 ⟨rfl, hy⟩
      have hy' := hy.symm
      clear hy
      subst hy'
      clear h2
      go_wp2_with fail
      (with_reducible refine (HT.out _ (I.on K1)).mono ?_)
      rintro e v3 ⟨rfl, L3, hl3, M3⟩
      have T3 := M3.trains hl3
      have K3 := Pk.join_below K1 L3
      clear M3
      go_wp2_with fail
      (with_reducible refine (HE.out _ (J.on K3)).mono ?_)
      rintro e v4 ⟨rfl, L4, J4, hl4, -⟩
      have T4 := T3.on L4
      have K4 := Pk.join_below K3 L4
      clear T3 K3 L3 hl3 K1
      go_wp2_with fail
      (with_reducible refine (HSP.out _ _ _ hl4 T4 J4).mono ?_)
      rintro e v5 ⟨x2, c2, x3, c3, rfl, TS, ES, L5⟩
      have K5 := Pk.join_below K4 L5
      clear T4 J4 K4 L4 hl4 HSP L5
      have N6 := Pk.new_below v5 (Of.stB x2 ts.length c2 x3 es.length c3 td)
      have m6 := Pk.heap_new v5 (Of.stB x2 ts.length c2 x3 es.length c3 td)
      have TS6 := TS.on N6
      have ES6 := ES.on N6
      have K6 := Pk.join_below K5 N6
      have hl6 : v5.heap.size < (v5.alloc (Of.stB x2 ts.length c2 x3 es.length c3 td)).heap.size := Pk.lt_of m6
      obtain ⟨P0, hP0⟩ : ∃ P, v5.heap.size = P := ⟨_, rfl⟩
      rw [hP0] at m6 hl6
      clear TS ES K5 N6
      go_wp2_with fail
      try rw [hP0]
      (with_reducible refine (HT.out _ (I.on K6)).mono ?_)
      clear hP0
      generalize v5.alloc (Of.stB x2 ts.length c2 x3 es.length c3 td) = v6 at *
      rintro e v7 ⟨rfl, L7, hl7, M7⟩
      have MK7 := M7.mk
      have K7 := Pk.join_below K6 L7
      go_wp2_with fail
      (with_reducible refine (HE.out _ (J.on K7)).mono ?_)
      rintro e v8 ⟨rfl, L8, J8, hl8, R8⟩
      have T8 := (M7.trains hl7).on L8
      have K8 := Pk.join_below K7 L8
      have Q8 := Pk.join_below L7 L8
      have hw6 : w.heap.size ≤ v6.heap.size := K6.size
      have h78 : v7.heap.size ≤ v8.heap.size := L8.size
      have hb8 : v6.heap.size < v8.heap.size := by omega
      clear M7 K7 K6
      go_wp2_with fail
      (with_reducible refine (HIM.out _ _ _ hb8 hl8 T8 J8).mono ?_)
      rintro e v9 ⟨x4, c4, x5, c5, rfl, S9, L9⟩
      obtain ⟨mid, gf, cf, hlm, hmh, LM9, ET9⟩ := S9.mid L9.size
      have HEH : Hid (∀ g, x5 = some ⟨g, 0, none⟩ → es.length ≠ 0 → g < v9.heap.size) := by
        intro g hg h0
        obtain ⟨g', hg', -, q2, -⟩ := ET9.resolve_left h0
        rw [hg] at hg'
        simp only [Option.some.injEq, Addr.mk.injEq, and_true] at hg'
        omega
      have N10 := Pk.new_below v9 (Of.stB x4 ts.length c4 x5 es.length c5 td)
      have m10 := Pk.heap_new v9 (Of.stB x4 ts.length c4 x5 es.length c5 td)
      have hl10 : v9.heap.size < (v9.alloc (Of.stB x4 ts.length c4 x5 es.length c5 td)).heap.size := Pk.lt_of m10
      have L10 := Pk.join_below L9 N10
      have T10 := T8.on L10
      have J10 := J8.on L10
      have K10 := Pk.join_below K8 L10
      have Q10 := Pk.join_below Q8 L10
      have LE10 : Of.Lm (v9.alloc (Of.stB x4 ts.length c4 x5 es.length c5 td)) v8.heap.size mid x4 gf cf ts ∧ Of.Et (v9.alloc (Of.stB x4 ts.length c4 x5 es.length c5 td)) mid x5 es := ⟨LM9.on N10, ET9.on N10⟩
      have h89 : v8.heap.size ≤ v9.heap.size := L9.size
      obtain ⟨P1, hP1⟩ : ∃ P, v9.heap.size = P := ⟨_, rfl⟩
      rw [hP1] at m10 hl10 HEH hmh h89
      have R10 : Pk.Room (v9.alloc (Of.stB x4 ts.length c4 x5 es.length c5 td)) v7.heap.size (z1.length * 3) := R8.on L10 hl8
      have MK10 := (MK7.on L8 hl7 (Nat.le_refl _)).on L10 (by omega) h78
      have n10 := Pk.kept Q10 (Pk.lt_of m6) m6
      have TS10 := TS6.on Q10
      have ES10 := ES6.on Q10
      have kh10 : Of.Kh v8.heap.size (v9.alloc (Of.stB x4 ts.length c4 x5 es.length c5 td)) (v9.alloc (Of.stB x4 ts.length c4 x5 es.length c5 td)) := Of.Kh.refl _ _
      have g10 : Tn.Trains (v9.alloc (Of.stB x4 ts.length c4 x5 es.length c5 td)) x4 ts ∧ Tf.Edges (v9.alloc (Of.stB x4 ts.length c4 x5 es.length c5 td)) x5 es := ⟨LE10.1.lt.trains, LE10.2.edges⟩
      clear S9 LM9 ET9 L9 N10 T8 J8 K8 Q8 R8 L8 L7 MK7 L10
      have p0 : (v9.alloc (Of.stB x4 ts.length c4 x5 es.length c5 td)).cell? ⟨P0, 0, none⟩ = some (.slice x2 ts.length c2) := Pk.cell_at n10 0
      have p1 : (v9.alloc (Of.stB x4 ts.length c4 x5 es.length c5 td)).cell? ⟨P0, 1, none⟩ = some (.slice x3 es.length c3) := Pk.cell_at n10 1
      have p2 : (v9.alloc (Of.stB x4 ts.length c4 x5 es.length c5 td)).cell? ⟨P0, 2, none⟩ = some (.slice none 0 0) := Pk.cell_at n10 2
      have p3 : (v9.alloc (Of.stB x4 ts.length c4 x5 es.length c5 td)).cell? ⟨P0, 3, none⟩ = some (.slice none 0 0) := Pk.cell_at n10 3
      have p4 : (v9.alloc (Of.stB x4 ts.length c4 x5 es.length c5 td)).cell? ⟨P0, 4, none⟩ = some (.slice none 0 0) := Pk.cell_at n10 4
      have p5 : (v9.alloc (Of.stB x4 ts.length c4 x5 es.length c5 td)).cell? ⟨P0, 5, none⟩ = some (.int .i64 td) := Pk.cell_at n10 5
      have q0 : (v9.alloc (Of.stB x4 ts.length c4 x5 es.length c5 td)).cell? ⟨P1, 0, none⟩ = some (.slice x4 ts.length c4) := Pk.cell_at m10 0
      have q1 : (v9.alloc (Of.stB x4 ts.length c4 x5 es.length c5 td)).cell? ⟨P1, 1, none⟩ = some (.slice x5 es.length c5) := Pk.cell_at m10 1
      have q2 : (v9.alloc (Of.stB x4 ts.length c4 x5 es.length c5 td)).cell? ⟨P1, 2, none⟩ = some (.slice none 0 0) := Pk.cell_at m10 2
      have q3 : (v9.alloc (Of.stB x4 ts.length c4 x5 es.length c5 td)).cell? ⟨P1, 3, none⟩ = some (.slice none 0 0) := Pk.cell_at m10 3
      have q4 : (v9.alloc (Of.stB x4 ts.length c4 x5 es.length c5 td)).cell? ⟨P1, 4, none⟩ = some (.slice none 0 0) := Pk.cell_at m10 4
      have q5 : (v9.alloc (Of.stB x4 ts.length c4 x5 es.length c5 td)).cell? ⟨P1, 5, none⟩ = some (.int .i64 td) := Pk.cell_at m10 5
      go_wp2_with fail
      try rw [hP1]
      (with_reducible refine (HEQ.out x4 x5 x2 x3 c4 c5 c2 c3 _ g10.1 g10.2 TS10 ES10).mono ?_)
      clear hP1
      generalize v9.alloc (Of.stB x4 ts.length c4 x5 es.length c5 td) = v10 at *
      rintro e v11 ⟨rfl, L11⟩
      have T11 := T10.on L11
      have J11 := J10.on L11
      have K11 := Pk.join_below K10 L11
      have Q11 := Pk.join_below Q10 L11
      clear p0 p1 p2 p3 p4 p5 q0 q1 q2 q3 q4 q5 g10 TS10 ES10 n10 T10 J10 K10 Q10
      go_wp2_with fail
      (with_reducible refine (HT.out _ (I.on K11)).mono ?_)
      rintro e v12 ⟨rfl, L12, hl12, M12⟩
      have U12 := M12.trains hl12
      have M2 := Pk.join_below L11 L12
      have T12 := T11.on L12
      have J12 := J11.on L12
      have K12 := Pk.join_below K11 L12
      have Q12 := Pk.join_below Q11 L12
      clear M12 T11 J11 K11 Q11 L11 L12 hl12
      go_wp2_with fail
      refine (Tn.eqTrainS_same _ _ z0 _ _ _ HB.out T12 U12).mono ?_
      rintro e v13 ⟨rfl, L13⟩
      have M3 := Pk.join_below M2 L13
      have J13 := J12.on L13
      have K13 := Pk.join_below K12 L13
      have Q13 := Pk.join_below Q12 L13
      clear T12 U12 J12 K12 Q12 L13 M2
      go_wp2_with fail
      (with_reducible refine (HE.out _ (J.on K13)).mono ?_)
      rintro e v14 ⟨rfl, L14, J14', hl14, -⟩
      have M4 := Pk.join_below M3 L14
      have J14 := J13.on L14
      have K14 := Pk.join_below K13 L14
      have Q14 := Pk.join_below Q13 L14
      clear J13 K13 Q13 L14 M3 hl14
      go_wp2_with fail
      refine (Tf.eqEdgeS_same _ _ z1 _ _ _ hz1 J14 J14').mono ?_
      rintro e v15 ⟨rfl, L15⟩
      have M5 := Pk.join_below M4 L15
      have K15 := Pk.join_below K14 L15
      have Q15 := Pk.join_below Q14 L15
      have KH15 := kh10.of M5
      have MK15 := MK10.on M5 (by omega) (by omega)
      have R15 : Pk.Room v15 v7.heap.size (z1.length * 3) := R10.on M5 (by omega)
      have n15 := Pk.kept Q15 (Pk.lt_of m6) m6
      have m15 := Pk.kept M5 (Pk.lt_of m10) m10
      clear J14 J14' K14 Q14 L15 M4 M5 MK10 R10 kh10
      go_wp2_with fail
      refine (Of.markTrainS_bd v6.heap.size v7.heap.size v6.heap.size z0 _ _ HB.out (Nat.le_refl _) hl7 MK15).mono ?_
      rintro e v16 ⟨z, hz, hzb, rfl, B16⟩
      have R16 : Pk.Room v16 v7.heap.size (z1.length * 3) := by
        intro j hj
        rw [World.cell?_of_block (a := ⟨v7.heap.size, j, none⟩) (B16.block v7.heap.size (Or.inr (Nat.le_refl _))), World.frozen?_of_block (a := ⟨v7.heap.size, j, none⟩) (B16.block v7.heap.size (Or.inr (Nat.le_refl _)))]
        exact R15 j hj
      have K16 := K15.trans (B16.below.mono hw6)
      have Q16 := Q15.trans B16.below
      have KH16 := KH15.band B16 h78
      have n16 := (B16.block P0 (Or.inl hl6)).trans n15
      have m16 := (B16.block P1 (Or.inr (by omega))).trans m15
      clear MK15 R15 K15 Q15 KH15 n15 m15 B16
      go_wp2_with fail
      refine (Of.markEdgeS_val (some ⟨v7.heap.size, 0, none⟩) v7.heap.size z1.length _ z _ hz1 hz (by omega) (Or.inr ⟨rfl, R16⟩)).mono ?_
      rintro e v17 ⟨rfl, B17, -, -⟩
      have hd4 : decide (z + 3 * (z1.length : Int) < 0) = false := decide_eq_false (by omega)
      have K17 := K16.trans (B17.below.mono (by omega))
      have Q17 := Q16.trans (B17.below.mono (by omega))
      have KH17 := KH16.band B17 hl8
      have n17 := (B17.block P0 (Or.inl (by omega))).trans n16
      have m17 := (B17.block P1 (Or.inr (by omega))).trans m16
      have LE17 := Of.le_kh hlm LE10 KH17
      have TS17 := TS6.on Q17
      have ES17 := ES6.on Q17
      clear R16 K16 Q16 KH16 n16 m16 B17 hz hzb
      have p0 : v17.cell? ⟨P0, 0, none⟩ = some (.slice x2 ts.length c2) := Pk.cell_at n17 0
      have p1 : v17.cell? ⟨P0, 1, none⟩ = some (.slice x3 es.length c3) := Pk.cell_at n17 1
      have p2 : v17.cell? ⟨P0, 2, none⟩ = some (.slice none 0 0) := Pk.cell_at n17 2
      have p3 : v17.cell? ⟨P0, 3, none⟩ = some (.slice none 0 0) := Pk.cell_at n17 3
      have p4 : v17.cell? ⟨P0, 4, none⟩ = some (.slice none 0 0) := Pk.cell_at n17 4
      have p5 : v17.cell? ⟨P0, 5, none⟩ = some (.int .i64 td) := Pk.cell_at n17 5
      have q0 : v17.cell? ⟨P1, 0, none⟩ = some (.slice x4 ts.length c4) := Pk.cell_at m17 0
      have q1 : v17.cell? ⟨P1, 1, none⟩ = some (.slice x5 es.length c5) := Pk.cell_at m17 1
      have q2 : v17.cell? ⟨P1, 2, none⟩ = some (.slice none 0 0) := Pk.cell_at m17 2
      have q3 : v17.cell? ⟨P1, 3, none⟩ = some (.slice none 0 0) := Pk.cell_at m17 3
      have q4 : v17.cell? ⟨P1, 4, none⟩ = some (.slice none 0 0) := Pk.cell_at m17 4
      have q5 : v17.cell? ⟨P1, 5, none⟩ = some (.int .i64 td) := Pk.cell_at m17 5
      go_wp2_with fail
      (with_reducible refine (HEQ.out x4 x5 x2 x3 c4 c5 c2 c3 _ LE17.1.lt.trains LE17.2.edges TS17 ES17).mono ?_)
      rintro e v18 ⟨rfl, L18⟩
      have K18 := K17.trans (L18.mono K17.size)
      have Q18 := Q17.trans (L18.mono Q17.size)
      have KH18 := KH17.of L18
      have LE18 := Of.le_kh hlm LE10 KH18
      have n18 := Pk.kept L18 (Pk.lt_of n17) n17
      have m18 := Pk.kept L18 (Pk.lt_of m17) m17
      have hP18 : P1 ≤ v18.heap.size := Nat.le_of_lt (Pk.lt_of m18)
      clear p0 p1 p2 p3 p4 p5 q0 q1 q2 q3 q4 q5 K17 Q17 KH17 n17 m17 LE17 TS17 ES17 L18 hd4
      have q0 : v18.cell? ⟨P1, 0, none⟩ = some (.slice x4 ts.length c4) := Pk.cell_at m18 0
      have q1 : v18.cell? ⟨P1, 1, none⟩ = some (.slice x5 es.length c5) := Pk.cell_at m18 1
      have q2 : v18.cell? ⟨P1, 2, none⟩ = some (.slice none 0 0) := Pk.cell_at m18 2
      have q3 : v18.cell? ⟨P1, 3, none⟩ = some (.slice none 0 0) := Pk.cell_at m18 3
      have q4 : v18.cell? ⟨P1, 4, none⟩ = some (.slice none 0 0) := Pk.cell_at m18 4
      have q5 : v18.cell? ⟨P1, 5, none⟩ = some (.int .i64 td) := Pk.cell_at m18 5
      go_wp2_with fail
      (with_reducible refine (HMK.out v8.heap.size x4 x5 c4 c5 _ mid P1 gf cf hlm hmh hP18 HEH.out LE18.1 LE18.2).mono ?_)
      rintro e v19 ⟨rfl, O19, W19, L19, B19⟩
      have hlo19 : v6.heap.size ≤ v8.heap.size := by omega
      have K19 := (K18.trans (L19.mono K18.size)).trans (B19.below.mono (by omega))
      have Q19 := (Q18.trans (L19.mono Q18.size)).trans (B19.below.mono hlo19)
      have m19 := (B19.block P1 (Or.inr (Nat.le_refl _))).trans (Pk.kept L19 (Pk.lt_of m18) m18)
      clear q0 q1 q2 q3 q4 q5 K18 Q18 KH18 LE18 n18 m18 L19 B19 LE10 HMK
      have q0 : v19.cell? ⟨P1, 0, none⟩ = some (.slice x4 ts.length c4) := Pk.cell_at m19 0
      have q1 : v19.cell? ⟨P1, 1, none⟩ = some (.slice x5 es.length c5) := Pk.cell_at m19 1
      have q2 : v19.cell? ⟨P1, 2, none⟩ = some (.slice none 0 0) := Pk.cell_at m19 2
      have q3 : v19.cell? ⟨P1, 3, none⟩ = some (.slice none 0 0) := Pk.cell_at m19 3
      have q4 : v19.cell? ⟨P1, 4, none⟩ = some (.slice none 0 0) := Pk.cell_at m19 4
      have q5 : v19.cell? ⟨P1, 5, none⟩ = some (.int .i64 td) := Pk.cell_at m19 5
      go_wp2_with fail
      (with_reducible refine (HHD.out v8.heap.size x4 x5 c4 c5 _ O19).mono ?_)
      rintro e v20 ⟨rfl, L20⟩
      have O20 := O19.on L20
      have K20 := K19.trans (L20.mono K19.size)
      have Q20 := Q19.trans (L20.mono Q19.size)
      have m20 := Pk.kept L20 (Pk.lt_of m19) m19
      clear q0 q1 q2 q3 q4 q5 O19 K19 Q19 m19 L20
      go_wp2_with fail
      (with_reducible refine (HT.out _ (I.on K20)).mono ?_)
      rintro e v21 ⟨rfl, L21, hl21, M21⟩
      have U21 := M21.trains hl21
      have K21 := K20.trans (L21.mono K20.size)
      clear M21
      go_wp2_with fail
      (with_reducible refine (HE.out _ (J.on K21)).mono ?_)
      rintro e v22 ⟨rfl, L22, J22, hl22, -⟩
      have U22 := U21.on L22
      have K22 := K21.trans (L22.mono K21.size)
      have L2b := Pk.join_below L21 L22
      have hb22 : v20.heap.size < v22.heap.size := Nat.lt_of_lt_of_le hl21 L22.size
      clear U21 K21 L21 L22 hl21
      go_wp2_with fail
      (with_reducible refine (HIM.out _ _ _ hb22 hl22 U22 J22).mono ?_)
      rintro e v23 ⟨x6, c6, x7, c7, rfl, S23, L23⟩
      have N24 := Pk.new_below v23 (Of.stB x6 ts.length c6 x7 es.length c7 td)
      have m24 := Pk.heap_new v23 (Of.stB x6 ts.length c6 x7 es.length c7 td)
      have g24 := (S23.on N24).trains
      have L2c := Pk.join_below (Pk.join_below L2b L23) N24
      have K24 := K20.trans (L2c.mono K20.size)
      have Q24 := Q20.trans (L2c.mono Q20.size)
      have O24 := O20.on L2c
      have r24 := Pk.kept L2c (Pk.lt_of m20) m20
      have n24 := Pk.kept Q24 (Pk.lt_of m6) m6
      have TS24 := TS6.on Q24
      have ES24 := ES6.on Q24
      obtain ⟨P2, hP2⟩ : ∃ P, v23.heap.size = P := ⟨_, rfl⟩
      rw [hP2] at m24
      clear S23 L23 N24 L2b L2c K22 K20 Q20 O20 m20 U22 J22 hl22 hb22 HIM
      have p0 : (v23.alloc (Of.stB x6 ts.length c6 x7 es.length c7 td)).cell? ⟨P0, 0, none⟩ = some (.slice x2 ts.length c2) := Pk.cell_at n24 0
      have p1 : (v23.alloc (Of.stB x6 ts.length c6 x7 es.length c7 td)).cell? ⟨P0, 1, none⟩ = some (.slice x3 es.length c3) := Pk.cell_at n24 1
      have p2 : (v23.alloc (Of.stB x6 ts.length c6 x7 es.length c7 td)).cell? ⟨P0, 2, none⟩ = some (.slice none 0 0) := Pk.cell_at n24 2
      have p3 : (v23.alloc (Of.stB x6 ts.length c6 x7 es.length c7 td)).cell? ⟨P0, 3, none⟩ = some (.slice none 0 0) := Pk.cell_at n24 3
      have p4 : (v23.alloc (Of.stB x6 ts.length c6 x7 es.length c7 td)).cell? ⟨P0, 4, none⟩ = some (.slice none 0 0) := Pk.cell_at n24 4
      have p5 : (v23.alloc (Of.stB x6 ts.length c6 x7 es.length c7 td)).cell? ⟨P0, 5, none⟩ = some (.int .i64 td) := Pk.cell_at n24 5
      have r0 : (v23.alloc (Of.stB x6 ts.length c6 x7 es.length c7 td)).cell? ⟨P2, 0, none⟩ = some (.slice x6 ts.length c6) := Pk.cell_at m24 0
      have r1 : (v23.alloc (Of.stB x6 ts.length c6 x7 es.length c7 td)).cell? ⟨P2, 1, none⟩ = some (.slice x7 es.length c7) := Pk.cell_at m24 1
      have r2 : (v23.alloc (Of.stB x6 ts.length c6 x7 es.length c7 td)).cell? ⟨P2, 2, none⟩ = some (.slice none 0 0) := Pk.cell_at m24 2
      have r3 : (v23.alloc (Of.stB x6 ts.length c6 x7 es.length c7 td)).cell? ⟨P2, 3, none⟩ = some (.slice none 0 0) := Pk.cell_at m24 3
      have r4 : (v23.alloc (Of.stB x6 ts.length c6 x7 es.length c7 td)).cell? ⟨P2, 4, none⟩ = some (.slice none 0 0) := Pk.cell_at m24 4
      have r5 : (v23.alloc (Of.stB x6 ts.length c6 x7 es.length c7 td)).cell? ⟨P2, 5, none⟩ = some (.int .i64 td) := Pk.cell_at m24 5
      go_wp2_with fail
      try rw [hP2]
      (with_reducible refine (HEQ.out x6 x7 x2 x3 c6 c7 c2 c3 _ g24.1 g24.2 TS24 ES24).mono ?_)
      clear hP2
      generalize v23.alloc (Of.stB x6 ts.length c6 x7 es.length c7 td) = v24 at *
      rintro e v25 ⟨rfl, L25⟩
      have K25 := K24.trans (L25.mono K24.size)
      have O25 := O24.on L25
      have r25 := Pk.kept L25 (Pk.lt_of r24) r24
      clear p0 p1 p2 p3 p4 p5 r0 r1 r2 r3 r4 r5 K24 O24 r24 n24 m24 TS24 ES24 g24 L25 Q24
      have q0 : v25.cell? ⟨P1, 0, none⟩ = some (.slice x4 ts.length c4) := Pk.cell_at r25 0
      have q1 : v25.cell? ⟨P1, 1, none⟩ = some (.slice x5 es.length c5) := Pk.cell_at r25 1
      have q2 : v25.cell? ⟨P1, 2, none⟩ = some (.slice none 0 0) := Pk.cell_at r25 2
      have q3 : v25.cell? ⟨P1, 3, none⟩ = some (.slice none 0 0) := Pk.cell_at r25 3
      have q4 : v25.cell? ⟨P1, 4, none⟩ = some (.slice none 0 0) := Pk.cell_at r25 4
      have q5 : v25.cell? ⟨P1, 5, none⟩ = some (.int .i64 td) := Pk.cell_at r25 5
      go_wp2_with fail
      (with_reducible refine (HHD.out v8.heap.size x4 x5 c4 c5 _ O25).mono ?_)
      rintro e v26 ⟨rfl, L26⟩
      have K26 := K25.trans (L26.mono K25.size)
      clear q0 q1 q2 q3 q4 q5 O25 K25 L26 r25
      go_wp2
      go_ret
      exact ⟨rfl, K26⟩
    · go_enter Try.func7, Try.ntmps7
      go_wp2_with fail
      refine (Tn.szTrainS_yes a0 z0 cap0 _ HB.out I).mono ?_
      rintro e v1 ⟨rfl, L1⟩
      go_wp2_with fail
      refine (Tf.szEdgeS_no a1 z1.length cap1 _ _ (by omega) (by omega) HM.out (by omega)).mono ?_
      rintro e y2 ⟨rfl, rfl⟩
      go_wp2
      go_ret
      exact ⟨rfl, L1⟩
  · have HM : Hid (_ ∧ _ ∧ _) := ⟨hn, hs, hb⟩
    clear hn hs hb hm
    go_enter Try.func7, Try.ntmps7
    go_wp2_with fail
    refine (Tn.szTrainS_no a0 z0 cap0 _ HM.out.1 HM.out.2.1 HM.out.2.2 I).mono ?_
    rintro e w1 ⟨rfl, L1⟩
    go_wp2
    go_ret
    exact ⟨rfl, L1⟩

set_option maxRecDepth 100000 in
theorem contract (H : Type) (enc : TypeId × Value → H) (W : World) (base : Nat) (args : Array Value) (ds gs : List (DataW H)) (before : List MemPlace)
    (hval : ∀ (j : Nat) t v, Try.f7.params[j]? = some t → args[j]? = some v → Value.okWide Try.prog W .any base t v)
    (hW : DataW.Whole enc Try.prog Try.f7.params.toList Rows.fnExactOfficeStartSpec.vars false W args.toList ds gs before) :
    Calls Try.prog 7 args W fun e W' => ∃ v, e = .returned v ∧ Rows.fnExactOfficeStartSpec.post enc Try.prog Try.f7 false true false false W args v W' := by
  have hW' := hW
  obtain ⟨p, q, hA0, hV, rfl, hfz, hnd⟩ := hW
  have hA : DataW.TrodAll enc Try.prog W 0 (fun _ => true) true Try.f7.params.toList args.toList ds p := hA0
  rw [Try.params7] at hA hval
  obtain ⟨v0, vs0, d0, ds0, p0, q0, hargs, rfl, rfl, h0, r0⟩ := trodAll_cons hA
  obtain ⟨v1, vs1, d1, ds1, p1, q1, rfl, rfl, rfl, h1, r1⟩ := trodAll_cons r0
  obtain ⟨v2, vs2, d2, ds2, p2, q2, rfl, rfl, rfl, h2, r2⟩ := trodAll_cons r1
  obtain ⟨rfl, rfl, rfl⟩ := trodAll_nil r2
  obtain rfl : args = #[v0, v1, v2] := by cases args; simp_all
  obtain ⟨rfl, rfl⟩ := trodVars_none hV
  have k0 := h0
  have lt0 : ∀ x ∈ p0, x.block < W.heap.size := by obtain ⟨m, hm⟩ := k0; exact DataW.trod_lt m _ _ _ hm
  obtain ⟨a0, len0, cap0, rfl⟩ := okWide_slice Try.underlying49 (hval 0 49 v0 rfl rfl)
  obtain ⟨z0, w0, rfl⟩ : ∃ zs : List Tn.Tr, (Tn.TrainsA W a0 zs ∧ zs.length ≤ maxLen ∧ ∀ i (h : i < zs.length), zs[i].l.length ≤ maxLen) ∧ zs.length = len0 := by
    obtain ⟨fuel, hf⟩ := h0
    obtain ⟨a, cap, ts, e, hh⟩ := Tn.trains_open hf
    simp [Value.cells] at e
    obtain ⟨rfl, rfl, rfl⟩ := e
    exact ⟨ts, ⟨hh.2.2, hh.1, hh.2.1⟩, rfl⟩
  have k1 := h1
  have lt1 : ∀ x ∈ p1, x.block < W.heap.size := by obtain ⟨m, hm⟩ := k1; exact DataW.trod_lt m _ _ _ hm
  obtain ⟨a1, len1, cap1, rfl⟩ := okWide_slice Try.underlying50 (hval 1 50 v1 rfl rfl)
  obtain ⟨z1, w1, rfl⟩ : ∃ zs : List Tf.Ed, (Tf.Edges W a1 zs ∧ zs.length ≤ maxLen) ∧ zs.length = len1 := by
    obtain ⟨fuel, hf⟩ := h1
    obtain ⟨a, cap, ts, e, hh⟩ := Tf.edges_open hf
    simp [Value.cells] at e
    obtain ⟨rfl, rfl, rfl⟩ := e
    exact ⟨ts, ⟨hh.2, hh.1⟩, rfl⟩
  have k2 := h2
  have lt2 : ∀ x ∈ p2, x.block < W.heap.size := by obtain ⟨m, hm⟩ := k2; exact DataW.trod_lt m _ _ _ hm
  obtain ⟨a2, rfl, rfl, rfl, w2⟩ := open_int Try.underlying3 (hval 2 3 v2 rfl rfl) h2
  clear hA0
  refine (walk a0 cap0 z0 a1 cap1 z1 a2 w2 W w0 w1 ).mono fun e W' ⟨he, bel⟩ => ?_
  subst he
  exact ⟨_, rfl, _, _, _, [], _, [], hW', trodAll_mk1 (shut_bool Try.underlying4 _), (trodAll_cons_mk (Below.trod Errs.laidOut (by kernel_rfl) (of_decide_eq_true (by kernel_rfl)) k0 bel lt0) (trodAll_cons_mk (Below.trod Errs.laidOut (by kernel_rfl) (of_decide_eq_true (by kernel_rfl)) k1 bel lt1) (trodAll_cons_mk (Below.trod Errs.laidOut (by kernel_rfl) (of_decide_eq_true (by kernel_rfl)) k2 bel lt2) trodAll_mk0))), rfl, bel.frame _, fun h => by cases h⟩

set_option maxRecDepth 100000 in
theorem lifted (os : Os) (started : os.Started) (H : Type) (enc : TypeId × Value → H) :
    ReturnsInHanded {} Try.checked os 7 .any (Rows.fnExactOfficeStartSpec.pre6 enc Try.prog Try.f7 Rows.fnExactOfficeStartRow.domain false) (Rows.fnExactOfficeStartSpec.post enc Try.prog Try.f7 false true false false) := by
  refine returnsInHanded_of_change (C := Try.checked) Errs.own started (by kernel_rfl) Try.func7
    (ChangeSpec.witness6 (enc := enc) (C := Try.checked) false ⟨#[], #[.slice none 0 0, .slice none 0 0, .int .i64 0], []⟩ 8 (by kernel_rfl) (by kernel_rfl) (by kernel_rfl) (by kernel_rfl)) ?_
  intro W base args ds gs before hval hW _ _
  exact contract H enc W base args ds gs before hval hW

set_option maxRecDepth 100000 in
theorem over : Rows.fnExactOfficeStartRow.holds Try.pinned (OpenSpec.ofChange Rows.fnExactOfficeStartSpec) :=
  OpenClaim.holds_of_wide 7 Try.f7 rfl rfl rfl rfl rfl rfl rfl ⟨rfl, rfl, rfl, rfl, rfl⟩ rfl rfl rfl rfl rfl (by kernel_rfl) Try.func7 (by kernel_rfl)
    (of_decide_eq_true (by kernel_rfl)) (by unfold Func.isWrapper; first | (rw [if_pos (by decide +kernel)]; kernel_rfl) | (rw [if_neg (by decide +kernel)]; exact ⟨rfl, rfl⟩))
    (fun os started H enc _ => lifted os started H enc)
end Go.Proofs.Ytiollklighmojaq.fnExactOfficeStart
namespace Go.Proofs.Ytiollklighmojaq
theorem FnExactOfficeStart_holds : Rows.FnExactOfficeStartSaid := fnExactOfficeStart.over
end Go.Proofs.Ytiollklighmojaq

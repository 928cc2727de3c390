/- For every centre and number the law of Revoke answers true: the program's Revoke and its model return the same centre and the same verdict, the program's in memory of its own; nothing of what came in is turned, and a further call leaves the first answer as it was. No condition. -/
import Derived.Test.YtjjfleepnjhamaaErrs
import Derived.ShutString
import Derived.Lib.SmallJoins
import Derived.Test.YtjjfleepnjhamaaCeRev
import Derived.Test.YtjjfleepnjhamaaCeTo2
import Derived.Deep.Cut
import Derived.Test.YtjjfleepnjhamaaCeTo
import Derived.Test.YtjjfleepnjhamaaCeIn
namespace Go.Proofs.Ytjjfleepnjhamaa.fnExactRevoke
open Go.ChangeShapes Go.WideShapes Go.ChangeAt Go.RowKit Go.Joins
open Go.ChangeMaps (open_string shut_string)
set_option linter.unusedVariables false
set_option linter.unusedSimpArgs false

theorem far_mine {lo hi lo' : Nat} {w : World} {x : Hn.Pl} {o : Hn.Ctr} {g1 g2 : Nat} (h : Hn.Mine lo' w x o g1 g2) (hh : hi ≤ lo') : Hn.Far lo hi x o :=
  Hn.Far.mine (hi := hi) ⟨h.ne, Nat.le_trans hh h.lo1, Nat.le_trans hh h.lo2, h.off, h.seen⟩

theorem far_ints {lo hi g : Nat} {zs : List Int} (h : g < lo ∨ hi ≤ g) : ∀ b o, (some ⟨g, 0, none⟩ : Option Addr) = some ⟨b, o, none⟩ → zs ≠ [] → b < lo ∨ hi ≤ b := by
  intro b o e _
  simp only [Option.some.injEq, Addr.mk.injEq] at e
  omega


set_option maxRecDepth 100000 in
set_option maxHeartbeats 8000000 in
theorem walk (x0 : Hn.Pl) (o0 : Hn.Ctr) (a1 : Int) (w1 : (Lit.int .i64 a1).wf = true) (w : World) (w0 : Hn.In w x0 o0 ∧ Hn.Lim o0)   :
    Calls Try.prog 4 #[Hn.ceV x0 o0, .int .i64 a1] w fun e w' => e = .returned (.bool true) ∧ Below w.heap.size w w' := by
  obtain ⟨I, LM⟩ := w0
  have hm1 : o0.ol.length ≤ maxLen := LM.ol
  have hm2 : o0.sl.length ≤ maxLen := LM.sl
  have HM : Hid (o0.ol.length ≤ maxLen ∧ o0.sl.length ≤ maxLen) := ⟨hm1, hm2⟩
  clear LM hm1 hm2
  by_cases hb : (o0.ol.length : Int) + (o0.sl.length : Int) ≤ 1048576
  · have hz : o0.ol.length ≤ 1048576 := by omega
    have hz2 : o0.sl.length ≤ 1048576 := by omega
    have hd0 : decide (1048576 - (o0.ol.length : Int) - (o0.sl.length : Int) < 0) = false := decide_eq_false (by omega)
    have HTO : Hid (∀ (W : World), Hn.In W x0 o0 → _) := fun W h => Hn.toCentre_cap x0 o0 W hz hz2 h
    have HEO : Hid (∀ (x y : Hn.Pl) (W : World), Hn.In W x o0 → Hn.In W y o0 → _) := fun x y W h k => Hn.eqCentre_same x y o0 W hz hz2 h k
    have HSZ : Hid (∀ (W : World), _) := fun W => Hn.szCentre_yes x0 o0 1048576 W (by omega) hb
    have HZO : Hid (o0.ol.length ≤ 1048576 ∧ o0.sl.length ≤ 1048576) := ⟨hz, hz2⟩
    have HS : Hid (∀ (x : Hn.Pl) (W : World), Hn.In W x o0 → Hn.Flat x → o0.ol.length ≤ x.c ∧ o0.sl.length ≤ x.d → _) := fun x W h f c => Hn.specRev_val x o0 a1 W hz hz2 h f c.1
    have HI : Hid (∀ (x : Hn.Pl) (W : World), Hn.In W x o0 → Hn.Flat x → o0.ol.length ≤ x.c ∧ o0.sl.length ≤ x.d → _) := fun x W h f c => Hn.implRev_val x o0 a1 W hz hz2 h f
    have HZ : Hid ((Hn.revO (Hn.revB o0 a1) o0 a1).ol.length ≤ 1048576 ∧ (Hn.revO (Hn.revB o0 a1) o0 a1).sl.length ≤ 1048576) := by
      cases hi : Hn.revB o0 a1
      · exact ⟨hz, hz2⟩
      · refine ⟨?_, hz2⟩
        show (Hn.insI a1 o0.ol).length ≤ 1048576
        rw [Hn.ins_len]
        have : Hn.cenB o0 = true := by
          unfold Hn.revB at hi
          simp at hi
          exact hi.1
        have := Hn.offB_len (Hn.cen_off this)
        omega
    generalize Hn.revB o0 a1 = C at *
    generalize Hn.revO C o0 a1 = R at *
    have HE : Hid (∀ (x y : Hn.Pl) (W : World), Hn.In W x R → Hn.In W y R → _) := fun x y W h k => Hn.eqCentre_same x y R W HZ.out.1 HZ.out.2 h k
    have hd : decide (1 + (R.ol.length : Int) + 6 * (R.sl.length : Int) < 0) = false := decide_eq_false (by omega)
    have hdk : decide (1 + (o0.ol.length : Int) + 6 * (o0.sl.length : Int) < 0) = false := decide_eq_false (by omega)
    have hnb : (C != C) = false := by simp
    clear hz hz2 hb HM
    have N1 := Pk.new_below w (Hn.ceB x0 o0 25)
    have m2 := Pk.heap_new w (Hn.ceB x0 o0 25)
    have L4 := N1
    have hs5 : w.heap.size ≤ (w.alloc (Hn.ceB x0 o0 25)).heap.size := N1.size
    have hs6 := Pk.lt_of m2
    go_enter Try.func4, Try.ntmps4
    go_wp2_with fail
    refine (HSZ.out _).mono ?_
    generalize (w.alloc (Hn.ceB x0 o0 25)) = v0 at *
    rintro e v1 ⟨rfl, Lv1⟩
    have m7 := Pk.kept Lv1 (Pk.lt_of m2) m2
    clear m2
    have L8 := Pk.join_below L4 Lv1
    clear L4
    have hs9 : v0.heap.size ≤ v1.heap.size := Lv1.size
    have c10 : v1.cell? ⟨w.heap.size, 0, none⟩ = some (.int .i64 o0.ve) := Pk.cell_at m7 0
    have c11 : v1.cell? ⟨w.heap.size, 1, none⟩ = some (.slice x0.a o0.ol.length x0.c) := Pk.cell_at m7 1
    have c12 : v1.cell? ⟨w.heap.size, 2, none⟩ = some (.slice x0.b o0.sl.length x0.d) := Pk.cell_at m7 2
    go_wp2_with fail
    refine (HTO.out _ (I.on L8)).mono ?_
    clear c10 c11 c12
    rintro e v2 ⟨yA, yA1, yA2, rfl, Lv2, IyA, MyA, yAa, yAb, yAc, yAd, yAe⟩
    have m13 := Pk.kept Lv2 (Pk.lt_of m7) m7
    clear m7
    have L14 := Pk.join_below L8 Lv2
    clear L8
    have hs15 : v1.heap.size ≤ v2.heap.size := Lv2.size
    have FyA : Hid (Hn.Flat yA ∧ (o0.ol.length ≤ yA.c ∧ o0.sl.length ≤ yA.d)) := ⟨⟨⟨_, _, yAc⟩, ⟨_, _, yAd⟩⟩, yAe⟩
    clear MyA yAa yAb yAc yAd yAe
    go_wp2_with fail
    refine (HS.out yA _ IyA FyA.out.1 FyA.out.2).mono ?_
    rintro e v4 ⟨yS, rfl, CS, Lv4⟩
    clear IyA
    have m16 := Pk.kept Lv4 (Pk.lt_of m13) m13
    clear m13
    have L17 := Pk.join_below L14 Lv4
    clear L14
    have hs18 : v2.heap.size ≤ v4.heap.size := Lv4.size
    have IS := CS.in
    clear CS
    have HFS : Hid (∀ lo hi, v4.heap.size ≤ lo → Hn.Far lo hi yS R) := fun lo hi h => Hn.Far.of IS h
    have N19 := Pk.new_below v4 (Hn.ceB yS R 30)
    have m20 := Pk.heap_new v4 (Hn.ceB yS R 30)
    have m22 := Pk.kept N19 (Pk.lt_of m16) m16
    clear m16
    have i23 := IS.on N19
    clear IS
    have L24 := Pk.join_below L17 N19
    clear L17
    have hs25 : v4.heap.size ≤ (v4.alloc (Hn.ceB yS R 30)).heap.size := N19.size
    have hs26 := Pk.lt_of m20
    have c27 : (v4.alloc (Hn.ceB yS R 30)).cell? ⟨w.heap.size, 0, none⟩ = some (.int .i64 o0.ve) := Pk.cell_at m22 0
    have c28 : (v4.alloc (Hn.ceB yS R 30)).cell? ⟨w.heap.size, 1, none⟩ = some (.slice x0.a o0.ol.length x0.c) := Pk.cell_at m22 1
    have c29 : (v4.alloc (Hn.ceB yS R 30)).cell? ⟨w.heap.size, 2, none⟩ = some (.slice x0.b o0.sl.length x0.d) := Pk.cell_at m22 2
    go_wp2_with fail
    refine (HTO.out _ (I.on L24)).mono ?_
    clear c27 c28 c29
    generalize (v4.alloc (Hn.ceB yS R 30)) = v5 at *
    rintro e v6 ⟨yX, yX1, yX2, rfl, Lv6, IyX, MyX, yXa, yXb, yXc, yXd, yXe⟩
    have m30 := Pk.kept Lv6 (Pk.lt_of m22) m22
    clear m22
    have m31 := Pk.kept Lv6 (Pk.lt_of m20) m20
    clear m20
    have i32 := i23.on Lv6
    clear i23
    have L33 := Pk.join_below L24 Lv6
    clear L24
    have hs34 : v5.heap.size ≤ v6.heap.size := Lv6.size
    have FyX : Hid (Hn.Flat yX ∧ (o0.ol.length ≤ yX.c ∧ o0.sl.length ≤ yX.d)) := ⟨⟨⟨_, _, yXc⟩, ⟨_, _, yXd⟩⟩, yXe⟩
    clear yXc yXd yXe
    have N35 := Pk.new_below v6 (Hn.ceB yX o0 30)
    have m36 := Pk.heap_new v6 (Hn.ceB yX o0 30)
    have m38 := Pk.kept N35 (Pk.lt_of m30) m30
    clear m30
    have m39 := Pk.kept N35 (Pk.lt_of m31) m31
    clear m31
    have i40 := i32.on N35
    clear i32
    have i41 := IyX.on N35
    clear IyX
    have i42 := MyX.on N35
    clear MyX
    have L43 := Pk.join_below L33 N35
    clear L33
    have hs44 : v6.heap.size ≤ (v6.alloc (Hn.ceB yX o0 30)).heap.size := N35.size
    have hs45 := Pk.lt_of m36
    go_wp2_with fail
    refine (HI.out yX _ i41 FyX.out.1 FyX.out.2).mono ?_
    generalize (v6.alloc (Hn.ceB yX o0 30)) = v8 at *
    rintro e v9 ⟨yG, rfl, CG, Lv9⟩
    have m46 := Pk.kept Lv9 (Pk.lt_of m38) m38
    clear m38
    have m47 := Pk.kept Lv9 (Pk.lt_of m39) m39
    clear m39
    have m48 := Pk.kept Lv9 (Pk.lt_of m36) m36
    clear m36
    have i49 := i40.on Lv9
    clear i40
    have i50 := i41.on Lv9
    clear i41
    have i51 := i42.on Lv9
    clear i42
    have L52 := Pk.join_below L43 Lv9
    clear L43
    have hs53 : v8.heap.size ≤ v9.heap.size := Lv9.size
    have IG := CG.in
    obtain ⟨gG1, gG2, MG⟩ := CG.mine
    clear CG
    have HG1 : Hid (R.ol.length = 0 ∨ (yG.a = some ⟨gG1, 0, none⟩ ∧ gG1 < v9.heap.size)) := MG.off.imp_right fun h => ⟨h.1, h.2.1⟩
    have HG2 : Hid (R.sl.length = 0 ∨ (yG.b = some ⟨gG2, 0, none⟩ ∧ gG2 < v9.heap.size)) := MG.seen.imp_right fun h => ⟨h.1, h.2.1⟩
    have HFG : Hid (∀ lo hi, hi ≤ v8.heap.size → Hn.Far lo hi yG R) := fun lo hi h => far_mine MG h
    have N54 := Pk.new_below v9 (Hn.ceB yG R 30)
    have m55 := Pk.heap_new v9 (Hn.ceB yG R 30)
    have m57 := Pk.kept N54 (Pk.lt_of m46) m46
    clear m46
    have m58 := Pk.kept N54 (Pk.lt_of m47) m47
    clear m47
    have m59 := Pk.kept N54 (Pk.lt_of m48) m48
    clear m48
    have i60 := i49.on N54
    clear i49
    have i61 := i50.on N54
    clear i50
    have i62 := IG.on N54
    clear IG
    have i63 := i51.on N54
    clear i51
    have i64 := MG.on N54
    clear MG
    have L65 := Pk.join_below L52 N54
    clear L52
    have hs66 : v9.heap.size ≤ (v9.alloc (Hn.ceB yG R 30)).heap.size := N54.size
    have hs67 := Pk.lt_of m55
    have c68 : (v9.alloc (Hn.ceB yG R 30)).cell? ⟨v4.heap.size, 0, none⟩ = some (.int .i64 R.ve) := Pk.cell_at m58 0
    have c69 : (v9.alloc (Hn.ceB yG R 30)).cell? ⟨v4.heap.size, 1, none⟩ = some (.slice yS.a R.ol.length yS.c) := Pk.cell_at m58 1
    have c70 : (v9.alloc (Hn.ceB yG R 30)).cell? ⟨v4.heap.size, 2, none⟩ = some (.slice yS.b R.sl.length yS.d) := Pk.cell_at m58 2
    go_wp2_with fail
    refine (HE.out yG yS _ i62 i60).mono ?_
    clear c68 c69 c70
    generalize (v9.alloc (Hn.ceB yG R 30)) = v10 at *
    rintro e v11 ⟨rfl, Lv11⟩
    have m71 := Pk.kept Lv11 (Pk.lt_of m57) m57
    clear m57
    have m72 := Pk.kept Lv11 (Pk.lt_of m58) m58
    clear m58
    have m73 := Pk.kept Lv11 (Pk.lt_of m59) m59
    clear m59
    have m74 := Pk.kept Lv11 (Pk.lt_of m55) m55
    clear m55
    have i75 := i60.on Lv11
    clear i60
    have i76 := i61.on Lv11
    clear i61
    have i77 := i62.on Lv11
    clear i62
    have i78 := i63.on Lv11
    clear i63
    have i79 := i64.on Lv11
    clear i64
    have L80 := Pk.join_below L65 Lv11
    clear L65
    have hs81 : v10.heap.size ≤ v11.heap.size := Lv11.size
    have c82 : v11.cell? ⟨w.heap.size, 0, none⟩ = some (.int .i64 o0.ve) := Pk.cell_at m71 0
    have c83 : v11.cell? ⟨w.heap.size, 1, none⟩ = some (.slice x0.a o0.ol.length x0.c) := Pk.cell_at m71 1
    have c84 : v11.cell? ⟨w.heap.size, 2, none⟩ = some (.slice x0.b o0.sl.length x0.d) := Pk.cell_at m71 2
    have c85 : v11.cell? ⟨v6.heap.size, 0, none⟩ = some (.int .i64 o0.ve) := Pk.cell_at m73 0
    have c86 : v11.cell? ⟨v6.heap.size, 1, none⟩ = some (.slice yX.a o0.ol.length yX.c) := Pk.cell_at m73 1
    have c87 : v11.cell? ⟨v6.heap.size, 2, none⟩ = some (.slice yX.b o0.sl.length yX.d) := Pk.cell_at m73 2
    go_wp2
    go_cut [49] from 16 (fun t wc => t = .bool false ∧ Below v11.heap.size v11 wc)
    case first =>
      go_region_with (first
        | (go_at_call 11; refine (HTO.out _ ?_).mono ?_; (first | exact I.on L80 | exact I.on L80.drew); rintro e x1 ⟨y1, ge, gf, rfl, M0, J1, -⟩; have M1 : Below v11.heap.size v11 x1 := (by first | exact M0 | exact ((Below.refl _ _).drew).trans M0); have p1 := Pk.kept M1 (Pk.lt_of m73) m73; have I11 := i76.on M1; have dd0 : x1.cell? ⟨v6.heap.size, 0, none⟩ = some (.int .i64 o0.ve) := Pk.cell_at p1 0; have dd1 : x1.cell? ⟨v6.heap.size, 1, none⟩ = some (.slice yX.a o0.ol.length yX.c) := Pk.cell_at p1 1; have dd2 : x1.cell? ⟨v6.heap.size, 2, none⟩ = some (.slice yX.b o0.sl.length yX.d) := Pk.cell_at p1 2; clear M0 p1)
        | (go_at_call 13; refine (HEO.out _ _ _ ?_ ?_).mono ?_; (exact I11); (exact J1); rintro e x2 ⟨rfl, M3⟩))
      all_goals
        have M4 := Pk.join_below M1 M3
        go_wp2
        go_meet
        case rel => exact ⟨rfl, M4⟩
    case rest =>
      obtain ⟨rfl, LC⟩ := hcut
      clear c82 c83 c84 c85 c86 c87
      obtain ⟨wq, hwq⟩ : ∃ wq, wq = wc := ⟨_, rfl⟩
      subst hwq
      have m88 := Pk.kept LC (Pk.lt_of m71) m71
      clear m71
      have m89 := Pk.kept LC (Pk.lt_of m72) m72
      clear m72
      have m90 := Pk.kept LC (Pk.lt_of m73) m73
      clear m73
      have m91 := Pk.kept LC (Pk.lt_of m74) m74
      clear m74
      have i92 := i75.on LC
      clear i75
      have i93 := i76.on LC
      clear i76
      have i94 := i77.on LC
      clear i77
      have i95 := i78.on LC
      clear i78
      have i96 := i79.on LC
      clear i79
      have L97 := Pk.join_below L80 LC
      clear L80
      have hs98 : v11.heap.size ≤ wq.heap.size := LC.size
      have c99 : wq.cell? ⟨v6.heap.size, 0, none⟩ = some (.int .i64 o0.ve) := Pk.cell_at m90 0
      have c100 : wq.cell? ⟨v6.heap.size, 1, none⟩ = some (.slice yX.a o0.ol.length yX.c) := Pk.cell_at m90 1
      have c101 : wq.cell? ⟨v6.heap.size, 2, none⟩ = some (.slice yX.b o0.sl.length yX.d) := Pk.cell_at m90 2
      go_wp2_with fail
      refine (Hn.markCentre_val yX o0 yX1 yX2 v5.heap.size v6.heap.size _ HZO.out.1 (by have := HZO.out.2; omega) i95 (Or.inr yXa) (Or.inr yXb)).mono ?_
      clear c99 c100 c101
      rintro e v14 ⟨rfl, Bv14, -⟩
      clear i95 i93
      have m102 := (Bv14.block _ (Pk.lt_of m88) (by have := Pk.lt_of m88; omega)).trans m88
      clear m88
      have m103 := (Bv14.block _ (Pk.lt_of m89) (by have := Pk.lt_of m89; omega)).trans m89
      clear m89
      have m104 := (Bv14.block _ (Pk.lt_of m90) (by have := Pk.lt_of m90; omega)).trans m90
      clear m90
      have m105 := (Bv14.block _ (Pk.lt_of m91) (by have := Pk.lt_of m91; omega)).trans m91
      clear m91
      have i106 := i92.brd Bv14 (HFS.out _ _ (by omega))
      clear i92
      have i107 := i94.brd Bv14 (HFG.out _ _ (by omega))
      clear i94
      have i108 := i96.brd Bv14 (by omega)
      clear i96
      have L109 := Bv14.below L97 (by omega) (by omega)
      clear L97
      have hs110 : wq.heap.size ≤ v14.heap.size := Bv14.size
      have c111 : v14.cell? ⟨v9.heap.size, 0, none⟩ = some (.int .i64 R.ve) := Pk.cell_at m105 0
      have c112 : v14.cell? ⟨v9.heap.size, 1, none⟩ = some (.slice yG.a R.ol.length yG.c) := Pk.cell_at m105 1
      have c113 : v14.cell? ⟨v9.heap.size, 2, none⟩ = some (.slice yG.b R.sl.length yG.d) := Pk.cell_at m105 2
      have c114 : v14.cell? ⟨v4.heap.size, 0, none⟩ = some (.int .i64 R.ve) := Pk.cell_at m103 0
      have c115 : v14.cell? ⟨v4.heap.size, 1, none⟩ = some (.slice yS.a R.ol.length yS.c) := Pk.cell_at m103 1
      have c116 : v14.cell? ⟨v4.heap.size, 2, none⟩ = some (.slice yS.b R.sl.length yS.d) := Pk.cell_at m103 2
      go_wp2_with fail
      refine (HE.out yG yS _ i107 i106).mono ?_
      clear c111 c112 c113 c114 c115 c116
      rintro e v16 ⟨rfl, Lv16⟩
      have m117 := Pk.kept Lv16 (Pk.lt_of m102) m102
      clear m102
      have m118 := Pk.kept Lv16 (Pk.lt_of m103) m103
      clear m103
      have m119 := Pk.kept Lv16 (Pk.lt_of m104) m104
      clear m104
      have m120 := Pk.kept Lv16 (Pk.lt_of m105) m105
      clear m105
      have i121 := i106.on Lv16
      clear i106
      have i122 := i107.on Lv16
      clear i107
      have i123 := i108.on Lv16
      clear i108
      have L124 := Pk.join_below L109 Lv16
      clear L109
      have hs125 : v14.heap.size ≤ v16.heap.size := Lv16.size
      have c126 : v16.cell? ⟨v9.heap.size, 0, none⟩ = some (.int .i64 R.ve) := Pk.cell_at m120 0
      have c127 : v16.cell? ⟨v9.heap.size, 1, none⟩ = some (.slice yG.a R.ol.length yG.c) := Pk.cell_at m120 1
      have c128 : v16.cell? ⟨v9.heap.size, 2, none⟩ = some (.slice yG.b R.sl.length yG.d) := Pk.cell_at m120 2
      go_wp2_with fail
      refine (Hn.markCentre_val yG R gG1 gG2 v8.heap.size v9.heap.size _ HZ.out.1 (by have := HZ.out.2; omega) i123 (HG1.out.imp_right fun h => h.2) (HG2.out.imp_right fun h => h.2)).mono ?_
      clear c126 c127 c128
      rintro e v17 ⟨rfl, Bv17, Kv17⟩
      clear i123 i122
      have m129 := (Bv17.block _ (Pk.lt_of m117) (by have := Pk.lt_of m117; omega)).trans m117
      clear m117
      have m130 := (Bv17.block _ (Pk.lt_of m118) (by have := Pk.lt_of m118; omega)).trans m118
      clear m118
      have m131 := (Bv17.block _ (Pk.lt_of m119) (by have := Pk.lt_of m119; omega)).trans m119
      clear m119
      have m132 := (Bv17.block _ (Pk.lt_of m120) (by have := Pk.lt_of m120; omega)).trans m120
      clear m120
      have i133 := i121.brd Bv17 (HFS.out _ _ (by omega))
      clear i121
      have L134 := Bv17.below L124 (by omega) (by omega)
      clear L124
      have hs135 : v16.heap.size ≤ v17.heap.size := Bv17.size
      have c136 : v17.cell? ⟨v9.heap.size, 0, none⟩ = some (.int .i64 R.ve) := Pk.cell_at m132 0
      have c137 : v17.cell? ⟨v9.heap.size, 1, none⟩ = some (.slice yG.a R.ol.length yG.c) := Pk.cell_at m132 1
      have c138 : v17.cell? ⟨v9.heap.size, 2, none⟩ = some (.slice yG.b R.sl.length yG.d) := Pk.cell_at m132 2
      go_wp2_with fail
      refine (Hn.heldCentre_val yG R gG1 gG2 _ HZ.out.1 (by have := HZ.out.2; omega) (HG1.out.imp_right fun h => h.1) (HG2.out.imp_right fun h => h.1) Kv17).mono ?_
      clear c136 c137 c138
      rintro e v17h ⟨rfl, Lv17h⟩
      have m139 := Pk.kept Lv17h (Pk.lt_of m129) m129
      clear m129
      have m140 := Pk.kept Lv17h (Pk.lt_of m130) m130
      clear m130
      have m141 := Pk.kept Lv17h (Pk.lt_of m131) m131
      clear m131
      have m142 := Pk.kept Lv17h (Pk.lt_of m132) m132
      clear m132
      have i143 := i133.on Lv17h
      clear i133
      have i144 := Kv17.on Lv17h
      clear Kv17
      have L145 := Pk.join_below L134 Lv17h
      clear L134
      have hs146 : v17.heap.size ≤ v17h.heap.size := Lv17h.size
      have c147 : v17h.cell? ⟨w.heap.size, 0, none⟩ = some (.int .i64 o0.ve) := Pk.cell_at m139 0
      have c148 : v17h.cell? ⟨w.heap.size, 1, none⟩ = some (.slice x0.a o0.ol.length x0.c) := Pk.cell_at m139 1
      have c149 : v17h.cell? ⟨w.heap.size, 2, none⟩ = some (.slice x0.b o0.sl.length x0.d) := Pk.cell_at m139 2
      go_wp2_with fail
      refine (HTO.out _ (I.on L145)).mono ?_
      clear c147 c148 c149
      rintro e v18 ⟨yB, yB1, yB2, rfl, Lv18, IyB, MyB, yBa, yBb, yBc, yBd, yBe⟩
      have m150 := Pk.kept Lv18 (Pk.lt_of m139) m139
      clear m139
      have m151 := Pk.kept Lv18 (Pk.lt_of m140) m140
      clear m140
      have m152 := Pk.kept Lv18 (Pk.lt_of m141) m141
      clear m141
      have m153 := Pk.kept Lv18 (Pk.lt_of m142) m142
      clear m142
      have i154 := i143.on Lv18
      clear i143
      have i155 := i144.on Lv18
      clear i144
      have L156 := Pk.join_below L145 Lv18
      clear L145
      have hs157 : v17h.heap.size ≤ v18.heap.size := Lv18.size
      have FyB : Hid (Hn.Flat yB ∧ (o0.ol.length ≤ yB.c ∧ o0.sl.length ≤ yB.d)) := ⟨⟨⟨_, _, yBc⟩, ⟨_, _, yBd⟩⟩, yBe⟩
      clear MyB yBa yBb yBc yBd yBe
      go_wp2_with fail
      refine (HI.out yB _ IyB FyB.out.1 FyB.out.2).mono ?_
      rintro e v20 ⟨yH, rfl, CH, Lv20⟩
      clear IyB
      have m158 := Pk.kept Lv20 (Pk.lt_of m150) m150
      clear m150
      have m159 := Pk.kept Lv20 (Pk.lt_of m151) m151
      clear m151
      have m160 := Pk.kept Lv20 (Pk.lt_of m152) m152
      clear m152
      have m161 := Pk.kept Lv20 (Pk.lt_of m153) m153
      clear m153
      have i162 := i154.on Lv20
      clear i154
      have i163 := i155.on Lv20
      clear i155
      have L164 := Pk.join_below L156 Lv20
      clear L156
      have hs165 : v18.heap.size ≤ v20.heap.size := Lv20.size
      have IH := CH.in
      clear CH
      have N166 := Pk.new_below v20 (Hn.ceB yH R 30)
      have m167 := Pk.heap_new v20 (Hn.ceB yH R 30)
      have m169 := Pk.kept N166 (Pk.lt_of m158) m158
      clear m158
      have m170 := Pk.kept N166 (Pk.lt_of m159) m159
      clear m159
      have m171 := Pk.kept N166 (Pk.lt_of m160) m160
      clear m160
      have m172 := Pk.kept N166 (Pk.lt_of m161) m161
      clear m161
      have i173 := i162.on N166
      clear i162
      have i174 := IH.on N166
      clear IH
      have i175 := i163.on N166
      clear i163
      have L176 := Pk.join_below L164 N166
      clear L164
      have hs177 : v20.heap.size ≤ (v20.alloc (Hn.ceB yH R 30)).heap.size := N166.size
      have hs178 := Pk.lt_of m167
      have c179 : (v20.alloc (Hn.ceB yH R 30)).cell? ⟨v4.heap.size, 0, none⟩ = some (.int .i64 R.ve) := Pk.cell_at m170 0
      have c180 : (v20.alloc (Hn.ceB yH R 30)).cell? ⟨v4.heap.size, 1, none⟩ = some (.slice yS.a R.ol.length yS.c) := Pk.cell_at m170 1
      have c181 : (v20.alloc (Hn.ceB yH R 30)).cell? ⟨v4.heap.size, 2, none⟩ = some (.slice yS.b R.sl.length yS.d) := Pk.cell_at m170 2
      go_wp2_with fail
      refine (HE.out yH yS _ i174 i173).mono ?_
      clear c179 c180 c181
      generalize (v20.alloc (Hn.ceB yH R 30)) = v21 at *
      rintro e v22 ⟨rfl, Lv22⟩
      have m182 := Pk.kept Lv22 (Pk.lt_of m169) m169
      clear m169
      have m183 := Pk.kept Lv22 (Pk.lt_of m170) m170
      clear m170
      have m184 := Pk.kept Lv22 (Pk.lt_of m171) m171
      clear m171
      have m185 := Pk.kept Lv22 (Pk.lt_of m172) m172
      clear m172
      have m186 := Pk.kept Lv22 (Pk.lt_of m167) m167
      clear m167
      have i187 := i173.on Lv22
      clear i173
      have i188 := i174.on Lv22
      clear i174
      have i189 := i175.on Lv22
      clear i175
      have L190 := Pk.join_below L176 Lv22
      clear L176
      have hs191 : v21.heap.size ≤ v22.heap.size := Lv22.size
      have c192 : v22.cell? ⟨v9.heap.size, 0, none⟩ = some (.int .i64 R.ve) := Pk.cell_at m185 0
      have c193 : v22.cell? ⟨v9.heap.size, 1, none⟩ = some (.slice yG.a R.ol.length yG.c) := Pk.cell_at m185 1
      have c194 : v22.cell? ⟨v9.heap.size, 2, none⟩ = some (.slice yG.b R.sl.length yG.d) := Pk.cell_at m185 2
      go_wp2_with fail
      refine (Hn.heldCentre_val yG R gG1 gG2 _ HZ.out.1 (by have := HZ.out.2; omega) (HG1.out.imp_right fun h => h.1) (HG2.out.imp_right fun h => h.1) i189).mono ?_
      clear c192 c193 c194
      rintro e v23 ⟨rfl, Lv23⟩
      have m195 := Pk.kept Lv23 (Pk.lt_of m182) m182
      clear m182
      have m196 := Pk.kept Lv23 (Pk.lt_of m183) m183
      clear m183
      have m197 := Pk.kept Lv23 (Pk.lt_of m184) m184
      clear m184
      have m198 := Pk.kept Lv23 (Pk.lt_of m185) m185
      clear m185
      have m199 := Pk.kept Lv23 (Pk.lt_of m186) m186
      clear m186
      have i200 := i187.on Lv23
      clear i187
      have i201 := i188.on Lv23
      clear i188
      have i202 := i189.on Lv23
      clear i189
      have L203 := Pk.join_below L190 Lv23
      clear L190
      have hs204 : v22.heap.size ≤ v23.heap.size := Lv23.size
      go_wp2
      go_ret
      exact ⟨rfl, L203⟩
  · have N := Pk.new_below w (Hn.ceB x0 o0 25)
    have HB : Hid (¬ (o0.ol.length : Int) + (o0.sl.length : Int) ≤ 1048576) := hb
    clear hb
    go_enter Try.func4, Try.ntmps4
    go_wp2_with fail
    refine (Hn.szCentre_no x0 o0 1048576 _ (by omega) (by omega) HM.out.1 HM.out.2 (by have := HB.out; omega)).mono ?_
    rintro e w1 ⟨rfl, L1⟩
    go_wp2
    go_ret
    exact ⟨rfl, Pk.join_below N L1⟩

set_option maxRecDepth 100000 in
theorem contract (H : Type) (enc : TypeId × Value → H) (W : World) (base : Nat) (args : Array Value) (ds gs : List (DataW H)) (before : List MemPlace)
    (hval : ∀ (j : Nat) t v, Try.f4.params[j]? = some t → args[j]? = some v → Value.okWide Try.prog W .any base t v)
    (hW : DataW.Whole enc Try.prog Try.f4.params.toList Rows.fnExactRevokeSpec.vars false W args.toList ds gs before) :
    Calls Try.prog 4 args W fun e W' => ∃ v, e = .returned v ∧ Rows.fnExactRevokeSpec.post enc Try.prog Try.f4 false true false false W args v W' := by
  have hW' := hW
  obtain ⟨p, q, hA0, hV, rfl, hfz, hnd⟩ := hW
  have hA : DataW.TrodAll enc Try.prog W 0 (fun _ => true) true Try.f4.params.toList args.toList ds p := hA0
  rw [Try.params4] at hA hval
  obtain ⟨v0, vs0, d0, ds0, p0, q0, hargs, rfl, rfl, h0, r0⟩ := trodAll_cons hA
  obtain ⟨v1, vs1, d1, ds1, p1, q1, rfl, rfl, rfl, h1, r1⟩ := trodAll_cons r0
  obtain ⟨rfl, rfl, rfl⟩ := trodAll_nil r1
  obtain rfl : args = #[v0, v1] := by cases args; simp_all
  obtain ⟨rfl, rfl⟩ := trodVars_none hV
  have k0 := h0
  have lt0 : ∀ x ∈ p0, x.block < W.heap.size := by obtain ⟨m, hm⟩ := k0; exact DataW.trod_lt m _ _ _ hm
  obtain ⟨x0, o0, rfl, w0i, w0l⟩ := Hn.centre_open (hval 0 25 v0 rfl rfl) h0
  have k1 := h1
  have lt1 : ∀ x ∈ p1, x.block < W.heap.size := by obtain ⟨m, hm⟩ := k1; exact DataW.trod_lt m _ _ _ hm
  obtain ⟨a1, rfl, rfl, rfl, w1⟩ := open_int Try.underlying3 (hval 1 3 v1 rfl rfl) h1
  clear hA0
  refine (walk x0 o0 a1 w1 W ⟨w0i, w0l⟩  ).mono fun e W' ⟨he, bel⟩ => ?_
  subst he
  exact ⟨_, rfl, _, _, _, [], _, [], hW', trodAll_mk1 (shut_bool Try.underlying4 _), (trodAll_cons_mk (Below.trod Errs.laidOut (by kernel_rfl) (of_decide_eq_true (by kernel_rfl)) k0 bel lt0) (trodAll_cons_mk (Below.trod Errs.laidOut (by kernel_rfl) (of_decide_eq_true (by kernel_rfl)) k1 bel lt1) trodAll_mk0)), rfl, bel.frame _, fun h => by cases h⟩

set_option maxRecDepth 100000 in
theorem lifted (os : Os) (started : os.Started) (H : Type) (enc : TypeId × Value → H) :
    ReturnsInHanded {} Try.checked os 4 .any (Rows.fnExactRevokeSpec.pre6 enc Try.prog Try.f4 Rows.fnExactRevokeRow.domain false) (Rows.fnExactRevokeSpec.post enc Try.prog Try.f4 false true false false) := by
  refine returnsInHanded_of_change (C := Try.checked) Errs.own started (by kernel_rfl) Try.func4
    (ChangeSpec.witness6 (enc := enc) (C := Try.checked) false ⟨#[], #[.agg #[.int .i64 0, .slice none 0 0, .slice none 0 0], .int .i64 0], []⟩ 8 (by kernel_rfl) (by kernel_rfl) (by kernel_rfl) (by kernel_rfl)) ?_
  intro W base args ds gs before hval hW _ _
  exact contract H enc W base args ds gs before hval hW

set_option maxRecDepth 100000 in
theorem over : Rows.fnExactRevokeRow.holds Try.pinned (OpenSpec.ofChange Rows.fnExactRevokeSpec) :=
  OpenClaim.holds_of_wide 4 Try.f4 rfl rfl rfl rfl rfl rfl rfl ⟨rfl, rfl, rfl, rfl, rfl⟩ rfl rfl rfl rfl rfl (by kernel_rfl) Try.func4 (by kernel_rfl)
    (of_decide_eq_true (by kernel_rfl)) (by unfold Func.isWrapper; first | (rw [if_pos (by decide +kernel)]; kernel_rfl) | (rw [if_neg (by decide +kernel)]; exact ⟨rfl, rfl⟩))
    (fun os started H enc _ => lifted os started H enc)
end Go.Proofs.Ytjjfleepnjhamaa.fnExactRevoke
namespace Go.Proofs.Ytjjfleepnjhamaa
theorem FnExactRevoke_holds : Rows.FnExactRevokeSaid := fnExactRevoke.over
end Go.Proofs.Ytjjfleepnjhamaa

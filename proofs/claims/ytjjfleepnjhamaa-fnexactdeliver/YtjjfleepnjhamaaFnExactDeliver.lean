/- For every centre and list of controls the law of Deliver answers true: the program's Deliver and its model return the same centre, the program's in memory of its own; nothing of what came in is turned, and a further call leaves the first answer as it was. No condition. -/
import Derived.Test.YtjjfleepnjhamaaErrs
import Derived.ShutString
import Derived.Lib.SmallJoins
import Derived.Test.YtjjfleepnjhamaaCeDel
import Derived.Test.YtjjfleepnjhamaaCeTo2
import Derived.Test.YtjjfleepnjhamaaCeCt
import Derived.Deep.Cut
import Derived.Test.YtjjfleepnjhamaaCeTo
import Derived.Test.YtjjfleepnjhamaaCeIn
namespace Go.Proofs.Ytjjfleepnjhamaa.fnExactDeliver
open Go.ChangeShapes Go.WideShapes Go.ChangeAt Go.RowKit Go.Joins
open Go.ChangeMaps (open_string shut_string)
set_option linter.unusedVariables false
set_option linter.unusedSimpArgs false

theorem far_mine {lo hi lo' : Nat} {w : World} {x : Hn.Pl} {o : Hn.Ctr} {g1 g2 : Nat} (h : Hn.Mine lo' w x o g1 g2) (hh : hi ≤ lo') : Hn.Far lo hi x o :=
  Hn.Far.mine (hi := hi) ⟨h.ne, Nat.le_trans hh h.lo1, Nat.le_trans hh h.lo2, h.off, h.seen⟩

theorem far_ints {lo hi g : Nat} {zs : List Int} (h : g < lo ∨ hi ≤ g) : ∀ b o, (some ⟨g, 0, none⟩ : Option Addr) = some ⟨b, o, none⟩ → zs ≠ [] → b < lo ∨ hi ≤ b := by
  intro b o e _
  simp only [Option.some.injEq, Addr.mk.injEq] at e
  omega

theorem far_ctls {lo hi g : Nat} {zs : List Hn.Ct} (h : g < lo ∨ hi ≤ g) : ∀ b o, (some ⟨g, 0, none⟩ : Option Addr) = some ⟨b, o, none⟩ → zs ≠ [] → b < lo ∨ hi ≤ b := by
  intro b o e _
  simp only [Option.some.injEq, Addr.mk.injEq] at e
  omega


set_option maxRecDepth 100000 in
set_option maxHeartbeats 8000000 in
theorem walk (x0 : Hn.Pl) (o0 : Hn.Ctr) (a1 : Option Addr) (cap1 : Nat) (z1 : List Hn.Ct) (w : World) (w0 : Hn.In w x0 o0 ∧ Hn.Lim o0) (w1 : Hn.Controls w a1 z1 ∧ z1.length ≤ maxLen ∧ Hn.Wfs z1)   :
    Calls Try.prog 5 #[Hn.ceV x0 o0, .slice a1 z1.length cap1] w fun e w' => e = .returned (.bool true) ∧ Below w.heap.size w w' := by
  obtain ⟨I, LM⟩ := w0
  have hm1 : o0.ol.length ≤ maxLen := LM.ol
  have hm2 : o0.sl.length ≤ maxLen := LM.sl
  have HM : Hid (o0.ol.length ≤ maxLen ∧ o0.sl.length ≤ maxLen) := ⟨hm1, hm2⟩
  obtain ⟨J, hj0, hwl⟩ := w1
  have HWF : Hid (Hn.Wfs o0.sl ∧ Hn.Wfs z1) := ⟨LM.wf, hwl⟩
  have HJ0 : Hid (z1.length ≤ maxLen) := hj0
  clear LM hm1 hm2 hwl hj0
  by_cases hb : (o0.ol.length : Int) + (o0.sl.length : Int) ≤ 1048576
  · by_cases hb2 : (z1.length : Int) ≤ 1048576 - (o0.ol.length : Int) - (o0.sl.length : Int)
    · have hz : o0.ol.length ≤ 1048576 := by omega
      have hz2 : o0.sl.length ≤ 1048576 := by omega
      have hd0 : decide (1048576 - (o0.ol.length : Int) - (o0.sl.length : Int) < 0) = false := decide_eq_false (by omega)
      have HTO : Hid (∀ (W : World), Hn.In W x0 o0 → _) := fun W h => Hn.toCentre_cap x0 o0 W hz hz2 h
      have HEO : Hid (∀ (x y : Hn.Pl) (W : World), Hn.In W x o0 → Hn.In W y o0 → _) := fun x y W h k => Hn.eqCentre_same x y o0 W hz hz2 h k
      have HSZ : Hid (∀ (W : World), _) := fun W => Hn.szCentre_yes x0 o0 1048576 W (by omega) hb
      have HZO : Hid (o0.ol.length ≤ 1048576 ∧ o0.sl.length ≤ 1048576) := ⟨hz, hz2⟩
      have hz3 : z1.length ≤ 1048576 := by omega
      have HSZ2 : Hid (∀ W : World, _) := fun W => Hn.szControlS_yes a1 z1.length cap1 (1048576 - (o0.ol.length : Int) - (o0.sl.length : Int)) W (by omega) hb2
      have hd1 : decide (1048576 - (o0.ol.length : Int) - (o0.sl.length : Int) - (z1.length : Int) < 0) = false := decide_eq_false (by omega)
      have HTC : Hid (∀ (W : World), Hn.Controls W a1 z1 → _) := fun W h => Hn.toControlS_val a1 z1 cap1 W hz3 h
      have HEX : Hid (∀ (a b : Option Addr) (c1 c2 : Nat) (W : World), Hn.Controls W a z1 → Hn.Controls W b z1 → _) := fun a b c1 c2 W h k => Hn.eqControlS_same a b z1 c1 c2 W hz3 h k
      have HS : Hid (∀ (x : Hn.Pl) (b u c : Nat) (W : World), Hn.In W x o0 → Hn.Flat x → Hn.Controls W (some ⟨b, u, none⟩) z1 → _) := fun x b u c W h f k => Hn.specDel_val x o0 (some ⟨b, u, none⟩) z1 c W hz hz2 hz3 h f k
      have HI : Hid (∀ (x : Hn.Pl) (b u c : Nat) (W : World), Hn.In W x o0 → Hn.Flat x → Hn.Controls W (some ⟨b, u, none⟩) z1 → _) := fun x b u c W h f k => Hn.implDel_val x o0 b u z1 c W hz hz2 hz3 HWF.out.1 HWF.out.2 h f k
      have HZ : Hid ((Hn.delO (Hn.cenB o0) o0 z1).ol.length ≤ 1048576 ∧ (Hn.delO (Hn.cenB o0) o0 z1).sl.length ≤ 1048576) := by
        cases hc : Hn.cenB o0
        · exact ⟨hz, hz2⟩
        · refine ⟨hz, ?_⟩
          show (Hn.delF o0.sl z1 z1.length).length ≤ 1048576
          have := Hn.delF_len z1 (Hn.cen_ctls hc).1 z1.length
          omega
      generalize Hn.delO (Hn.cenB o0) o0 z1 = R at *
      have HE : Hid (∀ (x y : Hn.Pl) (W : World), Hn.In W x R → Hn.In W y R → _) := fun x y W h k => Hn.eqCentre_same x y R W HZ.out.1 HZ.out.2 h k
      have hd : decide (1 + (R.ol.length : Int) + 6 * (R.sl.length : Int) < 0) = false := decide_eq_false (by omega)
      have hdk : decide (1 + (o0.ol.length : Int) + 6 * (o0.sl.length : Int) + 6 * (z1.length : Int) < 0) = false := decide_eq_false (by omega)
      have HKB : Hid (0 ≤ 1 + (o0.ol.length : Int) + 6 * (o0.sl.length : Int) ∧ 1 + (o0.ol.length : Int) + 6 * (o0.sl.length : Int) ≤ 1152921504606846976) := ⟨by omega, by omega⟩
      have HZ3 : Hid (z1.length ≤ 1048577) := by show _ ≤ _; omega
      clear hz hz2 hz3 hb hb2 HM HJ0 HWF
      have N1 := Pk.new_below w (Hn.ceB x0 o0 25)
      have m2 := Pk.heap_new w (Hn.ceB x0 o0 25)
      have L4 := N1
      have hs5 : w.heap.size ≤ (w.alloc (Hn.ceB x0 o0 25)).heap.size := N1.size
      have hs6 := Pk.lt_of m2
      go_enter Try.func5, Try.ntmps5
      go_wp2_with fail
      refine (HSZ.out _).mono ?_
      generalize (w.alloc (Hn.ceB x0 o0 25)) = v0 at *
      rintro e v1 ⟨rfl, Lv1⟩
      have m7 := Pk.kept Lv1 (Pk.lt_of m2) m2
      clear m2
      have L8 := Pk.join_below L4 Lv1
      clear L4
      have hs9 : v0.heap.size ≤ v1.heap.size := Lv1.size
      go_wp2_with fail
      refine (HSZ2.out _).mono ?_
      rintro e v1b ⟨rfl, hv1b⟩
      obtain rfl := hv1b
      have c10 : v1b.cell? ⟨w.heap.size, 0, none⟩ = some (.int .i64 o0.ve) := Pk.cell_at m7 0
      have c11 : v1b.cell? ⟨w.heap.size, 1, none⟩ = some (.slice x0.a o0.ol.length x0.c) := Pk.cell_at m7 1
      have c12 : v1b.cell? ⟨w.heap.size, 2, none⟩ = some (.slice x0.b o0.sl.length x0.d) := Pk.cell_at m7 2
      go_wp2_with fail
      refine (HTO.out _ (I.on L8)).mono ?_
      clear c10 c11 c12
      rintro e v2 ⟨yA, yA1, yA2, rfl, Lv2, IyA, MyA, yAa, yAb, yAc, yAd, yAe⟩
      have m13 := Pk.kept Lv2 (Pk.lt_of m7) m7
      clear m7
      have L14 := Pk.join_below L8 Lv2
      clear L8
      have hs15 : v1b.heap.size ≤ v2.heap.size := Lv2.size
      have FyA : Hid (Hn.Flat yA) := ⟨⟨_, _, yAc⟩, ⟨_, _, yAd⟩⟩
      clear MyA yAa yAb yAc yAd yAe
      go_wp2_with fail
      refine (HTC.out _ (J.on L14)).mono ?_
      rintro e v3 ⟨rfl, Lv3, Cv3, hv3, Rv3⟩
      have m16 := Pk.kept Lv3 (Pk.lt_of m13) m13
      clear m13
      have i17 := IyA.on Lv3
      clear IyA
      have L18 := Pk.join_below L14 Lv3
      clear L14
      have hs19 : v2.heap.size ≤ v3.heap.size := Lv3.size
      clear Rv3
      go_wp2_with fail
      refine (HS.out yA _ _ _ _ i17 FyA.out Cv3).mono ?_
      rintro e v4 ⟨yS, rfl, CS, Lv4⟩
      clear i17 Cv3 FyA
      have m20 := Pk.kept Lv4 (Pk.lt_of m16) m16
      clear m16
      have L21 := Pk.join_below L18 Lv4
      clear L18
      have hs22 : v3.heap.size ≤ v4.heap.size := Lv4.size
      have IS := CS.in
      clear CS
      have HFS : Hid (∀ lo hi, v4.heap.size ≤ lo → Hn.Far lo hi yS R) := fun lo hi h => Hn.Far.of IS h
      have N23 := Pk.new_below v4 (Hn.ceB yS R 30)
      have m24 := Pk.heap_new v4 (Hn.ceB yS R 30)
      have m26 := Pk.kept N23 (Pk.lt_of m20) m20
      clear m20
      have i27 := IS.on N23
      clear IS
      have L28 := Pk.join_below L21 N23
      clear L21
      have hs29 : v4.heap.size ≤ (v4.alloc (Hn.ceB yS R 30)).heap.size := N23.size
      have hs30 := Pk.lt_of m24
      have c31 : (v4.alloc (Hn.ceB yS R 30)).cell? ⟨w.heap.size, 0, none⟩ = some (.int .i64 o0.ve) := Pk.cell_at m26 0
      have c32 : (v4.alloc (Hn.ceB yS R 30)).cell? ⟨w.heap.size, 1, none⟩ = some (.slice x0.a o0.ol.length x0.c) := Pk.cell_at m26 1
      have c33 : (v4.alloc (Hn.ceB yS R 30)).cell? ⟨w.heap.size, 2, none⟩ = some (.slice x0.b o0.sl.length x0.d) := Pk.cell_at m26 2
      go_wp2_with fail
      refine (HTO.out _ (I.on L28)).mono ?_
      clear c31 c32 c33
      generalize (v4.alloc (Hn.ceB yS R 30)) = v5 at *
      rintro e v6 ⟨yX, yX1, yX2, rfl, Lv6, IyX, MyX, yXa, yXb, yXc, yXd, yXe⟩
      have m34 := Pk.kept Lv6 (Pk.lt_of m26) m26
      clear m26
      have m35 := Pk.kept Lv6 (Pk.lt_of m24) m24
      clear m24
      have i36 := i27.on Lv6
      clear i27
      have L37 := Pk.join_below L28 Lv6
      clear L28
      have hs38 : v5.heap.size ≤ v6.heap.size := Lv6.size
      have FyX : Hid (Hn.Flat yX) := ⟨⟨_, _, yXc⟩, ⟨_, _, yXd⟩⟩
      clear yXc yXd yXe
      have N39 := Pk.new_below v6 (Hn.ceB yX o0 30)
      have m40 := Pk.heap_new v6 (Hn.ceB yX o0 30)
      have m42 := Pk.kept N39 (Pk.lt_of m34) m34
      clear m34
      have m43 := Pk.kept N39 (Pk.lt_of m35) m35
      clear m35
      have i44 := i36.on N39
      clear i36
      have i45 := IyX.on N39
      clear IyX
      have i46 := MyX.on N39
      clear MyX
      have L47 := Pk.join_below L37 N39
      clear L37
      have hs48 : v6.heap.size ≤ (v6.alloc (Hn.ceB yX o0 30)).heap.size := N39.size
      have hs49 := Pk.lt_of m40
      go_wp2_with fail
      refine (HTC.out _ (J.on L47)).mono ?_
      generalize (v6.alloc (Hn.ceB yX o0 30)) = v7 at *
      rintro e v7b ⟨rfl, Lv7b, Cv7b, hv7b, Rv7b⟩
      have m50 := Pk.kept Lv7b (Pk.lt_of m42) m42
      clear m42
      have m51 := Pk.kept Lv7b (Pk.lt_of m43) m43
      clear m43
      have m52 := Pk.kept Lv7b (Pk.lt_of m40) m40
      clear m40
      have i53 := i44.on Lv7b
      clear i44
      have i54 := i45.on Lv7b
      clear i45
      have i55 := i46.on Lv7b
      clear i46
      have L56 := Pk.join_below L47 Lv7b
      clear L47
      have hs57 : v7.heap.size ≤ v7b.heap.size := Lv7b.size
      have c58 : v7b.cell? ⟨v6.heap.size, 0, none⟩ = some (.int .i64 o0.ve) := Pk.cell_at m52 0
      have c59 : v7b.cell? ⟨v6.heap.size, 1, none⟩ = some (.slice yX.a o0.ol.length yX.c) := Pk.cell_at m52 1
      have c60 : v7b.cell? ⟨v6.heap.size, 2, none⟩ = some (.slice yX.b o0.sl.length yX.d) := Pk.cell_at m52 2
      go_wp2_with fail
      refine (HI.out yX _ _ _ _ i54 FyX.out Cv7b).mono ?_
      clear c58 c59 c60
      rintro e v9 ⟨yG, rfl, CG, Lv9⟩
      have m61 := Pk.kept Lv9 (Pk.lt_of m50) m50
      clear m50
      have m62 := Pk.kept Lv9 (Pk.lt_of m51) m51
      clear m51
      have m63 := Pk.kept Lv9 (Pk.lt_of m52) m52
      clear m52
      have i64 := i53.on Lv9
      clear i53
      have i65 := i54.on Lv9
      clear i54
      have i66 := i55.on Lv9
      clear i55
      have q67 := Cv7b.on Lv9
      clear Cv7b
      have q68 := Pk.Room.on Rv7b Lv9 (by omega)
      clear Rv7b
      have L69 := Pk.join_below L56 Lv9
      clear L56
      have hs70 : v7b.heap.size ≤ v9.heap.size := Lv9.size
      have IG := CG.in
      obtain ⟨gG1, gG2, MG⟩ := CG.mine
      clear CG
      have HG1 : Hid (R.ol.length = 0 ∨ (yG.a = some ⟨gG1, 0, none⟩ ∧ gG1 < v9.heap.size)) := MG.off.imp_right fun h => ⟨h.1, h.2.1⟩
      have HG2 : Hid (R.sl.length = 0 ∨ (yG.b = some ⟨gG2, 0, none⟩ ∧ gG2 < v9.heap.size)) := MG.seen.imp_right fun h => ⟨h.1, h.2.1⟩
      have HFG : Hid (∀ lo hi, hi ≤ v7b.heap.size → Hn.Far lo hi yG R) := fun lo hi h => far_mine MG h
      have N71 := Pk.new_below v9 (Hn.ceB yG R 30)
      have m72 := Pk.heap_new v9 (Hn.ceB yG R 30)
      have m74 := Pk.kept N71 (Pk.lt_of m61) m61
      clear m61
      have m75 := Pk.kept N71 (Pk.lt_of m62) m62
      clear m62
      have m76 := Pk.kept N71 (Pk.lt_of m63) m63
      clear m63
      have i77 := i64.on N71
      clear i64
      have i78 := i65.on N71
      clear i65
      have i79 := IG.on N71
      clear IG
      have i80 := i66.on N71
      clear i66
      have i81 := MG.on N71
      clear MG
      have q82 := q67.on N71
      clear q67
      have q83 := Pk.Room.on q68 N71 (by omega)
      clear q68
      have L84 := Pk.join_below L69 N71
      clear L69
      have hs85 : v9.heap.size ≤ (v9.alloc (Hn.ceB yG R 30)).heap.size := N71.size
      have hs86 := Pk.lt_of m72
      have c87 : (v9.alloc (Hn.ceB yG R 30)).cell? ⟨v4.heap.size, 0, none⟩ = some (.int .i64 R.ve) := Pk.cell_at m75 0
      have c88 : (v9.alloc (Hn.ceB yG R 30)).cell? ⟨v4.heap.size, 1, none⟩ = some (.slice yS.a R.ol.length yS.c) := Pk.cell_at m75 1
      have c89 : (v9.alloc (Hn.ceB yG R 30)).cell? ⟨v4.heap.size, 2, none⟩ = some (.slice yS.b R.sl.length yS.d) := Pk.cell_at m75 2
      go_wp2_with fail
      refine (HE.out yG yS _ i79 i77).mono ?_
      clear c87 c88 c89
      generalize (v9.alloc (Hn.ceB yG R 30)) = v10 at *
      rintro e v11 ⟨rfl, Lv11⟩
      have m90 := Pk.kept Lv11 (Pk.lt_of m74) m74
      clear m74
      have m91 := Pk.kept Lv11 (Pk.lt_of m75) m75
      clear m75
      have m92 := Pk.kept Lv11 (Pk.lt_of m76) m76
      clear m76
      have m93 := Pk.kept Lv11 (Pk.lt_of m72) m72
      clear m72
      have i94 := i77.on Lv11
      clear i77
      have i95 := i78.on Lv11
      clear i78
      have i96 := i79.on Lv11
      clear i79
      have i97 := i80.on Lv11
      clear i80
      have i98 := i81.on Lv11
      clear i81
      have q99 := q82.on Lv11
      clear q82
      have q100 := Pk.Room.on q83 Lv11 (by omega)
      clear q83
      have L101 := Pk.join_below L84 Lv11
      clear L84
      have hs102 : v10.heap.size ≤ v11.heap.size := Lv11.size
      have c103 : v11.cell? ⟨w.heap.size, 0, none⟩ = some (.int .i64 o0.ve) := Pk.cell_at m90 0
      have c104 : v11.cell? ⟨w.heap.size, 1, none⟩ = some (.slice x0.a o0.ol.length x0.c) := Pk.cell_at m90 1
      have c105 : v11.cell? ⟨w.heap.size, 2, none⟩ = some (.slice x0.b o0.sl.length x0.d) := Pk.cell_at m90 2
      have c106 : v11.cell? ⟨v6.heap.size, 0, none⟩ = some (.int .i64 o0.ve) := Pk.cell_at m92 0
      have c107 : v11.cell? ⟨v6.heap.size, 1, none⟩ = some (.slice yX.a o0.ol.length yX.c) := Pk.cell_at m92 1
      have c108 : v11.cell? ⟨v6.heap.size, 2, none⟩ = some (.slice yX.b o0.sl.length yX.d) := Pk.cell_at m92 2
      go_wp2
      go_cut [44] from 14 (fun t wc => t = .bool false ∧ Below v11.heap.size v11 wc)
      case first =>
        go_region_with (first
          | (go_at_call 11; refine (HTO.out _ ?_).mono ?_; (first | exact I.on L101 | exact I.on L101.drew); rintro e x1 ⟨y1, ge, gf, rfl, M0, J1, -⟩; have M1 : Below v11.heap.size v11 x1 := (by first | exact M0 | exact ((Below.refl _ _).drew).trans M0); have p1 := Pk.kept M1 (Pk.lt_of m92) m92; have I11 := i95.on M1; have dd0 : x1.cell? ⟨v6.heap.size, 0, none⟩ = some (.int .i64 o0.ve) := Pk.cell_at p1 0; have dd1 : x1.cell? ⟨v6.heap.size, 1, none⟩ = some (.slice yX.a o0.ol.length yX.c) := Pk.cell_at p1 1; have dd2 : x1.cell? ⟨v6.heap.size, 2, none⟩ = some (.slice yX.b o0.sl.length yX.d) := Pk.cell_at p1 2; clear M0 p1)
          | (go_at_call 13; refine (HEO.out _ _ _ ?_ ?_).mono ?_; (exact I11); (exact J1); rintro e x2 ⟨rfl, M3⟩))
        all_goals
          have M4 := Pk.join_below M1 M3
          go_wp2
          go_meet
          case rel => exact ⟨rfl, M4⟩
      case rest =>
        obtain ⟨rfl, LC⟩ := hcut
        clear c103 c104 c105 c106 c107 c108
        obtain ⟨wq, hwq⟩ : ∃ wq, wq = wc := ⟨_, rfl⟩
        subst hwq
        have m109 := Pk.kept LC (Pk.lt_of m90) m90
        clear m90
        have m110 := Pk.kept LC (Pk.lt_of m91) m91
        clear m91
        have m111 := Pk.kept LC (Pk.lt_of m92) m92
        clear m92
        have m112 := Pk.kept LC (Pk.lt_of m93) m93
        clear m93
        have i113 := i94.on LC
        clear i94
        have i114 := i95.on LC
        clear i95
        have i115 := i96.on LC
        clear i96
        have i116 := i97.on LC
        clear i97
        have i117 := i98.on LC
        clear i98
        have q118 := q99.on LC
        clear q99
        have q119 := Pk.Room.on q100 LC (by omega)
        clear q100
        have L120 := Pk.join_below L101 LC
        clear L101
        have hs121 : v11.heap.size ≤ wq.heap.size := LC.size
        go_wp2_with fail
        refine (HTC.out _ (J.on L120)).mono ?_
        rintro e v12 ⟨rfl, Lv12, Cv12, hv12, Rv12⟩
        have m122 := Pk.kept Lv12 (Pk.lt_of m109) m109
        clear m109
        have m123 := Pk.kept Lv12 (Pk.lt_of m110) m110
        clear m110
        have m124 := Pk.kept Lv12 (Pk.lt_of m111) m111
        clear m111
        have m125 := Pk.kept Lv12 (Pk.lt_of m112) m112
        clear m112
        have i126 := i113.on Lv12
        clear i113
        have i127 := i114.on Lv12
        clear i114
        have i128 := i115.on Lv12
        clear i115
        have i129 := i116.on Lv12
        clear i116
        have i130 := i117.on Lv12
        clear i117
        have q131 := q118.on Lv12
        clear q118
        have q132 := Pk.Room.on q119 Lv12 (by omega)
        clear q119
        have L133 := Pk.join_below L120 Lv12
        clear L120
        have hs134 : wq.heap.size ≤ v12.heap.size := Lv12.size
        clear Rv12
        go_wp2_with fail
        refine (HEX.out _ _ _ _ _ q131 Cv12).mono ?_
        rintro e v13 ⟨rfl, Lv13⟩
        clear Cv12
        have m135 := Pk.kept Lv13 (Pk.lt_of m122) m122
        clear m122
        have m136 := Pk.kept Lv13 (Pk.lt_of m123) m123
        clear m123
        have m137 := Pk.kept Lv13 (Pk.lt_of m124) m124
        clear m124
        have m138 := Pk.kept Lv13 (Pk.lt_of m125) m125
        clear m125
        have i139 := i126.on Lv13
        clear i126
        have i140 := i127.on Lv13
        clear i127
        have i141 := i128.on Lv13
        clear i128
        have i142 := i129.on Lv13
        clear i129
        have i143 := i130.on Lv13
        clear i130
        have q144 := q131.on Lv13
        clear q131
        have q145 := Pk.Room.on q132 Lv13 (by omega)
        clear q132
        have L146 := Pk.join_below L133 Lv13
        clear L133
        have hs147 : v12.heap.size ≤ v13.heap.size := Lv13.size
        have c148 : v13.cell? ⟨v6.heap.size, 0, none⟩ = some (.int .i64 o0.ve) := Pk.cell_at m137 0
        have c149 : v13.cell? ⟨v6.heap.size, 1, none⟩ = some (.slice yX.a o0.ol.length yX.c) := Pk.cell_at m137 1
        have c150 : v13.cell? ⟨v6.heap.size, 2, none⟩ = some (.slice yX.b o0.sl.length yX.d) := Pk.cell_at m137 2
        go_wp2_with fail
        refine (Hn.markCentre_val yX o0 yX1 yX2 v5.heap.size v6.heap.size _ HZO.out.1 (by have := HZO.out.2; omega) i142 (Or.inr yXa) (Or.inr yXb)).mono ?_
        clear c148 c149 c150
        rintro e v14 ⟨rfl, Bv14, -⟩
        clear i142 i140
        have m151 := (Bv14.block _ (Pk.lt_of m135) (by have := Pk.lt_of m135; omega)).trans m135
        clear m135
        have m152 := (Bv14.block _ (Pk.lt_of m136) (by have := Pk.lt_of m136; omega)).trans m136
        clear m136
        have m153 := (Bv14.block _ (Pk.lt_of m137) (by have := Pk.lt_of m137; omega)).trans m137
        clear m137
        have m154 := (Bv14.block _ (Pk.lt_of m138) (by have := Pk.lt_of m138; omega)).trans m138
        clear m138
        have i155 := i139.brd Bv14 (HFS.out _ _ (by omega))
        clear i139
        have i156 := i141.brd Bv14 (HFG.out _ _ (by omega))
        clear i141
        have i157 := i143.brd Bv14 (by omega)
        clear i143
        have q158 := Hn.Controls.brd q144 Bv14 (far_ctls (by omega))
        clear q144
        have q159 := Hn.Room.brd q145 Bv14 (by omega) (by omega)
        clear q145
        have L160 := Bv14.below L146 (by omega) (by omega)
        clear L146
        have hs161 : v13.heap.size ≤ v14.heap.size := Bv14.size
        go_wp2_with fail
        refine (Hn.markControlS_val (some ⟨v7.heap.size, 0, none⟩) v7.heap.size z1.length _ _ _ HZ3.out HKB.out.1 HKB.out.2 (Or.inr ⟨rfl, q159⟩)).mono ?_
        rintro e v15 ⟨rfl, B15, -, -⟩
        clear q159 q158
        have BB15 := Hn.Brd.band (lo := v7.heap.size) (hi := v7.heap.size + 1) B15 (Nat.le_refl _) (Nat.le_refl _)
        have m162 := (BB15.block _ (Pk.lt_of m151) (by have := Pk.lt_of m151; omega)).trans m151
        clear m151
        have m163 := (BB15.block _ (Pk.lt_of m152) (by have := Pk.lt_of m152; omega)).trans m152
        clear m152
        have m164 := (BB15.block _ (Pk.lt_of m153) (by have := Pk.lt_of m153; omega)).trans m153
        clear m153
        have m165 := (BB15.block _ (Pk.lt_of m154) (by have := Pk.lt_of m154; omega)).trans m154
        clear m154
        have i166 := i155.brd BB15 (HFS.out _ _ (by omega))
        clear i155
        have i167 := i156.brd BB15 (HFG.out _ _ (by omega))
        clear i156
        have i168 := i157.brd BB15 (by omega)
        clear i157
        have L169 := BB15.below L160 (by omega) (by omega)
        clear L160
        have hs170 : v14.heap.size ≤ v15.heap.size := BB15.size
        have c171 : v15.cell? ⟨v9.heap.size, 0, none⟩ = some (.int .i64 R.ve) := Pk.cell_at m165 0
        have c172 : v15.cell? ⟨v9.heap.size, 1, none⟩ = some (.slice yG.a R.ol.length yG.c) := Pk.cell_at m165 1
        have c173 : v15.cell? ⟨v9.heap.size, 2, none⟩ = some (.slice yG.b R.sl.length yG.d) := Pk.cell_at m165 2
        have c174 : v15.cell? ⟨v4.heap.size, 0, none⟩ = some (.int .i64 R.ve) := Pk.cell_at m163 0
        have c175 : v15.cell? ⟨v4.heap.size, 1, none⟩ = some (.slice yS.a R.ol.length yS.c) := Pk.cell_at m163 1
        have c176 : v15.cell? ⟨v4.heap.size, 2, none⟩ = some (.slice yS.b R.sl.length yS.d) := Pk.cell_at m163 2
        go_wp2_with fail
        refine (HE.out yG yS _ i167 i166).mono ?_
        clear c171 c172 c173 c174 c175 c176
        rintro e v16 ⟨rfl, Lv16⟩
        have m177 := Pk.kept Lv16 (Pk.lt_of m162) m162
        clear m162
        have m178 := Pk.kept Lv16 (Pk.lt_of m163) m163
        clear m163
        have m179 := Pk.kept Lv16 (Pk.lt_of m164) m164
        clear m164
        have m180 := Pk.kept Lv16 (Pk.lt_of m165) m165
        clear m165
        have i181 := i166.on Lv16
        clear i166
        have i182 := i167.on Lv16
        clear i167
        have i183 := i168.on Lv16
        clear i168
        have L184 := Pk.join_below L169 Lv16
        clear L169
        have hs185 : v15.heap.size ≤ v16.heap.size := Lv16.size
        have c186 : v16.cell? ⟨v9.heap.size, 0, none⟩ = some (.int .i64 R.ve) := Pk.cell_at m180 0
        have c187 : v16.cell? ⟨v9.heap.size, 1, none⟩ = some (.slice yG.a R.ol.length yG.c) := Pk.cell_at m180 1
        have c188 : v16.cell? ⟨v9.heap.size, 2, none⟩ = some (.slice yG.b R.sl.length yG.d) := Pk.cell_at m180 2
        go_wp2_with fail
        refine (Hn.markCentre_val yG R gG1 gG2 v7b.heap.size v9.heap.size _ HZ.out.1 (by have := HZ.out.2; omega) i183 (HG1.out.imp_right fun h => h.2) (HG2.out.imp_right fun h => h.2)).mono ?_
        clear c186 c187 c188
        rintro e v17 ⟨rfl, Bv17, Kv17⟩
        clear i183 i182
        have m189 := (Bv17.block _ (Pk.lt_of m177) (by have := Pk.lt_of m177; omega)).trans m177
        clear m177
        have m190 := (Bv17.block _ (Pk.lt_of m178) (by have := Pk.lt_of m178; omega)).trans m178
        clear m178
        have m191 := (Bv17.block _ (Pk.lt_of m179) (by have := Pk.lt_of m179; omega)).trans m179
        clear m179
        have m192 := (Bv17.block _ (Pk.lt_of m180) (by have := Pk.lt_of m180; omega)).trans m180
        clear m180
        have i193 := i181.brd Bv17 (HFS.out _ _ (by omega))
        clear i181
        have L194 := Bv17.below L184 (by omega) (by omega)
        clear L184
        have hs195 : v16.heap.size ≤ v17.heap.size := Bv17.size
        have c196 : v17.cell? ⟨v9.heap.size, 0, none⟩ = some (.int .i64 R.ve) := Pk.cell_at m192 0
        have c197 : v17.cell? ⟨v9.heap.size, 1, none⟩ = some (.slice yG.a R.ol.length yG.c) := Pk.cell_at m192 1
        have c198 : v17.cell? ⟨v9.heap.size, 2, none⟩ = some (.slice yG.b R.sl.length yG.d) := Pk.cell_at m192 2
        go_wp2_with fail
        refine (Hn.heldCentre_val yG R gG1 gG2 _ HZ.out.1 (by have := HZ.out.2; omega) (HG1.out.imp_right fun h => h.1) (HG2.out.imp_right fun h => h.1) Kv17).mono ?_
        clear c196 c197 c198
        rintro e v17h ⟨rfl, Lv17h⟩
        have m199 := Pk.kept Lv17h (Pk.lt_of m189) m189
        clear m189
        have m200 := Pk.kept Lv17h (Pk.lt_of m190) m190
        clear m190
        have m201 := Pk.kept Lv17h (Pk.lt_of m191) m191
        clear m191
        have m202 := Pk.kept Lv17h (Pk.lt_of m192) m192
        clear m192
        have i203 := i193.on Lv17h
        clear i193
        have i204 := Kv17.on Lv17h
        clear Kv17
        have L205 := Pk.join_below L194 Lv17h
        clear L194
        have hs206 : v17.heap.size ≤ v17h.heap.size := Lv17h.size
        have c207 : v17h.cell? ⟨w.heap.size, 0, none⟩ = some (.int .i64 o0.ve) := Pk.cell_at m199 0
        have c208 : v17h.cell? ⟨w.heap.size, 1, none⟩ = some (.slice x0.a o0.ol.length x0.c) := Pk.cell_at m199 1
        have c209 : v17h.cell? ⟨w.heap.size, 2, none⟩ = some (.slice x0.b o0.sl.length x0.d) := Pk.cell_at m199 2
        go_wp2_with fail
        refine (HTO.out _ (I.on L205)).mono ?_
        clear c207 c208 c209
        rintro e v18 ⟨yB, yB1, yB2, rfl, Lv18, IyB, MyB, yBa, yBb, yBc, yBd, yBe⟩
        have m210 := Pk.kept Lv18 (Pk.lt_of m199) m199
        clear m199
        have m211 := Pk.kept Lv18 (Pk.lt_of m200) m200
        clear m200
        have m212 := Pk.kept Lv18 (Pk.lt_of m201) m201
        clear m201
        have m213 := Pk.kept Lv18 (Pk.lt_of m202) m202
        clear m202
        have i214 := i203.on Lv18
        clear i203
        have i215 := i204.on Lv18
        clear i204
        have L216 := Pk.join_below L205 Lv18
        clear L205
        have hs217 : v17h.heap.size ≤ v18.heap.size := Lv18.size
        have FyB : Hid (Hn.Flat yB) := ⟨⟨_, _, yBc⟩, ⟨_, _, yBd⟩⟩
        clear MyB yBa yBb yBc yBd yBe
        go_wp2_with fail
        refine (HTC.out _ (J.on L216)).mono ?_
        rintro e v19 ⟨rfl, Lv19, Cv19, hv19, Rv19⟩
        have m218 := Pk.kept Lv19 (Pk.lt_of m210) m210
        clear m210
        have m219 := Pk.kept Lv19 (Pk.lt_of m211) m211
        clear m211
        have m220 := Pk.kept Lv19 (Pk.lt_of m212) m212
        clear m212
        have m221 := Pk.kept Lv19 (Pk.lt_of m213) m213
        clear m213
        have i222 := i214.on Lv19
        clear i214
        have i223 := IyB.on Lv19
        clear IyB
        have i224 := i215.on Lv19
        clear i215
        have L225 := Pk.join_below L216 Lv19
        clear L216
        have hs226 : v18.heap.size ≤ v19.heap.size := Lv19.size
        clear Rv19
        go_wp2_with fail
        refine (HI.out yB _ _ _ _ i223 FyB.out Cv19).mono ?_
        rintro e v20 ⟨yH, rfl, CH, Lv20⟩
        clear i223 Cv19
        have m227 := Pk.kept Lv20 (Pk.lt_of m218) m218
        clear m218
        have m228 := Pk.kept Lv20 (Pk.lt_of m219) m219
        clear m219
        have m229 := Pk.kept Lv20 (Pk.lt_of m220) m220
        clear m220
        have m230 := Pk.kept Lv20 (Pk.lt_of m221) m221
        clear m221
        have i231 := i222.on Lv20
        clear i222
        have i232 := i224.on Lv20
        clear i224
        have L233 := Pk.join_below L225 Lv20
        clear L225
        have hs234 : v19.heap.size ≤ v20.heap.size := Lv20.size
        have IH := CH.in
        clear CH
        have N235 := Pk.new_below v20 (Hn.ceB yH R 30)
        have m236 := Pk.heap_new v20 (Hn.ceB yH R 30)
        have m238 := Pk.kept N235 (Pk.lt_of m227) m227
        clear m227
        have m239 := Pk.kept N235 (Pk.lt_of m228) m228
        clear m228
        have m240 := Pk.kept N235 (Pk.lt_of m229) m229
        clear m229
        have m241 := Pk.kept N235 (Pk.lt_of m230) m230
        clear m230
        have i242 := i231.on N235
        clear i231
        have i243 := IH.on N235
        clear IH
        have i244 := i232.on N235
        clear i232
        have L245 := Pk.join_below L233 N235
        clear L233
        have hs246 : v20.heap.size ≤ (v20.alloc (Hn.ceB yH R 30)).heap.size := N235.size
        have hs247 := Pk.lt_of m236
        have c248 : (v20.alloc (Hn.ceB yH R 30)).cell? ⟨v4.heap.size, 0, none⟩ = some (.int .i64 R.ve) := Pk.cell_at m239 0
        have c249 : (v20.alloc (Hn.ceB yH R 30)).cell? ⟨v4.heap.size, 1, none⟩ = some (.slice yS.a R.ol.length yS.c) := Pk.cell_at m239 1
        have c250 : (v20.alloc (Hn.ceB yH R 30)).cell? ⟨v4.heap.size, 2, none⟩ = some (.slice yS.b R.sl.length yS.d) := Pk.cell_at m239 2
        go_wp2_with fail
        refine (HE.out yH yS _ i243 i242).mono ?_
        clear c248 c249 c250
        generalize (v20.alloc (Hn.ceB yH R 30)) = v21 at *
        rintro e v22 ⟨rfl, Lv22⟩
        have m251 := Pk.kept Lv22 (Pk.lt_of m238) m238
        clear m238
        have m252 := Pk.kept Lv22 (Pk.lt_of m239) m239
        clear m239
        have m253 := Pk.kept Lv22 (Pk.lt_of m240) m240
        clear m240
        have m254 := Pk.kept Lv22 (Pk.lt_of m241) m241
        clear m241
        have m255 := Pk.kept Lv22 (Pk.lt_of m236) m236
        clear m236
        have i256 := i242.on Lv22
        clear i242
        have i257 := i243.on Lv22
        clear i243
        have i258 := i244.on Lv22
        clear i244
        have L259 := Pk.join_below L245 Lv22
        clear L245
        have hs260 : v21.heap.size ≤ v22.heap.size := Lv22.size
        have c261 : v22.cell? ⟨v9.heap.size, 0, none⟩ = some (.int .i64 R.ve) := Pk.cell_at m254 0
        have c262 : v22.cell? ⟨v9.heap.size, 1, none⟩ = some (.slice yG.a R.ol.length yG.c) := Pk.cell_at m254 1
        have c263 : v22.cell? ⟨v9.heap.size, 2, none⟩ = some (.slice yG.b R.sl.length yG.d) := Pk.cell_at m254 2
        go_wp2_with fail
        refine (Hn.heldCentre_val yG R gG1 gG2 _ HZ.out.1 (by have := HZ.out.2; omega) (HG1.out.imp_right fun h => h.1) (HG2.out.imp_right fun h => h.1) i258).mono ?_
        clear c261 c262 c263
        rintro e v23 ⟨rfl, Lv23⟩
        have m264 := Pk.kept Lv23 (Pk.lt_of m251) m251
        clear m251
        have m265 := Pk.kept Lv23 (Pk.lt_of m252) m252
        clear m252
        have m266 := Pk.kept Lv23 (Pk.lt_of m253) m253
        clear m253
        have m267 := Pk.kept Lv23 (Pk.lt_of m254) m254
        clear m254
        have m268 := Pk.kept Lv23 (Pk.lt_of m255) m255
        clear m255
        have i269 := i256.on Lv23
        clear i256
        have i270 := i257.on Lv23
        clear i257
        have i271 := i258.on Lv23
        clear i258
        have L272 := Pk.join_below L259 Lv23
        clear L259
        have hs273 : v22.heap.size ≤ v23.heap.size := Lv23.size
        go_wp2
        go_ret
        exact ⟨rfl, L272⟩
    · have N := Pk.new_below w (Hn.ceB x0 o0 25)
      have HSZ : Hid (∀ (W : World), _) := fun W => Hn.szCentre_yes x0 o0 1048576 W (by omega) hb
      have hd0 : decide (1048576 - (o0.ol.length : Int) - (o0.sl.length : Int) < 0) = false := decide_eq_false (by omega)
      have HB : Hid (1048576 - (o0.ol.length : Int) - (o0.sl.length : Int) ≤ 1048576 ∧ 0 ≤ 1048576 - (o0.ol.length : Int) - (o0.sl.length : Int) ∧ 1048576 - (o0.ol.length : Int) - (o0.sl.length : Int) < (z1.length : Int)) := ⟨by omega, by omega, by omega⟩
      clear hb hb2
      go_enter Try.func5, Try.ntmps5
      go_wp2_with fail
      refine (HSZ.out _).mono ?_
      rintro e w1 ⟨rfl, L1⟩
      go_wp2_with fail
      refine (Hn.szControlS_no a1 z1.length cap1 _ _ HB.out.1 HB.out.2.1 HJ0.out HB.out.2.2).mono ?_
      rintro e w2 ⟨rfl, rfl⟩
      go_wp2
      go_ret
      exact ⟨rfl, Pk.join_below N L1⟩
  · have N := Pk.new_below w (Hn.ceB x0 o0 25)
    have HB : Hid (¬ (o0.ol.length : Int) + (o0.sl.length : Int) ≤ 1048576) := hb
    clear hb
    go_enter Try.func5, Try.ntmps5
    go_wp2_with fail
    refine (Hn.szCentre_no x0 o0 1048576 _ (by omega) (by omega) HM.out.1 HM.out.2 (by have := HB.out; omega)).mono ?_
    rintro e w1 ⟨rfl, L1⟩
    go_wp2
    go_ret
    exact ⟨rfl, Pk.join_below N L1⟩

set_option maxRecDepth 100000 in
theorem contract (H : Type) (enc : TypeId × Value → H) (W : World) (base : Nat) (args : Array Value) (ds gs : List (DataW H)) (before : List MemPlace)
    (hval : ∀ (j : Nat) t v, Try.f5.params[j]? = some t → args[j]? = some v → Value.okWide Try.prog W .any base t v)
    (hW : DataW.Whole enc Try.prog Try.f5.params.toList Rows.fnExactDeliverSpec.vars false W args.toList ds gs before) :
    Calls Try.prog 5 args W fun e W' => ∃ v, e = .returned v ∧ Rows.fnExactDeliverSpec.post enc Try.prog Try.f5 false true false false W args v W' := by
  have hW' := hW
  obtain ⟨p, q, hA0, hV, rfl, hfz, hnd⟩ := hW
  have hA : DataW.TrodAll enc Try.prog W 0 (fun _ => true) true Try.f5.params.toList args.toList ds p := hA0
  rw [Try.params5] at hA hval
  obtain ⟨v0, vs0, d0, ds0, p0, q0, hargs, rfl, rfl, h0, r0⟩ := trodAll_cons hA
  obtain ⟨v1, vs1, d1, ds1, p1, q1, rfl, rfl, rfl, h1, r1⟩ := trodAll_cons r0
  obtain ⟨rfl, rfl, rfl⟩ := trodAll_nil r1
  obtain rfl : args = #[v0, v1] := by cases args; simp_all
  obtain ⟨rfl, rfl⟩ := trodVars_none hV
  have k0 := h0
  have lt0 : ∀ x ∈ p0, x.block < W.heap.size := by obtain ⟨m, hm⟩ := k0; exact DataW.trod_lt m _ _ _ hm
  obtain ⟨x0, o0, rfl, w0i, w0l⟩ := Hn.centre_open (hval 0 25 v0 rfl rfl) h0
  have k1 := h1
  have lt1 : ∀ x ∈ p1, x.block < W.heap.size := by obtain ⟨m, hm⟩ := k1; exact DataW.trod_lt m _ _ _ hm
  obtain ⟨a1, len1, cap1, rfl⟩ := okWide_slice Try.underlying23 (hval 1 23 v1 rfl rfl)
  obtain ⟨z1, w1, rfl⟩ : ∃ zs : List Hn.Ct, (Hn.Controls W a1 zs ∧ zs.length ≤ maxLen ∧ Hn.Wfs zs) ∧ zs.length = len1 := by
    obtain ⟨fuel, hf⟩ := h1
    obtain ⟨a, cap, ts, e, hh⟩ := Hn.controls_open hf
    simp [Value.cells] at e
    obtain ⟨rfl, rfl, rfl⟩ := e
    exact ⟨ts, ⟨hh.2.1, hh.1, hh.2.2⟩, rfl⟩
  clear hA0
  refine (walk x0 o0 a1 cap1 z1 W ⟨w0i, w0l⟩ w1  ).mono fun e W' ⟨he, bel⟩ => ?_
  subst he
  exact ⟨_, rfl, _, _, _, [], _, [], hW', trodAll_mk1 (shut_bool Try.underlying4 _), (trodAll_cons_mk (Below.trod Errs.laidOut (by kernel_rfl) (of_decide_eq_true (by kernel_rfl)) k0 bel lt0) (trodAll_cons_mk (Below.trod Errs.laidOut (by kernel_rfl) (of_decide_eq_true (by kernel_rfl)) k1 bel lt1) trodAll_mk0)), rfl, bel.frame _, fun h => by cases h⟩

set_option maxRecDepth 100000 in
theorem lifted (os : Os) (started : os.Started) (H : Type) (enc : TypeId × Value → H) :
    ReturnsInHanded {} Try.checked os 5 .any (Rows.fnExactDeliverSpec.pre6 enc Try.prog Try.f5 Rows.fnExactDeliverRow.domain false) (Rows.fnExactDeliverSpec.post enc Try.prog Try.f5 false true false false) := by
  refine returnsInHanded_of_change (C := Try.checked) Errs.own started (by kernel_rfl) Try.func5
    (ChangeSpec.witness6 (enc := enc) (C := Try.checked) false ⟨#[], #[.agg #[.int .i64 0, .slice none 0 0, .slice none 0 0], .slice none 0 0], []⟩ 8 (by kernel_rfl) (by kernel_rfl) (by kernel_rfl) (by kernel_rfl)) ?_
  intro W base args ds gs before hval hW _ _
  exact contract H enc W base args ds gs before hval hW

set_option maxRecDepth 100000 in
theorem over : Rows.fnExactDeliverRow.holds Try.pinned (OpenSpec.ofChange Rows.fnExactDeliverSpec) :=
  OpenClaim.holds_of_wide 5 Try.f5 rfl rfl rfl rfl rfl rfl rfl ⟨rfl, rfl, rfl, rfl, rfl⟩ rfl rfl rfl rfl rfl (by kernel_rfl) Try.func5 (by kernel_rfl)
    (of_decide_eq_true (by kernel_rfl)) (by unfold Func.isWrapper; first | (rw [if_pos (by decide +kernel)]; kernel_rfl) | (rw [if_neg (by decide +kernel)]; exact ⟨rfl, rfl⟩))
    (fun os started H enc _ => lifted os started H enc)
end Go.Proofs.Ytjjfleepnjhamaa.fnExactDeliver
namespace Go.Proofs.Ytjjfleepnjhamaa
theorem FnExactDeliver_holds : Rows.FnExactDeliverSaid := fnExactDeliver.over
end Go.Proofs.Ytjjfleepnjhamaa

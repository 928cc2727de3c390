/- For every centre the law of Doubles answers true: the program's Doubles and its model return the same numbers, the program's in memory of its own; nothing of what came in is turned, and a further call leaves the first answer as it was. No condition. -/
import Derived.Test.YtjjfleepnjhamaaErrs
import Derived.ShutString
import Derived.Lib.SmallJoins
import Derived.Test.YtjjfleepnjhamaaCeDblI
import Derived.Test.YtjjfleepnjhamaaCeDblS
import Derived.Test.YtjjfleepnjhamaaCeInt
import Derived.Deep.Cut
import Derived.Test.YtjjfleepnjhamaaCeTo
import Derived.Test.YtjjfleepnjhamaaCeIn
namespace Go.Proofs.Ytjjfleepnjhamaa.fnExactDoubles
open Go.ChangeShapes Go.WideShapes Go.ChangeAt Go.RowKit Go.Joins
open Go.ChangeMaps (open_string shut_string)
set_option linter.unusedVariables false
set_option linter.unusedSimpArgs false

set_option maxRecDepth 100000 in
set_option maxHeartbeats 8000000 in
theorem walk (x0 : Hn.Pl) (o0 : Hn.Ctr) (w : World) (w0 : Hn.In w x0 o0 ∧ Hn.Lim o0)   :
    Calls Try.prog 8 #[Hn.ceV x0 o0] w fun e w' => e = .returned (.bool true) ∧ Below w.heap.size w w' := by
  obtain ⟨I, LM⟩ := w0
  have hm1 : o0.ol.length ≤ maxLen := LM.ol
  have hm2 : o0.sl.length ≤ maxLen := LM.sl
  have HM : Hid (o0.ol.length ≤ maxLen ∧ o0.sl.length ≤ maxLen) := ⟨hm1, hm2⟩
  have HW : Hid (Hn.Wfs o0.sl) := LM.wf
  clear LM hm1 hm2
  by_cases hb : (o0.ol.length : Int) + (o0.sl.length : Int) ≤ 1048576
  · have hz : o0.ol.length ≤ 1048576 := by omega
    have hz2 : o0.sl.length ≤ 1048576 := by omega
    have hd0 : decide (1048576 - (o0.ol.length : Int) - (o0.sl.length : Int) < 0) = false := decide_eq_false (by omega)
    have HTO : Hid (∀ (W : World), Hn.In W x0 o0 → _) := fun W h => Hn.toCentre_val x0 o0 W hz hz2 h
    have HEO : Hid (∀ (x y : Hn.Pl) (W : World), Hn.In W x o0 → Hn.In W y o0 → _) := fun x y W h k => Hn.eqCentre_same x y o0 W hz hz2 h k
    have HSZ : Hid (∀ (W : World), _) := fun W => Hn.szCentre_yes x0 o0 1048576 W (by omega) hb
    have HZO : Hid (o0.ol.length ≤ 1048576 ∧ o0.sl.length ≤ 1048576) := ⟨hz, hz2⟩
    have HS : Hid (∀ (x : Hn.Pl) (W : World), Hn.In W x o0 → _) := fun x W h => Hn.specDbl_val x o0 W hz2 h
    have HI : Hid (∀ (x : Hn.Pl) (W : World), Hn.In W x o0 → _) := fun x W h => Hn.implDbl_val x o0 W hz2 HW.out h
    have HZ : Hid ((Hn.dblL o0.sl).length ≤ 1048576) := by show _ ≤ _; have := Hn.dblI_len o0.sl o0.sl.length; unfold Hn.dblL; omega
    generalize Hn.dblL o0.sl = R at *
    have HE : Hid (∀ (a b : Option Addr) (c d : Nat) (W : World), Hn.Ints W a R → Hn.Ints W b R → _) := fun a b c d W h k => Hn.eqIntS_same a b R c d W HZ.out h k
    have hd : decide (1 + (R.length : Int) < 0) = false := decide_eq_false (by omega)
    have hdk : decide (1 + (o0.ol.length : Int) + 6 * (o0.sl.length : Int) < 0) = false := decide_eq_false (by omega)
    clear hz hz2 hb HM
    have N1 := Pk.new_below w (Hn.ceB x0 o0 25)
    have m2 := Pk.heap_new w (Hn.ceB x0 o0 25)
    have L4 := N1
    have hs5 : w.heap.size ≤ (w.alloc (Hn.ceB x0 o0 25)).heap.size := N1.size
    have hs6 := Pk.lt_of m2
    go_enter Try.func8, Try.ntmps8
    go_wp2_with fail
    refine (HSZ.out _).mono ?_
    generalize (w.alloc (Hn.ceB x0 o0 25)) = v0 at *
    rintro e v1 ⟨rfl, Lv1⟩
    have m7 := Pk.kept Lv1 (Pk.lt_of m2) m2
    clear m2
    have L8 := Pk.join_below L4 Lv1
    clear L4
    have hs9 : v0.heap.size ≤ v1.heap.size := Lv1.size
    have c10 : v1.cell? ⟨w.heap.size, 0, none⟩ = some (.int .i64 o0.ve) := Pk.cell_at m7 0
    have c11 : v1.cell? ⟨w.heap.size, 1, none⟩ = some (.slice x0.a o0.ol.length x0.c) := Pk.cell_at m7 1
    have c12 : v1.cell? ⟨w.heap.size, 2, none⟩ = some (.slice x0.b o0.sl.length x0.d) := Pk.cell_at m7 2
    go_wp2_with fail
    refine (HTO.out _ (I.on L8)).mono ?_
    clear c10 c11 c12
    rintro e v2 ⟨yA, yA1, yA2, rfl, Lv2, IyA, MyA, yAa, yAb, yAc, yAd⟩
    have m13 := Pk.kept Lv2 (Pk.lt_of m7) m7
    clear m7
    have L14 := Pk.join_below L8 Lv2
    clear L8
    have hs15 : v1.heap.size ≤ v2.heap.size := Lv2.size
    have FyA : Hid (Hn.Flat yA) := ⟨⟨_, _, yAc⟩, ⟨_, _, yAd⟩⟩
    clear MyA yAa yAb yAc yAd
    clear FyA
    go_wp2_with fail
    refine (HS.out yA _ IyA).mono ?_
    rintro e v4 ⟨vS, rfl, OS, Lv4⟩
    clear IyA
    have m16 := Pk.kept Lv4 (Pk.lt_of m13) m13
    clear m13
    have L17 := Pk.join_below L14 Lv4
    clear L14
    have hs18 : v2.heap.size ≤ v4.heap.size := Lv4.size
    obtain ⟨aS, cS, gS, rfl, IS, -⟩ := Hn.own_iown OS
    clear OS
    have HFS : Hid (∀ lo hi, v4.heap.size ≤ lo → Hn.FarI lo hi aS R) := fun lo hi h => Hn.FarI.of IS h
    have c19 : v4.cell? ⟨w.heap.size, 0, none⟩ = some (.int .i64 o0.ve) := Pk.cell_at m16 0
    have c20 : v4.cell? ⟨w.heap.size, 1, none⟩ = some (.slice x0.a o0.ol.length x0.c) := Pk.cell_at m16 1
    have c21 : v4.cell? ⟨w.heap.size, 2, none⟩ = some (.slice x0.b o0.sl.length x0.d) := Pk.cell_at m16 2
    go_wp2_with fail
    refine (HTO.out _ (I.on L17)).mono ?_
    clear c19 c20 c21
    rintro e v6 ⟨yX, yX1, yX2, rfl, Lv6, IyX, MyX, yXa, yXb, yXc, yXd⟩
    have m22 := Pk.kept Lv6 (Pk.lt_of m16) m16
    clear m16
    have q23 := IS.on Lv6
    clear IS
    have L24 := Pk.join_below L17 Lv6
    clear L17
    have hs25 : v4.heap.size ≤ v6.heap.size := Lv6.size
    clear yXc yXd
    have N26 := Pk.new_below v6 (Hn.ceB yX o0 30)
    have m27 := Pk.heap_new v6 (Hn.ceB yX o0 30)
    have m29 := Pk.kept N26 (Pk.lt_of m22) m22
    clear m22
    have i30 := IyX.on N26
    clear IyX
    have i31 := MyX.on N26
    clear MyX
    have q32 := q23.on N26
    clear q23
    have L33 := Pk.join_below L24 N26
    clear L24
    have hs34 : v6.heap.size ≤ (v6.alloc (Hn.ceB yX o0 30)).heap.size := N26.size
    have hs35 := Pk.lt_of m27
    go_wp2_with fail
    refine (HI.out yX _ i30).mono ?_
    generalize (v6.alloc (Hn.ceB yX o0 30)) = v8 at *
    rintro e v9 ⟨vG, rfl, OG, Lv9⟩
    have m36 := Pk.kept Lv9 (Pk.lt_of m29) m29
    clear m29
    have m37 := Pk.kept Lv9 (Pk.lt_of m27) m27
    clear m27
    have i38 := i30.on Lv9
    clear i30
    have i39 := i31.on Lv9
    clear i31
    have q40 := q32.on Lv9
    clear q32
    have L41 := Pk.join_below L33 Lv9
    clear L33
    have hs42 : v8.heap.size ≤ v9.heap.size := Lv9.size
    obtain ⟨aG, cG, gG, rfl, IG, MG⟩ := Hn.own_iown OG
    clear OG
    have HFG : Hid (∀ lo hi, hi ≤ v8.heap.size → Hn.FarI lo hi aG R) := fun lo hi h => Hn.FarI.mine MG h
    have HG1 : Hid (R.length = 0 ∨ (aG = some ⟨gG, 0, none⟩ ∧ gG < v9.heap.size)) := MG.pl.imp_right fun h => ⟨h.1, h.2.1⟩
    go_wp2_with fail
    refine (HE.out aG aS _ _ _ IG q40).mono ?_
    rintro e v11 ⟨rfl, Dv11⟩
    have Lv11 := Dv11.below v9.heap.size
    have m43 := Pk.kept Lv11 (Pk.lt_of m36) m36
    clear m36
    have m44 := Pk.kept Lv11 (Pk.lt_of m37) m37
    clear m37
    have i45 := i38.on Lv11
    clear i38
    have i46 := i39.on Lv11
    clear i39
    have q47 := q40.on Lv11
    clear q40
    have q48 := IG.on Lv11
    clear IG
    have q49 := MG.on Lv11
    clear MG
    have L50 := Pk.join_below L41 Lv11
    clear L41
    have hs51 : v9.heap.size ≤ v11.heap.size := Lv11.size
    clear Dv11
    have c52 : v11.cell? ⟨w.heap.size, 0, none⟩ = some (.int .i64 o0.ve) := Pk.cell_at m43 0
    have c53 : v11.cell? ⟨w.heap.size, 1, none⟩ = some (.slice x0.a o0.ol.length x0.c) := Pk.cell_at m43 1
    have c54 : v11.cell? ⟨w.heap.size, 2, none⟩ = some (.slice x0.b o0.sl.length x0.d) := Pk.cell_at m43 2
    have c55 : v11.cell? ⟨v6.heap.size, 0, none⟩ = some (.int .i64 o0.ve) := Pk.cell_at m44 0
    have c56 : v11.cell? ⟨v6.heap.size, 1, none⟩ = some (.slice yX.a o0.ol.length yX.c) := Pk.cell_at m44 1
    have c57 : v11.cell? ⟨v6.heap.size, 2, none⟩ = some (.slice yX.b o0.sl.length yX.d) := Pk.cell_at m44 2
    go_wp2
    go_cut [31] from 11 (fun t wc => t = .bool false ∧ Below v11.heap.size v11 wc)
    case first =>
      go_region_with (first
        | (go_at_call 11; refine (HTO.out _ ?_).mono ?_; (first | exact I.on L50 | exact I.on L50.drew); rintro e x1 ⟨y1, ge, gf, rfl, M0, J1, -⟩; have M1 : Below v11.heap.size v11 x1 := (by first | exact M0 | exact ((Below.refl _ _).drew).trans M0); have p1 := Pk.kept M1 (Pk.lt_of m44) m44; have I11 := i45.on M1; have dd0 : x1.cell? ⟨v6.heap.size, 0, none⟩ = some (.int .i64 o0.ve) := Pk.cell_at p1 0; have dd1 : x1.cell? ⟨v6.heap.size, 1, none⟩ = some (.slice yX.a o0.ol.length yX.c) := Pk.cell_at p1 1; have dd2 : x1.cell? ⟨v6.heap.size, 2, none⟩ = some (.slice yX.b o0.sl.length yX.d) := Pk.cell_at p1 2; clear M0 p1)
        | (go_at_call 13; refine (HEO.out _ _ _ ?_ ?_).mono ?_; (exact I11); (exact J1); rintro e x2 ⟨rfl, M3⟩))
      all_goals
        have M4 := Pk.join_below M1 M3
        go_wp2
        go_meet
        case rel => exact ⟨rfl, M4⟩
    case rest =>
      obtain ⟨rfl, LC⟩ := hcut
      clear c52 c53 c54 c55 c56 c57
      obtain ⟨wq, hwq⟩ : ∃ wq, wq = wc := ⟨_, rfl⟩
      subst hwq
      have m58 := Pk.kept LC (Pk.lt_of m43) m43
      clear m43
      have m59 := Pk.kept LC (Pk.lt_of m44) m44
      clear m44
      have i60 := i45.on LC
      clear i45
      have i61 := i46.on LC
      clear i46
      have q62 := q47.on LC
      clear q47
      have q63 := q48.on LC
      clear q48
      have q64 := q49.on LC
      clear q49
      have L65 := Pk.join_below L50 LC
      clear L50
      have hs66 : v11.heap.size ≤ wq.heap.size := LC.size
      have c67 : wq.cell? ⟨v6.heap.size, 0, none⟩ = some (.int .i64 o0.ve) := Pk.cell_at m59 0
      have c68 : wq.cell? ⟨v6.heap.size, 1, none⟩ = some (.slice yX.a o0.ol.length yX.c) := Pk.cell_at m59 1
      have c69 : wq.cell? ⟨v6.heap.size, 2, none⟩ = some (.slice yX.b o0.sl.length yX.d) := Pk.cell_at m59 2
      go_wp2_with fail
      refine (Hn.markCentre_val yX o0 yX1 yX2 v4.heap.size v6.heap.size _ HZO.out.1 (by have := HZO.out.2; omega) i61 (Or.inr yXa) (Or.inr yXb)).mono ?_
      clear c67 c68 c69
      rintro e v14 ⟨rfl, Bv14, -⟩
      clear i61 i60
      have m70 := (Bv14.block _ (Pk.lt_of m58) (by have := Pk.lt_of m58; omega)).trans m58
      clear m58
      have m71 := (Bv14.block _ (Pk.lt_of m59) (by have := Pk.lt_of m59; omega)).trans m59
      clear m59
      have q72 := Hn.Ints.brd q62 Bv14 (HFS.out _ _ (by omega))
      clear q62
      have q73 := Hn.Ints.brd q63 Bv14 (HFG.out _ _ (by omega))
      clear q63
      have q74 := Hn.IOwn.brd q64 Bv14 (by omega)
      clear q64
      have L75 := Bv14.below L65 (by omega) (by omega)
      clear L65
      have hs76 : wq.heap.size ≤ v14.heap.size := Bv14.size
      go_wp2_with fail
      refine (HE.out aG aS _ _ _ q73 q72).mono ?_
      rintro e v16 ⟨rfl, Dv16⟩
      have Lv16 := Dv16.below v14.heap.size
      have m77 := Pk.kept Lv16 (Pk.lt_of m70) m70
      clear m70
      have m78 := Pk.kept Lv16 (Pk.lt_of m71) m71
      clear m71
      have q79 := q72.on Lv16
      clear q72
      have q80 := q73.on Lv16
      clear q73
      have q81 := q74.on Lv16
      clear q74
      have L82 := Pk.join_below L75 Lv16
      clear L75
      have hs83 : v14.heap.size ≤ v16.heap.size := Lv16.size
      clear Dv16
      go_wp2_with fail
      refine (Hn.markI_val aG R gG _ v8.heap.size v9.heap.size _ HZ.out q81 (HG1.out.imp_right fun h => h.2)).mono ?_
      rintro e v17 ⟨rfl, Bv17, K17⟩
      clear q81 q80
      have m84 := (Bv17.block _ (Pk.lt_of m77) (by have := Pk.lt_of m77; omega)).trans m77
      clear m77
      have m85 := (Bv17.block _ (Pk.lt_of m78) (by have := Pk.lt_of m78; omega)).trans m78
      clear m78
      have q86 := Hn.Ints.brd q79 Bv17 (HFS.out _ _ (by omega))
      clear q79
      have L87 := Bv17.below L82 (by omega) (by omega)
      clear L82
      have hs88 : v16.heap.size ≤ v17.heap.size := Bv17.size
      go_wp2_with fail
      refine (Hn.heldIntS_val aG gG R.length _ 1 _ HZ.out (by omega) (by omega) (HG1.out.imp_right fun h => h.1) K17.md).mono ?_
      rintro e v18 ⟨rfl, Lv18⟩
      obtain rfl := Lv18
      have c89 : v18.cell? ⟨w.heap.size, 0, none⟩ = some (.int .i64 o0.ve) := Pk.cell_at m84 0
      have c90 : v18.cell? ⟨w.heap.size, 1, none⟩ = some (.slice x0.a o0.ol.length x0.c) := Pk.cell_at m84 1
      have c91 : v18.cell? ⟨w.heap.size, 2, none⟩ = some (.slice x0.b o0.sl.length x0.d) := Pk.cell_at m84 2
      go_wp2_with fail
      refine (HTO.out _ (I.on L87)).mono ?_
      clear c89 c90 c91
      rintro e v19 ⟨yB, yB1, yB2, rfl, Lv19, IyB, -⟩
      have m92 := Pk.kept Lv19 (Pk.lt_of m84) m84
      clear m84
      have m93 := Pk.kept Lv19 (Pk.lt_of m85) m85
      clear m85
      have q94 := q86.on Lv19
      clear q86
      have q95 := K17.on Lv19
      clear K17
      have L96 := Pk.join_below L87 Lv19
      clear L87
      have hs97 : v18.heap.size ≤ v19.heap.size := Lv19.size
      go_wp2_with fail
      refine (HI.out yB _ IyB).mono ?_
      rintro e v20 ⟨vH, rfl, OH, Lv20⟩
      clear IyB
      have m98 := Pk.kept Lv20 (Pk.lt_of m92) m92
      clear m92
      have m99 := Pk.kept Lv20 (Pk.lt_of m93) m93
      clear m93
      have q100 := q94.on Lv20
      clear q94
      have q101 := q95.on Lv20
      clear q95
      have L102 := Pk.join_below L96 Lv20
      clear L96
      have hs103 : v19.heap.size ≤ v20.heap.size := Lv20.size
      obtain ⟨aH, cH, gH, rfl, IH, -⟩ := Hn.own_iown OH
      clear OH
      go_wp2_with fail
      refine (HE.out aH aS _ _ _ IH q100).mono ?_
      rintro e v22 ⟨rfl, Dv22⟩
      have Lv22 := Dv22.below v20.heap.size
      have m104 := Pk.kept Lv22 (Pk.lt_of m98) m98
      clear m98
      have m105 := Pk.kept Lv22 (Pk.lt_of m99) m99
      clear m99
      have q106 := q100.on Lv22
      clear q100
      have q107 := q101.on Lv22
      clear q101
      have q108 := IH.on Lv22
      clear IH
      have L109 := Pk.join_below L102 Lv22
      clear L102
      have hs110 : v20.heap.size ≤ v22.heap.size := Lv22.size
      clear Dv22
      go_wp2_with fail
      refine (Hn.heldIntS_val aG gG R.length _ 1 _ HZ.out (by omega) (by omega) (HG1.out.imp_right fun h => h.1) q107.md).mono ?_
      rintro e v23 ⟨rfl, Lv23⟩
      obtain rfl := Lv23
      go_wp2
      go_ret
      exact ⟨rfl, L109⟩
  · have N := Pk.new_below w (Hn.ceB x0 o0 25)
    have HB : Hid (¬ (o0.ol.length : Int) + (o0.sl.length : Int) ≤ 1048576) := hb
    clear hb
    go_enter Try.func8, Try.ntmps8
    go_wp2_with fail
    refine (Hn.szCentre_no x0 o0 1048576 _ (by omega) (by omega) HM.out.1 HM.out.2 (by have := HB.out; omega)).mono ?_
    rintro e w1 ⟨rfl, L1⟩
    go_wp2
    go_ret
    exact ⟨rfl, Pk.join_below N L1⟩

set_option maxRecDepth 100000 in
theorem contract (H : Type) (enc : TypeId × Value → H) (W : World) (base : Nat) (args : Array Value) (ds gs : List (DataW H)) (before : List MemPlace)
    (hval : ∀ (j : Nat) t v, Try.f8.params[j]? = some t → args[j]? = some v → Value.okWide Try.prog W .any base t v)
    (hW : DataW.Whole enc Try.prog Try.f8.params.toList Rows.fnExactDoublesSpec.vars false W args.toList ds gs before) :
    Calls Try.prog 8 args W fun e W' => ∃ v, e = .returned v ∧ Rows.fnExactDoublesSpec.post enc Try.prog Try.f8 false true false false W args v W' := by
  have hW' := hW
  obtain ⟨p, q, hA0, hV, rfl, hfz, hnd⟩ := hW
  have hA : DataW.TrodAll enc Try.prog W 0 (fun _ => true) true Try.f8.params.toList args.toList ds p := hA0
  rw [Try.params8] at hA hval
  obtain ⟨v0, vs0, d0, ds0, p0, q0, hargs, rfl, rfl, h0, r0⟩ := trodAll_cons hA
  obtain ⟨rfl, rfl, rfl⟩ := trodAll_nil r0
  obtain rfl : args = #[v0] := by cases args; simp_all
  obtain ⟨rfl, rfl⟩ := trodVars_none hV
  have k0 := h0
  have lt0 : ∀ x ∈ p0, x.block < W.heap.size := by obtain ⟨m, hm⟩ := k0; exact DataW.trod_lt m _ _ _ hm
  obtain ⟨x0, o0, rfl, w0i, w0l⟩ := Hn.centre_open (hval 0 25 v0 rfl rfl) h0
  clear hA0
  refine (walk x0 o0 W ⟨w0i, w0l⟩  ).mono fun e W' ⟨he, bel⟩ => ?_
  subst he
  exact ⟨_, rfl, _, _, _, [], _, [], hW', trodAll_mk1 (shut_bool Try.underlying4 _), (trodAll_cons_mk (Below.trod Errs.laidOut (by kernel_rfl) (of_decide_eq_true (by kernel_rfl)) k0 bel lt0) trodAll_mk0), rfl, bel.frame _, fun h => by cases h⟩

set_option maxRecDepth 100000 in
theorem lifted (os : Os) (started : os.Started) (H : Type) (enc : TypeId × Value → H) :
    ReturnsInHanded {} Try.checked os 8 .any (Rows.fnExactDoublesSpec.pre6 enc Try.prog Try.f8 Rows.fnExactDoublesRow.domain false) (Rows.fnExactDoublesSpec.post enc Try.prog Try.f8 false true false false) := by
  refine returnsInHanded_of_change (C := Try.checked) Errs.own started (by kernel_rfl) Try.func8
    (ChangeSpec.witness6 (enc := enc) (C := Try.checked) false ⟨#[], #[.agg #[.int .i64 0, .slice none 0 0, .slice none 0 0]], []⟩ 8 (by kernel_rfl) (by kernel_rfl) (by kernel_rfl) (by kernel_rfl)) ?_
  intro W base args ds gs before hval hW _ _
  exact contract H enc W base args ds gs before hval hW

set_option maxRecDepth 100000 in
theorem over : Rows.fnExactDoublesRow.holds Try.pinned (OpenSpec.ofChange Rows.fnExactDoublesSpec) :=
  OpenClaim.holds_of_wide 8 Try.f8 rfl rfl rfl rfl rfl rfl rfl ⟨rfl, rfl, rfl, rfl, rfl⟩ rfl rfl rfl rfl rfl (by kernel_rfl) Try.func8 (by kernel_rfl)
    (of_decide_eq_true (by kernel_rfl)) (by unfold Func.isWrapper; first | (rw [if_pos (by decide +kernel)]; kernel_rfl) | (rw [if_neg (by decide +kernel)]; exact ⟨rfl, rfl⟩))
    (fun os started H enc _ => lifted os started H enc)
end Go.Proofs.Ytjjfleepnjhamaa.fnExactDoubles
namespace Go.Proofs.Ytjjfleepnjhamaa
theorem FnExactDoubles_holds : Rows.FnExactDoublesSaid := fnExactDoubles.over
end Go.Proofs.Ytjjfleepnjhamaa

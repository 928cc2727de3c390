/- For every device, text, train and day the law of Inspect answers true: the program's Inspect and its model return the same device and the same answer, the program's in memory of its own; nothing of what came in is turned, and a further call leaves the first answer as it was. The program's own errors and its table of runs, and the tables of the library that are listed, are as their text lays them (the card ties them; over a pruned copy of the project). -/
import Derived.Test.YtlgolnddhfadeabGreatDoorErrs
import Derived.Test.YtlgolnddhfadeabGreatDoorManyAFnExactInspect
import Derived.ShutString
import Derived.Lib.SmallJoins
import Derived.Test.YtlgolnddhfadeabGreatDoorCards
import Derived.Test.YtlgolnddhfadeabGreatDoorTie
import Derived.Test.YtlgolnddhfadeabGreatDoorManyBFnExactInspect
import Derived.Deep.Cut
import Derived.Test.YtlgolnddhfadeabGreatDoorManyCFnExactInspect
namespace Go.Proofs.YtlgolnddhfadeabGreatDoor.fnExactInspect
open Go.ChangeShapes Go.WideShapes Go.ChangeAt Go.RowKit Go.Joins
open Go.ChangeMaps (open_string shut_string)
set_option linter.unusedVariables false
set_option linter.unusedSimpArgs false

theorem rdok_of {t : Tk.Hd} {nm : ByteArray} {ls : List Tk.Lg} {c base : Nat} {e : Ending} {w : World} (h : Re.ReadIs t nm ls c base e w) : Hn.RdOk t nm ls c base e w := by
  obtain ⟨a, cap, he, O⟩ := h
  obtain ⟨x1, y1, e1, I1⟩ := Gt.own_legs O
  simp only [Value.slice.injEq, true_and] at e1
  obtain ⟨rfl, rfl⟩ := e1
  refine ⟨a, cap, he, I1, fun b o hb hne => ?_⟩
  subst hb
  exact (O.lt b rfl).1

theorem rt_zero {C : Nat} {t : Tk.Hd} (h : C ≠ 0) : (Re.rT C t).id = 0 := by
  unfold Re.rT
  rw [if_neg h]

theorem far_mine {lo hi lo' : Nat} {w : World} {x : Hn.Pl} {o : Hn.Hnd} {g1 g2 : Nat} (h : Hn.Mine lo' w x o g1 g2) (hh : hi ≤ lo') : Hn.Far lo hi x o :=
  Hn.Far.mine (hi := hi) ⟨h.ne, Nat.le_trans hh h.lo1, Nat.le_trans hh h.lo2, h.off, h.seen⟩

theorem far_ints {lo hi g : Nat} {zs : List Int} (h : g < lo ∨ hi ≤ g) : ∀ b o, (some ⟨g, 0, none⟩ : Option Addr) = some ⟨b, o, none⟩ → zs ≠ [] → b < lo ∨ hi ≤ b := by
  intro b o e _
  simp only [Option.some.injEq, Addr.mk.injEq] at e
  omega


set_option maxRecDepth 100000 in
set_option maxHeartbeats 8000000 in
theorem walk (x0 : Hn.Pl) (o0 : Hn.Hnd) (a1 : ByteArray) (w1 : a1.size ≤ maxLen) (a2 : Int) (w2 : (Lit.int .i64 a2).wf = true) (a3 : Int) (w3 : (Lit.int .i64 a3).wf = true) (w : World) (w0 : Hn.In w x0 o0 ∧ Hn.Lim o0) (T : Num.Tens w) (E_errParams : Errs.ErrAt 0 w) (E_errOpen : Errs.ErrAt 1 w) (E_errMark : Errs.ErrAt 2 w) (E_errText : Errs.ErrAt 3 w) (R : Pk.Runs w) (SH : w.ShapedOpen Tryz.prog) :
    Calls Tryz.prog 3 #[Hn.hnV x0 o0, .string a1, .int .i64 a2, .int .i64 a3] w fun e w' => e = .returned (.bool true) ∧ Below w.heap.size w w' := by
  obtain ⟨I, LM⟩ := w0
  have hm1 : o0.ol.length ≤ maxLen := LM.ol
  have hm2 : o0.sl.length ≤ maxLen := LM.sl
  have HM : Hid (o0.ol.length ≤ maxLen ∧ o0.sl.length ≤ maxLen) := ⟨hm1, hm2⟩
  clear LM hm1 hm2
  by_cases hs : a1.size ≤ 1048576
  · have hdl : decide ((1048576 : Int) < (a1.size : Int)) = false := decide_eq_false (by omega)
    by_cases hb : (o0.ol.length : Int) + (o0.sl.length : Int) ≤ 1048576
    · have hz : o0.ol.length ≤ 1048576 := by omega
      have hz2 : o0.sl.length ≤ 1048576 := by omega
      have hd0 : decide (1048576 - (o0.ol.length : Int) - (o0.sl.length : Int) < 0) = false := decide_eq_false (by omega)
      have HTO : Hid (∀ (W : World), Hn.In W x0 o0 → _) := fun W h => Hn.toHand_val x0 o0 W hz hz2 h
      have HEO : Hid (∀ (x y : Hn.Pl) (W : World), Hn.In W x o0 → Hn.In W y o0 → _) := fun x y W h k => Hn.eqHand_same x y o0 W hz hz2 h k
      have HSZ : Hid (∀ (W : World), _) := fun W => Hn.szHand_yes x0 o0 1048576 W (by omega) hb
      have HZO : Hid (o0.ol.length ≤ 1048576 ∧ o0.sl.length ≤ 1048576) := ⟨hz, hz2⟩
      obtain ⟨t0, nm0, ls0, ok, hl60, H⟩ := Gt.get_one (Fr.fP a1)
      have ML0 := Gt.ml_of SH
      have hRL := R.lt
      obtain ⟨RT, RN, RL, C, HRS, HRI, hCz, hL6⟩ : ∃ (RT : Tk.Hd) (RN : ByteArray) (RL : List Tk.Lg) (C : Nat), (∀ W : World, Calls Tryz.prog 21 #[.agg #[.int .i64 o0.p, .int .i64 o0.q, .int .i64 o0.g], .int .i64 o0.op, .int .i64 o0.is, .string a1] W fun e w' => Hn.RdOk RT RN RL C W.heap.size e w' ∧ Below W.heap.size W w') ∧ (∀ W : World, Below w.heap.size w W → Calls Tryz.prog 50 #[.agg #[.int .i64 o0.p, .int .i64 o0.q, .int .i64 o0.g], .int .i64 o0.op, .int .i64 o0.is, .string a1] W fun e w' => Hn.RdOk RT RN RL C W.heap.size e w' ∧ Below W.heap.size W w') ∧ (C ≠ 0 → RT.id = 0) ∧ RL.length ≤ 6 :=
        ⟨Re.rT (Re.rC o0.p o0.q o0.g o0.op o0.is a1 ok) t0, Re.rN (Re.rC o0.p o0.q o0.g o0.op o0.is a1 ok) nm0, Re.rL (Re.rC o0.p o0.q o0.g o0.op o0.is a1 ok) ls0, Re.rC o0.p o0.q o0.g o0.op o0.is a1 ok,
          fun W => (Re.specRead_val o0.p o0.q o0.g o0.op o0.is a1 W hs H).mono fun e w' h => ⟨rdok_of h.1, h.2⟩,
          fun W K => (Re.implRead_val o0.p o0.q o0.g o0.op o0.is a1 W hs H (R.on K hRL) (E_errParams.on K) (E_errOpen.on K) (E_errMark.on K) (E_errText.on K) (ML0.on K) (T.on K)).mono fun e w' h => ⟨rdok_of h.1, h.2⟩,
          fun h => rt_zero h, Re.rL_len hl60⟩
      have hz3 : RL.length ≤ 1048576 := by omega
      have HS : Hid (∀ (x : Hn.Pl) (W : World), Hn.In W x o0 → Hn.Flat x → _) := fun x W h f => Hn.specIns_val x o0 a1 HRS hCz a2 a3 W hz hz2 hz3 h f
      have HI : Hid (∀ (x : Hn.Pl) (W : World), Below w.heap.size w W → Hn.In W x o0 → Hn.Flat x → _) := fun x W k h f => Hn.implIns_val x o0 a1 HRI hCz a2 a3 W k hz hz2 hz3 h f
      have HZ : Hid ((Hn.insO (Hn.insB o0 a2 a3) o0 (Hn.ctlO o0 C RT RL a2 a3)).ol.length ≤ 1048576 ∧ (Hn.insO (Hn.insB o0 a2 a3) o0 (Hn.ctlO o0 C RT RL a2 a3)).sl.length ≤ 1048576) := by
        cases hi : Hn.insB o0 a2 a3
        · exact ⟨hz, hz2⟩
        · refine ⟨hz, ?_⟩
          show (o0.sl ++ [Hn.ctlO o0 C RT RL a2 a3]).length ≤ 1048576
          have : o0.sl.length < 300 := by
            unfold Hn.insB at hi
            simp at hi
            exact hi.2
          simp
          omega
      generalize Hn.insC (Hn.insB o0 a2 a3) (Hn.saidC o0 C RT RL a2 a3) = K at *
      generalize Hn.insO (Hn.insB o0 a2 a3) o0 (Hn.ctlO o0 C RT RL a2 a3) = R at *
      have HE : Hid (∀ (x y : Hn.Pl) (W : World), Hn.In W x R → Hn.In W y R → _) := fun x y W h k => Hn.eqHand_same x y R W HZ.out.1 HZ.out.2 h k
      have hd : decide (1 + (R.ol.length : Int) + 6 * (R.sl.length : Int) < 0) = false := decide_eq_false (by omega)
      have hdk : decide (1 + (o0.ol.length : Int) + 6 * (o0.sl.length : Int) < 0) = false := decide_eq_false (by omega)
      have hnb : ((K : Int) != (K : Int)) = false := by simp
      clear hz hz2 hb HM hs HRS HRI hCz hL6 hz3 H ML0
      have N1 := Pk.new_below w (Hn.hnB x0 o0 27)
      have m2 := Pk.heap_new w (Hn.hnB x0 o0 27)
      have L4 := N1
      have hs5 : w.heap.size ≤ (w.alloc (Hn.hnB x0 o0 27)).heap.size := N1.size
      have hs6 := Pk.lt_of m2
      go_enter Tryz.func3, Tryz.ntmps3
      go_wp2_with fail
      refine (HSZ.out _).mono ?_
      generalize (w.alloc (Hn.hnB x0 o0 27)) = v0 at *
      rintro e v1 ⟨rfl, Lv1⟩
      have m7 := Pk.kept Lv1 (Pk.lt_of m2) m2
      clear m2
      have L8 := Pk.join_below L4 Lv1
      clear L4
      have hs9 : v0.heap.size ≤ v1.heap.size := Lv1.size
      have c10 : v1.cell? ⟨w.heap.size, 0, none⟩ = some (.int .i64 o0.dv) := Pk.cell_at m7 0
      have c11 : v1.cell? ⟨w.heap.size, 1, none⟩ = some (.int .i64 o0.p) := Pk.cell_at m7 1
      have c12 : v1.cell? ⟨w.heap.size, 2, none⟩ = some (.int .i64 o0.q) := Pk.cell_at m7 2
      have c13 : v1.cell? ⟨w.heap.size, 3, none⟩ = some (.int .i64 o0.g) := Pk.cell_at m7 3
      have c14 : v1.cell? ⟨w.heap.size, 4, none⟩ = some (.int .i64 o0.op) := Pk.cell_at m7 4
      have c15 : v1.cell? ⟨w.heap.size, 5, none⟩ = some (.int .i64 o0.is) := Pk.cell_at m7 5
      have c16 : v1.cell? ⟨w.heap.size, 6, none⟩ = some (.int .i64 o0.ve) := Pk.cell_at m7 6
      have c17 : v1.cell? ⟨w.heap.size, 7, none⟩ = some (.slice x0.a o0.ol.length x0.c) := Pk.cell_at m7 7
      have c18 : v1.cell? ⟨w.heap.size, 8, none⟩ = some (.slice x0.b o0.sl.length x0.d) := Pk.cell_at m7 8
      go_wp2_with fail
      refine (HTO.out _ (I.on L8)).mono ?_
      clear c10 c11 c12 c13 c14 c15 c16 c17 c18
      rintro e v2 ⟨yA, yA1, yA2, rfl, Lv2, IyA, MyA, yAa, yAb, yAc, yAd⟩
      have m19 := Pk.kept Lv2 (Pk.lt_of m7) m7
      clear m7
      have L20 := Pk.join_below L8 Lv2
      clear L8
      have hs21 : v1.heap.size ≤ v2.heap.size := Lv2.size
      have FyA : Hid (Hn.Flat yA) := ⟨⟨_, _, yAc⟩, ⟨_, _, yAd⟩⟩
      clear MyA yAa yAb yAc yAd
      go_wp2_with fail
      refine (HS.out yA _ IyA FyA.out).mono ?_
      rintro e v4 ⟨yS, rfl, CS, Lv4⟩
      clear IyA
      have m22 := Pk.kept Lv4 (Pk.lt_of m19) m19
      clear m19
      have L23 := Pk.join_below L20 Lv4
      clear L20
      have hs24 : v2.heap.size ≤ v4.heap.size := Lv4.size
      have IS := CS.in
      clear CS
      have HFS : Hid (∀ lo hi, v4.heap.size ≤ lo → Hn.Far lo hi yS R) := fun lo hi h => Hn.Far.of IS h
      have N25 := Pk.new_below v4 (Hn.hnB yS R 32)
      have m26 := Pk.heap_new v4 (Hn.hnB yS R 32)
      have m28 := Pk.kept N25 (Pk.lt_of m22) m22
      clear m22
      have i29 := IS.on N25
      clear IS
      have L30 := Pk.join_below L23 N25
      clear L23
      have hs31 : v4.heap.size ≤ (v4.alloc (Hn.hnB yS R 32)).heap.size := N25.size
      have hs32 := Pk.lt_of m26
      have c33 : (v4.alloc (Hn.hnB yS R 32)).cell? ⟨w.heap.size, 0, none⟩ = some (.int .i64 o0.dv) := Pk.cell_at m28 0
      have c34 : (v4.alloc (Hn.hnB yS R 32)).cell? ⟨w.heap.size, 1, none⟩ = some (.int .i64 o0.p) := Pk.cell_at m28 1
      have c35 : (v4.alloc (Hn.hnB yS R 32)).cell? ⟨w.heap.size, 2, none⟩ = some (.int .i64 o0.q) := Pk.cell_at m28 2
      have c36 : (v4.alloc (Hn.hnB yS R 32)).cell? ⟨w.heap.size, 3, none⟩ = some (.int .i64 o0.g) := Pk.cell_at m28 3
      have c37 : (v4.alloc (Hn.hnB yS R 32)).cell? ⟨w.heap.size, 4, none⟩ = some (.int .i64 o0.op) := Pk.cell_at m28 4
      have c38 : (v4.alloc (Hn.hnB yS R 32)).cell? ⟨w.heap.size, 5, none⟩ = some (.int .i64 o0.is) := Pk.cell_at m28 5
      have c39 : (v4.alloc (Hn.hnB yS R 32)).cell? ⟨w.heap.size, 6, none⟩ = some (.int .i64 o0.ve) := Pk.cell_at m28 6
      have c40 : (v4.alloc (Hn.hnB yS R 32)).cell? ⟨w.heap.size, 7, none⟩ = some (.slice x0.a o0.ol.length x0.c) := Pk.cell_at m28 7
      have c41 : (v4.alloc (Hn.hnB yS R 32)).cell? ⟨w.heap.size, 8, none⟩ = some (.slice x0.b o0.sl.length x0.d) := Pk.cell_at m28 8
      go_wp2_with fail
      refine (HTO.out _ (I.on L30)).mono ?_
      clear c33 c34 c35 c36 c37 c38 c39 c40 c41
      generalize (v4.alloc (Hn.hnB yS R 32)) = v5 at *
      rintro e v6 ⟨yX, yX1, yX2, rfl, Lv6, IyX, MyX, yXa, yXb, yXc, yXd⟩
      have m42 := Pk.kept Lv6 (Pk.lt_of m28) m28
      clear m28
      have m43 := Pk.kept Lv6 (Pk.lt_of m26) m26
      clear m26
      have i44 := i29.on Lv6
      clear i29
      have L45 := Pk.join_below L30 Lv6
      clear L30
      have hs46 : v5.heap.size ≤ v6.heap.size := Lv6.size
      have FyX : Hid (Hn.Flat yX) := ⟨⟨_, _, yXc⟩, ⟨_, _, yXd⟩⟩
      clear yXc yXd
      have N47 := Pk.new_below v6 (Hn.hnB yX o0 32)
      have m48 := Pk.heap_new v6 (Hn.hnB yX o0 32)
      have m50 := Pk.kept N47 (Pk.lt_of m42) m42
      clear m42
      have m51 := Pk.kept N47 (Pk.lt_of m43) m43
      clear m43
      have i52 := i44.on N47
      clear i44
      have i53 := IyX.on N47
      clear IyX
      have i54 := MyX.on N47
      clear MyX
      have L55 := Pk.join_below L45 N47
      clear L45
      have hs56 : v6.heap.size ≤ (v6.alloc (Hn.hnB yX o0 32)).heap.size := N47.size
      have hs57 := Pk.lt_of m48
      go_wp2_with fail
      refine (HI.out yX _ L55 i53 FyX.out).mono ?_
      generalize (v6.alloc (Hn.hnB yX o0 32)) = v8 at *
      rintro e v9 ⟨yG, rfl, CG, Lv9⟩
      have m58 := Pk.kept Lv9 (Pk.lt_of m50) m50
      clear m50
      have m59 := Pk.kept Lv9 (Pk.lt_of m51) m51
      clear m51
      have m60 := Pk.kept Lv9 (Pk.lt_of m48) m48
      clear m48
      have i61 := i52.on Lv9
      clear i52
      have i62 := i53.on Lv9
      clear i53
      have i63 := i54.on Lv9
      clear i54
      have L64 := Pk.join_below L55 Lv9
      clear L55
      have hs65 : v8.heap.size ≤ v9.heap.size := Lv9.size
      have IG := CG.in
      obtain ⟨gG1, gG2, MG⟩ := CG.mine
      clear CG
      have HG1 : Hid (R.ol.length = 0 ∨ (yG.a = some ⟨gG1, 0, none⟩ ∧ gG1 < v9.heap.size)) := MG.off.imp_right fun h => ⟨h.1, h.2.1⟩
      have HG2 : Hid (R.sl.length = 0 ∨ (yG.b = some ⟨gG2, 0, none⟩ ∧ gG2 < v9.heap.size)) := MG.seen.imp_right fun h => ⟨h.1, h.2.1⟩
      have HFG : Hid (∀ lo hi, hi ≤ v8.heap.size → Hn.Far lo hi yG R) := fun lo hi h => far_mine MG h
      have N66 := Pk.new_below v9 (Hn.hnB yG R 32)
      have m67 := Pk.heap_new v9 (Hn.hnB yG R 32)
      have m69 := Pk.kept N66 (Pk.lt_of m58) m58
      clear m58
      have m70 := Pk.kept N66 (Pk.lt_of m59) m59
      clear m59
      have m71 := Pk.kept N66 (Pk.lt_of m60) m60
      clear m60
      have i72 := i61.on N66
      clear i61
      have i73 := i62.on N66
      clear i62
      have i74 := IG.on N66
      clear IG
      have i75 := i63.on N66
      clear i63
      have i76 := MG.on N66
      clear MG
      have L77 := Pk.join_below L64 N66
      clear L64
      have hs78 : v9.heap.size ≤ (v9.alloc (Hn.hnB yG R 32)).heap.size := N66.size
      have hs79 := Pk.lt_of m67
      have c80 : (v9.alloc (Hn.hnB yG R 32)).cell? ⟨v4.heap.size, 0, none⟩ = some (.int .i64 R.dv) := Pk.cell_at m70 0
      have c81 : (v9.alloc (Hn.hnB yG R 32)).cell? ⟨v4.heap.size, 1, none⟩ = some (.int .i64 R.p) := Pk.cell_at m70 1
      have c82 : (v9.alloc (Hn.hnB yG R 32)).cell? ⟨v4.heap.size, 2, none⟩ = some (.int .i64 R.q) := Pk.cell_at m70 2
      have c83 : (v9.alloc (Hn.hnB yG R 32)).cell? ⟨v4.heap.size, 3, none⟩ = some (.int .i64 R.g) := Pk.cell_at m70 3
      have c84 : (v9.alloc (Hn.hnB yG R 32)).cell? ⟨v4.heap.size, 4, none⟩ = some (.int .i64 R.op) := Pk.cell_at m70 4
      have c85 : (v9.alloc (Hn.hnB yG R 32)).cell? ⟨v4.heap.size, 5, none⟩ = some (.int .i64 R.is) := Pk.cell_at m70 5
      have c86 : (v9.alloc (Hn.hnB yG R 32)).cell? ⟨v4.heap.size, 6, none⟩ = some (.int .i64 R.ve) := Pk.cell_at m70 6
      have c87 : (v9.alloc (Hn.hnB yG R 32)).cell? ⟨v4.heap.size, 7, none⟩ = some (.slice yS.a R.ol.length yS.c) := Pk.cell_at m70 7
      have c88 : (v9.alloc (Hn.hnB yG R 32)).cell? ⟨v4.heap.size, 8, none⟩ = some (.slice yS.b R.sl.length yS.d) := Pk.cell_at m70 8
      go_wp2_with fail
      refine (HE.out yG yS _ i74 i72).mono ?_
      clear c80 c81 c82 c83 c84 c85 c86 c87 c88
      generalize (v9.alloc (Hn.hnB yG R 32)) = v10 at *
      rintro e v11 ⟨rfl, Lv11⟩
      have m89 := Pk.kept Lv11 (Pk.lt_of m69) m69
      clear m69
      have m90 := Pk.kept Lv11 (Pk.lt_of m70) m70
      clear m70
      have m91 := Pk.kept Lv11 (Pk.lt_of m71) m71
      clear m71
      have m92 := Pk.kept Lv11 (Pk.lt_of m67) m67
      clear m67
      have i93 := i72.on Lv11
      clear i72
      have i94 := i73.on Lv11
      clear i73
      have i95 := i74.on Lv11
      clear i74
      have i96 := i75.on Lv11
      clear i75
      have i97 := i76.on Lv11
      clear i76
      have L98 := Pk.join_below L77 Lv11
      clear L77
      have hs99 : v10.heap.size ≤ v11.heap.size := Lv11.size
      have c100 : v11.cell? ⟨w.heap.size, 0, none⟩ = some (.int .i64 o0.dv) := Pk.cell_at m89 0
      have c101 : v11.cell? ⟨w.heap.size, 1, none⟩ = some (.int .i64 o0.p) := Pk.cell_at m89 1
      have c102 : v11.cell? ⟨w.heap.size, 2, none⟩ = some (.int .i64 o0.q) := Pk.cell_at m89 2
      have c103 : v11.cell? ⟨w.heap.size, 3, none⟩ = some (.int .i64 o0.g) := Pk.cell_at m89 3
      have c104 : v11.cell? ⟨w.heap.size, 4, none⟩ = some (.int .i64 o0.op) := Pk.cell_at m89 4
      have c105 : v11.cell? ⟨w.heap.size, 5, none⟩ = some (.int .i64 o0.is) := Pk.cell_at m89 5
      have c106 : v11.cell? ⟨w.heap.size, 6, none⟩ = some (.int .i64 o0.ve) := Pk.cell_at m89 6
      have c107 : v11.cell? ⟨w.heap.size, 7, none⟩ = some (.slice x0.a o0.ol.length x0.c) := Pk.cell_at m89 7
      have c108 : v11.cell? ⟨w.heap.size, 8, none⟩ = some (.slice x0.b o0.sl.length x0.d) := Pk.cell_at m89 8
      have c109 : v11.cell? ⟨v6.heap.size, 0, none⟩ = some (.int .i64 o0.dv) := Pk.cell_at m91 0
      have c110 : v11.cell? ⟨v6.heap.size, 1, none⟩ = some (.int .i64 o0.p) := Pk.cell_at m91 1
      have c111 : v11.cell? ⟨v6.heap.size, 2, none⟩ = some (.int .i64 o0.q) := Pk.cell_at m91 2
      have c112 : v11.cell? ⟨v6.heap.size, 3, none⟩ = some (.int .i64 o0.g) := Pk.cell_at m91 3
      have c113 : v11.cell? ⟨v6.heap.size, 4, none⟩ = some (.int .i64 o0.op) := Pk.cell_at m91 4
      have c114 : v11.cell? ⟨v6.heap.size, 5, none⟩ = some (.int .i64 o0.is) := Pk.cell_at m91 5
      have c115 : v11.cell? ⟨v6.heap.size, 6, none⟩ = some (.int .i64 o0.ve) := Pk.cell_at m91 6
      have c116 : v11.cell? ⟨v6.heap.size, 7, none⟩ = some (.slice yX.a o0.ol.length yX.c) := Pk.cell_at m91 7
      have c117 : v11.cell? ⟨v6.heap.size, 8, none⟩ = some (.slice yX.b o0.sl.length yX.d) := Pk.cell_at m91 8
      go_wp2
      go_cut [60] from 20 (fun t wc => t = .bool false ∧ Below v11.heap.size v11 wc)
      case first =>
        go_region_with (first
          | (go_at_call 7; refine (HTO.out _ ?_).mono ?_; (first | exact I.on L98 | exact I.on L98.drew); rintro e x1 ⟨y1, ge, gf, rfl, M0, J1, -⟩; have M1 : Below v11.heap.size v11 x1 := (by first | exact M0 | exact ((Below.refl _ _).drew).trans M0); have p1 := Pk.kept M1 (Pk.lt_of m91) m91; have I11 := i94.on M1; have dd0 : x1.cell? ⟨v6.heap.size, 0, none⟩ = some (.int .i64 o0.dv) := Pk.cell_at p1 0; have dd1 : x1.cell? ⟨v6.heap.size, 1, none⟩ = some (.int .i64 o0.p) := Pk.cell_at p1 1; have dd2 : x1.cell? ⟨v6.heap.size, 2, none⟩ = some (.int .i64 o0.q) := Pk.cell_at p1 2; have dd3 : x1.cell? ⟨v6.heap.size, 3, none⟩ = some (.int .i64 o0.g) := Pk.cell_at p1 3; have dd4 : x1.cell? ⟨v6.heap.size, 4, none⟩ = some (.int .i64 o0.op) := Pk.cell_at p1 4; have dd5 : x1.cell? ⟨v6.heap.size, 5, none⟩ = some (.int .i64 o0.is) := Pk.cell_at p1 5; have dd6 : x1.cell? ⟨v6.heap.size, 6, none⟩ = some (.int .i64 o0.ve) := Pk.cell_at p1 6; have dd7 : x1.cell? ⟨v6.heap.size, 7, none⟩ = some (.slice yX.a o0.ol.length yX.c) := Pk.cell_at p1 7; have dd8 : x1.cell? ⟨v6.heap.size, 8, none⟩ = some (.slice yX.b o0.sl.length yX.d) := Pk.cell_at p1 8; clear M0 p1)
          | (go_at_call 9; refine (HEO.out _ _ _ ?_ ?_).mono ?_; (exact I11); (exact J1); rintro e x2 ⟨rfl, M3⟩))
        all_goals
          have M4 := Pk.join_below M1 M3
          go_wp2
          go_meet
          case rel => exact ⟨rfl, M4⟩
      case rest =>
        obtain ⟨rfl, LC⟩ := hcut
        clear c100 c101 c102 c103 c104 c105 c106 c107 c108 c109 c110 c111 c112 c113 c114 c115 c116 c117
        obtain ⟨wq, hwq⟩ : ∃ wq, wq = wc := ⟨_, rfl⟩
        subst hwq
        have m118 := Pk.kept LC (Pk.lt_of m89) m89
        clear m89
        have m119 := Pk.kept LC (Pk.lt_of m90) m90
        clear m90
        have m120 := Pk.kept LC (Pk.lt_of m91) m91
        clear m91
        have m121 := Pk.kept LC (Pk.lt_of m92) m92
        clear m92
        have i122 := i93.on LC
        clear i93
        have i123 := i94.on LC
        clear i94
        have i124 := i95.on LC
        clear i95
        have i125 := i96.on LC
        clear i96
        have i126 := i97.on LC
        clear i97
        have L127 := Pk.join_below L98 LC
        clear L98
        have hs128 : v11.heap.size ≤ wq.heap.size := LC.size
        have c129 : wq.cell? ⟨v6.heap.size, 0, none⟩ = some (.int .i64 o0.dv) := Pk.cell_at m120 0
        have c130 : wq.cell? ⟨v6.heap.size, 1, none⟩ = some (.int .i64 o0.p) := Pk.cell_at m120 1
        have c131 : wq.cell? ⟨v6.heap.size, 2, none⟩ = some (.int .i64 o0.q) := Pk.cell_at m120 2
        have c132 : wq.cell? ⟨v6.heap.size, 3, none⟩ = some (.int .i64 o0.g) := Pk.cell_at m120 3
        have c133 : wq.cell? ⟨v6.heap.size, 4, none⟩ = some (.int .i64 o0.op) := Pk.cell_at m120 4
        have c134 : wq.cell? ⟨v6.heap.size, 5, none⟩ = some (.int .i64 o0.is) := Pk.cell_at m120 5
        have c135 : wq.cell? ⟨v6.heap.size, 6, none⟩ = some (.int .i64 o0.ve) := Pk.cell_at m120 6
        have c136 : wq.cell? ⟨v6.heap.size, 7, none⟩ = some (.slice yX.a o0.ol.length yX.c) := Pk.cell_at m120 7
        have c137 : wq.cell? ⟨v6.heap.size, 8, none⟩ = some (.slice yX.b o0.sl.length yX.d) := Pk.cell_at m120 8
        go_wp2_with fail
        refine (Hn.markHand_val yX o0 yX1 yX2 v5.heap.size v6.heap.size _ HZO.out.1 (by have := HZO.out.2; omega) i125 (Or.inr yXa) (Or.inr yXb)).mono ?_
        clear c129 c130 c131 c132 c133 c134 c135 c136 c137
        rintro e v14 ⟨rfl, Bv14, -⟩
        clear i125 i123
        have m138 := (Bv14.block _ (Pk.lt_of m118) (by have := Pk.lt_of m118; omega)).trans m118
        clear m118
        have m139 := (Bv14.block _ (Pk.lt_of m119) (by have := Pk.lt_of m119; omega)).trans m119
        clear m119
        have m140 := (Bv14.block _ (Pk.lt_of m120) (by have := Pk.lt_of m120; omega)).trans m120
        clear m120
        have m141 := (Bv14.block _ (Pk.lt_of m121) (by have := Pk.lt_of m121; omega)).trans m121
        clear m121
        have i142 := i122.brd Bv14 (HFS.out _ _ (by omega))
        clear i122
        have i143 := i124.brd Bv14 (HFG.out _ _ (by omega))
        clear i124
        have i144 := i126.brd Bv14 (by omega)
        clear i126
        have L145 := Bv14.below L127 (by omega) (by omega)
        clear L127
        have hs146 : wq.heap.size ≤ v14.heap.size := Bv14.size
        have c147 : v14.cell? ⟨v9.heap.size, 0, none⟩ = some (.int .i64 R.dv) := Pk.cell_at m141 0
        have c148 : v14.cell? ⟨v9.heap.size, 1, none⟩ = some (.int .i64 R.p) := Pk.cell_at m141 1
        have c149 : v14.cell? ⟨v9.heap.size, 2, none⟩ = some (.int .i64 R.q) := Pk.cell_at m141 2
        have c150 : v14.cell? ⟨v9.heap.size, 3, none⟩ = some (.int .i64 R.g) := Pk.cell_at m141 3
        have c151 : v14.cell? ⟨v9.heap.size, 4, none⟩ = some (.int .i64 R.op) := Pk.cell_at m141 4
        have c152 : v14.cell? ⟨v9.heap.size, 5, none⟩ = some (.int .i64 R.is) := Pk.cell_at m141 5
        have c153 : v14.cell? ⟨v9.heap.size, 6, none⟩ = some (.int .i64 R.ve) := Pk.cell_at m141 6
        have c154 : v14.cell? ⟨v9.heap.size, 7, none⟩ = some (.slice yG.a R.ol.length yG.c) := Pk.cell_at m141 7
        have c155 : v14.cell? ⟨v9.heap.size, 8, none⟩ = some (.slice yG.b R.sl.length yG.d) := Pk.cell_at m141 8
        have c156 : v14.cell? ⟨v4.heap.size, 0, none⟩ = some (.int .i64 R.dv) := Pk.cell_at m139 0
        have c157 : v14.cell? ⟨v4.heap.size, 1, none⟩ = some (.int .i64 R.p) := Pk.cell_at m139 1
        have c158 : v14.cell? ⟨v4.heap.size, 2, none⟩ = some (.int .i64 R.q) := Pk.cell_at m139 2
        have c159 : v14.cell? ⟨v4.heap.size, 3, none⟩ = some (.int .i64 R.g) := Pk.cell_at m139 3
        have c160 : v14.cell? ⟨v4.heap.size, 4, none⟩ = some (.int .i64 R.op) := Pk.cell_at m139 4
        have c161 : v14.cell? ⟨v4.heap.size, 5, none⟩ = some (.int .i64 R.is) := Pk.cell_at m139 5
        have c162 : v14.cell? ⟨v4.heap.size, 6, none⟩ = some (.int .i64 R.ve) := Pk.cell_at m139 6
        have c163 : v14.cell? ⟨v4.heap.size, 7, none⟩ = some (.slice yS.a R.ol.length yS.c) := Pk.cell_at m139 7
        have c164 : v14.cell? ⟨v4.heap.size, 8, none⟩ = some (.slice yS.b R.sl.length yS.d) := Pk.cell_at m139 8
        go_wp2_with fail
        refine (HE.out yG yS _ i143 i142).mono ?_
        clear c147 c148 c149 c150 c151 c152 c153 c154 c155 c156 c157 c158 c159 c160 c161 c162 c163 c164
        rintro e v16 ⟨rfl, Lv16⟩
        have m165 := Pk.kept Lv16 (Pk.lt_of m138) m138
        clear m138
        have m166 := Pk.kept Lv16 (Pk.lt_of m139) m139
        clear m139
        have m167 := Pk.kept Lv16 (Pk.lt_of m140) m140
        clear m140
        have m168 := Pk.kept Lv16 (Pk.lt_of m141) m141
        clear m141
        have i169 := i142.on Lv16
        clear i142
        have i170 := i143.on Lv16
        clear i143
        have i171 := i144.on Lv16
        clear i144
        have L172 := Pk.join_below L145 Lv16
        clear L145
        have hs173 : v14.heap.size ≤ v16.heap.size := Lv16.size
        have c174 : v16.cell? ⟨v9.heap.size, 0, none⟩ = some (.int .i64 R.dv) := Pk.cell_at m168 0
        have c175 : v16.cell? ⟨v9.heap.size, 1, none⟩ = some (.int .i64 R.p) := Pk.cell_at m168 1
        have c176 : v16.cell? ⟨v9.heap.size, 2, none⟩ = some (.int .i64 R.q) := Pk.cell_at m168 2
        have c177 : v16.cell? ⟨v9.heap.size, 3, none⟩ = some (.int .i64 R.g) := Pk.cell_at m168 3
        have c178 : v16.cell? ⟨v9.heap.size, 4, none⟩ = some (.int .i64 R.op) := Pk.cell_at m168 4
        have c179 : v16.cell? ⟨v9.heap.size, 5, none⟩ = some (.int .i64 R.is) := Pk.cell_at m168 5
        have c180 : v16.cell? ⟨v9.heap.size, 6, none⟩ = some (.int .i64 R.ve) := Pk.cell_at m168 6
        have c181 : v16.cell? ⟨v9.heap.size, 7, none⟩ = some (.slice yG.a R.ol.length yG.c) := Pk.cell_at m168 7
        have c182 : v16.cell? ⟨v9.heap.size, 8, none⟩ = some (.slice yG.b R.sl.length yG.d) := Pk.cell_at m168 8
        go_wp2_with fail
        refine (Hn.markHand_val yG R gG1 gG2 v8.heap.size v9.heap.size _ HZ.out.1 (by have := HZ.out.2; omega) i171 (HG1.out.imp_right fun h => h.2) (HG2.out.imp_right fun h => h.2)).mono ?_
        clear c174 c175 c176 c177 c178 c179 c180 c181 c182
        rintro e v17 ⟨rfl, Bv17, Kv17⟩
        clear i171 i170
        have m183 := (Bv17.block _ (Pk.lt_of m165) (by have := Pk.lt_of m165; omega)).trans m165
        clear m165
        have m184 := (Bv17.block _ (Pk.lt_of m166) (by have := Pk.lt_of m166; omega)).trans m166
        clear m166
        have m185 := (Bv17.block _ (Pk.lt_of m167) (by have := Pk.lt_of m167; omega)).trans m167
        clear m167
        have m186 := (Bv17.block _ (Pk.lt_of m168) (by have := Pk.lt_of m168; omega)).trans m168
        clear m168
        have i187 := i169.brd Bv17 (HFS.out _ _ (by omega))
        clear i169
        have L188 := Bv17.below L172 (by omega) (by omega)
        clear L172
        have hs189 : v16.heap.size ≤ v17.heap.size := Bv17.size
        have c190 : v17.cell? ⟨v9.heap.size, 0, none⟩ = some (.int .i64 R.dv) := Pk.cell_at m186 0
        have c191 : v17.cell? ⟨v9.heap.size, 1, none⟩ = some (.int .i64 R.p) := Pk.cell_at m186 1
        have c192 : v17.cell? ⟨v9.heap.size, 2, none⟩ = some (.int .i64 R.q) := Pk.cell_at m186 2
        have c193 : v17.cell? ⟨v9.heap.size, 3, none⟩ = some (.int .i64 R.g) := Pk.cell_at m186 3
        have c194 : v17.cell? ⟨v9.heap.size, 4, none⟩ = some (.int .i64 R.op) := Pk.cell_at m186 4
        have c195 : v17.cell? ⟨v9.heap.size, 5, none⟩ = some (.int .i64 R.is) := Pk.cell_at m186 5
        have c196 : v17.cell? ⟨v9.heap.size, 6, none⟩ = some (.int .i64 R.ve) := Pk.cell_at m186 6
        have c197 : v17.cell? ⟨v9.heap.size, 7, none⟩ = some (.slice yG.a R.ol.length yG.c) := Pk.cell_at m186 7
        have c198 : v17.cell? ⟨v9.heap.size, 8, none⟩ = some (.slice yG.b R.sl.length yG.d) := Pk.cell_at m186 8
        go_wp2_with fail
        refine (Hn.heldHand_val yG R gG1 gG2 _ HZ.out.1 (by have := HZ.out.2; omega) (HG1.out.imp_right fun h => h.1) (HG2.out.imp_right fun h => h.1) Kv17).mono ?_
        clear c190 c191 c192 c193 c194 c195 c196 c197 c198
        rintro e v17h ⟨rfl, Lv17h⟩
        have m199 := Pk.kept Lv17h (Pk.lt_of m183) m183
        clear m183
        have m200 := Pk.kept Lv17h (Pk.lt_of m184) m184
        clear m184
        have m201 := Pk.kept Lv17h (Pk.lt_of m185) m185
        clear m185
        have m202 := Pk.kept Lv17h (Pk.lt_of m186) m186
        clear m186
        have i203 := i187.on Lv17h
        clear i187
        have i204 := Kv17.on Lv17h
        clear Kv17
        have L205 := Pk.join_below L188 Lv17h
        clear L188
        have hs206 : v17.heap.size ≤ v17h.heap.size := Lv17h.size
        have c207 : v17h.cell? ⟨w.heap.size, 0, none⟩ = some (.int .i64 o0.dv) := Pk.cell_at m199 0
        have c208 : v17h.cell? ⟨w.heap.size, 1, none⟩ = some (.int .i64 o0.p) := Pk.cell_at m199 1
        have c209 : v17h.cell? ⟨w.heap.size, 2, none⟩ = some (.int .i64 o0.q) := Pk.cell_at m199 2
        have c210 : v17h.cell? ⟨w.heap.size, 3, none⟩ = some (.int .i64 o0.g) := Pk.cell_at m199 3
        have c211 : v17h.cell? ⟨w.heap.size, 4, none⟩ = some (.int .i64 o0.op) := Pk.cell_at m199 4
        have c212 : v17h.cell? ⟨w.heap.size, 5, none⟩ = some (.int .i64 o0.is) := Pk.cell_at m199 5
        have c213 : v17h.cell? ⟨w.heap.size, 6, none⟩ = some (.int .i64 o0.ve) := Pk.cell_at m199 6
        have c214 : v17h.cell? ⟨w.heap.size, 7, none⟩ = some (.slice x0.a o0.ol.length x0.c) := Pk.cell_at m199 7
        have c215 : v17h.cell? ⟨w.heap.size, 8, none⟩ = some (.slice x0.b o0.sl.length x0.d) := Pk.cell_at m199 8
        go_wp2_with fail
        refine (HTO.out _ (I.on L205)).mono ?_
        clear c207 c208 c209 c210 c211 c212 c213 c214 c215
        rintro e v18 ⟨yB, yB1, yB2, rfl, Lv18, IyB, -, -, -, yBc, yBd⟩
        have m216 := Pk.kept Lv18 (Pk.lt_of m199) m199
        clear m199
        have m217 := Pk.kept Lv18 (Pk.lt_of m200) m200
        clear m200
        have m218 := Pk.kept Lv18 (Pk.lt_of m201) m201
        clear m201
        have m219 := Pk.kept Lv18 (Pk.lt_of m202) m202
        clear m202
        have i220 := i203.on Lv18
        clear i203
        have i221 := i204.on Lv18
        clear i204
        have L222 := Pk.join_below L205 Lv18
        clear L205
        have hs223 : v17h.heap.size ≤ v18.heap.size := Lv18.size
        have FyB : Hid (Hn.Flat yB) := ⟨⟨_, _, yBc⟩, ⟨_, _, yBd⟩⟩
        clear yBc yBd
        go_wp2_with fail
        refine (HI.out yB _ L222 IyB FyB.out).mono ?_
        rintro e v20 ⟨yH, rfl, CH, Lv20⟩
        clear IyB
        have m224 := Pk.kept Lv20 (Pk.lt_of m216) m216
        clear m216
        have m225 := Pk.kept Lv20 (Pk.lt_of m217) m217
        clear m217
        have m226 := Pk.kept Lv20 (Pk.lt_of m218) m218
        clear m218
        have m227 := Pk.kept Lv20 (Pk.lt_of m219) m219
        clear m219
        have i228 := i220.on Lv20
        clear i220
        have i229 := i221.on Lv20
        clear i221
        have L230 := Pk.join_below L222 Lv20
        clear L222
        have hs231 : v18.heap.size ≤ v20.heap.size := Lv20.size
        have IH := CH.in
        clear CH
        have N232 := Pk.new_below v20 (Hn.hnB yH R 32)
        have m233 := Pk.heap_new v20 (Hn.hnB yH R 32)
        have m235 := Pk.kept N232 (Pk.lt_of m224) m224
        clear m224
        have m236 := Pk.kept N232 (Pk.lt_of m225) m225
        clear m225
        have m237 := Pk.kept N232 (Pk.lt_of m226) m226
        clear m226
        have m238 := Pk.kept N232 (Pk.lt_of m227) m227
        clear m227
        have i239 := i228.on N232
        clear i228
        have i240 := IH.on N232
        clear IH
        have i241 := i229.on N232
        clear i229
        have L242 := Pk.join_below L230 N232
        clear L230
        have hs243 : v20.heap.size ≤ (v20.alloc (Hn.hnB yH R 32)).heap.size := N232.size
        have hs244 := Pk.lt_of m233
        have c245 : (v20.alloc (Hn.hnB yH R 32)).cell? ⟨v4.heap.size, 0, none⟩ = some (.int .i64 R.dv) := Pk.cell_at m236 0
        have c246 : (v20.alloc (Hn.hnB yH R 32)).cell? ⟨v4.heap.size, 1, none⟩ = some (.int .i64 R.p) := Pk.cell_at m236 1
        have c247 : (v20.alloc (Hn.hnB yH R 32)).cell? ⟨v4.heap.size, 2, none⟩ = some (.int .i64 R.q) := Pk.cell_at m236 2
        have c248 : (v20.alloc (Hn.hnB yH R 32)).cell? ⟨v4.heap.size, 3, none⟩ = some (.int .i64 R.g) := Pk.cell_at m236 3
        have c249 : (v20.alloc (Hn.hnB yH R 32)).cell? ⟨v4.heap.size, 4, none⟩ = some (.int .i64 R.op) := Pk.cell_at m236 4
        have c250 : (v20.alloc (Hn.hnB yH R 32)).cell? ⟨v4.heap.size, 5, none⟩ = some (.int .i64 R.is) := Pk.cell_at m236 5
        have c251 : (v20.alloc (Hn.hnB yH R 32)).cell? ⟨v4.heap.size, 6, none⟩ = some (.int .i64 R.ve) := Pk.cell_at m236 6
        have c252 : (v20.alloc (Hn.hnB yH R 32)).cell? ⟨v4.heap.size, 7, none⟩ = some (.slice yS.a R.ol.length yS.c) := Pk.cell_at m236 7
        have c253 : (v20.alloc (Hn.hnB yH R 32)).cell? ⟨v4.heap.size, 8, none⟩ = some (.slice yS.b R.sl.length yS.d) := Pk.cell_at m236 8
        go_wp2_with fail
        refine (HE.out yH yS _ i240 i239).mono ?_
        clear c245 c246 c247 c248 c249 c250 c251 c252 c253
        generalize (v20.alloc (Hn.hnB yH R 32)) = v21 at *
        rintro e v22 ⟨rfl, Lv22⟩
        have m254 := Pk.kept Lv22 (Pk.lt_of m235) m235
        clear m235
        have m255 := Pk.kept Lv22 (Pk.lt_of m236) m236
        clear m236
        have m256 := Pk.kept Lv22 (Pk.lt_of m237) m237
        clear m237
        have m257 := Pk.kept Lv22 (Pk.lt_of m238) m238
        clear m238
        have m258 := Pk.kept Lv22 (Pk.lt_of m233) m233
        clear m233
        have i259 := i239.on Lv22
        clear i239
        have i260 := i240.on Lv22
        clear i240
        have i261 := i241.on Lv22
        clear i241
        have L262 := Pk.join_below L242 Lv22
        clear L242
        have hs263 : v21.heap.size ≤ v22.heap.size := Lv22.size
        have c264 : v22.cell? ⟨v9.heap.size, 0, none⟩ = some (.int .i64 R.dv) := Pk.cell_at m257 0
        have c265 : v22.cell? ⟨v9.heap.size, 1, none⟩ = some (.int .i64 R.p) := Pk.cell_at m257 1
        have c266 : v22.cell? ⟨v9.heap.size, 2, none⟩ = some (.int .i64 R.q) := Pk.cell_at m257 2
        have c267 : v22.cell? ⟨v9.heap.size, 3, none⟩ = some (.int .i64 R.g) := Pk.cell_at m257 3
        have c268 : v22.cell? ⟨v9.heap.size, 4, none⟩ = some (.int .i64 R.op) := Pk.cell_at m257 4
        have c269 : v22.cell? ⟨v9.heap.size, 5, none⟩ = some (.int .i64 R.is) := Pk.cell_at m257 5
        have c270 : v22.cell? ⟨v9.heap.size, 6, none⟩ = some (.int .i64 R.ve) := Pk.cell_at m257 6
        have c271 : v22.cell? ⟨v9.heap.size, 7, none⟩ = some (.slice yG.a R.ol.length yG.c) := Pk.cell_at m257 7
        have c272 : v22.cell? ⟨v9.heap.size, 8, none⟩ = some (.slice yG.b R.sl.length yG.d) := Pk.cell_at m257 8
        go_wp2_with fail
        refine (Hn.heldHand_val yG R gG1 gG2 _ HZ.out.1 (by have := HZ.out.2; omega) (HG1.out.imp_right fun h => h.1) (HG2.out.imp_right fun h => h.1) i261).mono ?_
        clear c264 c265 c266 c267 c268 c269 c270 c271 c272
        rintro e v23 ⟨rfl, Lv23⟩
        have m273 := Pk.kept Lv23 (Pk.lt_of m254) m254
        clear m254
        have m274 := Pk.kept Lv23 (Pk.lt_of m255) m255
        clear m255
        have m275 := Pk.kept Lv23 (Pk.lt_of m256) m256
        clear m256
        have m276 := Pk.kept Lv23 (Pk.lt_of m257) m257
        clear m257
        have m277 := Pk.kept Lv23 (Pk.lt_of m258) m258
        clear m258
        have i278 := i259.on Lv23
        clear i259
        have i279 := i260.on Lv23
        clear i260
        have i280 := i261.on Lv23
        clear i261
        have L281 := Pk.join_below L262 Lv23
        clear L262
        have hs282 : v22.heap.size ≤ v23.heap.size := Lv23.size
        go_wp2
        go_ret
        exact ⟨rfl, L281⟩
    · have N := Pk.new_below w (Hn.hnB x0 o0 27)
      have HB : Hid (¬ (o0.ol.length : Int) + (o0.sl.length : Int) ≤ 1048576) := hb
      clear hb
      go_enter Tryz.func3, Tryz.ntmps3
      go_wp2_with fail
      refine (Hn.szHand_no x0 o0 1048576 _ (by omega) (by omega) HM.out.1 HM.out.2 (by have := HB.out; omega)).mono ?_
      rintro e w1 ⟨rfl, L1⟩
      go_wp2
      go_ret
      exact ⟨rfl, Pk.join_below N L1⟩
  · have hdl : decide ((1048576 : Int) < (a1.size : Int)) = true := decide_eq_true (by omega)
    have N := Pk.new_below w (Hn.hnB x0 o0 27)
    clear hs
    go_enter Tryz.func3, Tryz.ntmps3
    go_wp2
    go_ret
    exact ⟨rfl, N⟩

theorem errs {W : World} (hL : laidMetH Tryz.prog Rows.fnExactInspectRow.laid W) : Num.Tens W ∧ Errs.ErrAt 0 W ∧ Errs.ErrAt 1 W ∧ Errs.ErrAt 2 W ∧ Errs.ErrAt 3 W ∧ Pk.Runs W := by
  have h0 : laidMet Tryz.prog [("math/bits.deBruijn32tab", Rows.laid_math_bits_deBruijn32tab), ("math/bits.deBruijn64tab", Rows.laid_math_bits_deBruijn64tab), ("internal/strconv.uint64pow10", Rows.laid_internal_strconv_uint64pow10), ("unicode/utf8.acceptRanges", Rows.laid_unicode_utf8_acceptRanges), ("loop.example/g00211/impl.errParams", Rows.laid_loop_example_g00211_impl_errParams), ("loop.example/g00211/impl.errOpen", Rows.laid_loop_example_g00211_impl_errOpen), ("loop.example/g00211/impl.errMark", Rows.laid_loop_example_g00211_impl_errMark), ("loop.example/g00211/impl.errText", Rows.laid_loop_example_g00211_impl_errText), ("loop.example/g00211/impl.fixedRuns", Rows.laid_loop_example_g00211_impl_fixedRuns), ("unicode/utf8.first", Rows.laid_unicode_utf8_first)] W := hL
  exact ⟨Tabs.tens_of (laidMet.tail (laidMet.tail h0)), Errs.head (laidMet.tail (laidMet.tail (laidMet.tail (laidMet.tail h0)))) ⟨_, rfl⟩ (by kernel_rfl) (by kernel_rfl), Errs.head (laidMet.tail (laidMet.tail (laidMet.tail (laidMet.tail (laidMet.tail h0))))) ⟨_, rfl⟩ (by kernel_rfl) (by kernel_rfl), Errs.head (laidMet.tail (laidMet.tail (laidMet.tail (laidMet.tail (laidMet.tail (laidMet.tail h0)))))) ⟨_, rfl⟩ (by kernel_rfl) (by kernel_rfl), Errs.head (laidMet.tail (laidMet.tail (laidMet.tail (laidMet.tail (laidMet.tail (laidMet.tail (laidMet.tail h0))))))) ⟨_, rfl⟩ (by kernel_rfl) (by kernel_rfl), Pk.runs_of (laidMet.tail (laidMet.tail (laidMet.tail (laidMet.tail (laidMet.tail (laidMet.tail (laidMet.tail (laidMet.tail h0))))))))⟩

set_option maxRecDepth 100000 in
theorem contract (H : Type) (enc : TypeId × Value → H) (W : World) (base : Nat) (args : Array Value) (ds gs : List (DataW H)) (before : List MemPlace)
    (hval : ∀ (j : Nat) t v, Tryz.f3.params[j]? = some t → args[j]? = some v → Value.okWide Tryz.prog W .any base t v)
    (hW : DataW.Whole enc Tryz.prog Tryz.f3.params.toList Rows.fnExactInspectSpec.vars false W args.toList ds gs before) (hL : laidMetH Tryz.prog Rows.fnExactInspectRow.laid W) (hSh : W.ShapedOpen Tryz.prog) :
    Calls Tryz.prog 3 args W fun e W' => ∃ v, e = .returned v ∧ Rows.fnExactInspectSpec.post enc Tryz.prog Tryz.f3 false true false false W args v W' := by
  have hW' := hW
  obtain ⟨p, q, hA0, hV, rfl, hfz, hnd⟩ := hW
  have hA : DataW.TrodAll enc Tryz.prog W 0 (fun _ => true) true Tryz.f3.params.toList args.toList ds p := hA0
  rw [Tryz.params3] at hA hval
  obtain ⟨v0, vs0, d0, ds0, p0, q0, hargs, rfl, rfl, h0, r0⟩ := trodAll_cons hA
  obtain ⟨v1, vs1, d1, ds1, p1, q1, rfl, rfl, rfl, h1, r1⟩ := trodAll_cons r0
  obtain ⟨v2, vs2, d2, ds2, p2, q2, rfl, rfl, rfl, h2, r2⟩ := trodAll_cons r1
  obtain ⟨v3, vs3, d3, ds3, p3, q3, rfl, rfl, rfl, h3, r3⟩ := trodAll_cons r2
  obtain ⟨rfl, rfl, rfl⟩ := trodAll_nil r3
  obtain rfl : args = #[v0, v1, v2, v3] := by cases args; simp_all
  have hlen := Errs.vars_len hV
  obtain ⟨g0, gs0, rfl, hl0⟩ := Errs.len_cons hlen
  obtain ⟨g1, gs1, rfl, hl1⟩ := Errs.len_cons hl0
  obtain ⟨g2, gs2, rfl, hl2⟩ := Errs.len_cons hl1
  obtain ⟨g3, gs3, rfl, hl3⟩ := Errs.len_cons hl2
  obtain ⟨g4, gs4, rfl, hl4⟩ := Errs.len_cons hl3
  obtain rfl := List.length_eq_zero_iff.1 hl4
  have k0 := h0
  have lt0 : ∀ x ∈ p0, x.block < W.heap.size := by obtain ⟨m, hm⟩ := k0; exact DataW.trod_lt m _ _ _ hm
  obtain ⟨x0, o0, rfl, w0i, w0l⟩ := Hn.hand_open (hval 0 27 v0 rfl rfl) h0
  have k1 := h1
  have lt1 : ∀ x ∈ p1, x.block < W.heap.size := by obtain ⟨m, hm⟩ := k1; exact DataW.trod_lt m _ _ _ hm
  obtain ⟨a1, rfl, rfl, rfl, w1⟩ := open_string Tryz.underlying9 (hval 1 9 v1 rfl rfl) h1
  have k2 := h2
  have lt2 : ∀ x ∈ p2, x.block < W.heap.size := by obtain ⟨m, hm⟩ := k2; exact DataW.trod_lt m _ _ _ hm
  obtain ⟨a2, rfl, rfl, rfl, w2⟩ := open_int Tryz.underlying3 (hval 2 3 v2 rfl rfl) h2
  have k3 := h3
  have lt3 : ∀ x ∈ p3, x.block < W.heap.size := by obtain ⟨m, hm⟩ := k3; exact DataW.trod_lt m _ _ _ hm
  obtain ⟨a3, rfl, rfl, rfl, w3⟩ := open_int Tryz.underlying3 (hval 3 3 v3 rfl rfl) h3
  clear hA0
  refine (walk x0 o0 a1 w1 a2 w2 a3 w3 W ⟨w0i, w0l⟩ (errs hL).1 (errs hL).2.1 (errs hL).2.2.1 (errs hL).2.2.2.1 (errs hL).2.2.2.2.1 (errs hL).2.2.2.2.2 hSh).mono fun e W' ⟨he, bel⟩ => ?_
  subst he
  exact ⟨_, rfl, _, _, _, [], _, _, hW', trodAll_mk1 (shut_bool Tryz.underlying4 _), (trodAll_cons_mk (Below.trod Errs.laidOut (by kernel_rfl) (of_decide_eq_true (by kernel_rfl)) k0 bel lt0) (trodAll_cons_mk (Below.trod Errs.laidOut (by kernel_rfl) (of_decide_eq_true (by kernel_rfl)) k1 bel lt1) (trodAll_cons_mk (Below.trod Errs.laidOut (by kernel_rfl) (of_decide_eq_true (by kernel_rfl)) k2 bel lt2) (trodAll_cons_mk (Below.trod Errs.laidOut (by kernel_rfl) (of_decide_eq_true (by kernel_rfl)) k3 bel lt3) trodAll_mk0)))), (Below.trodVars Errs.laidOut bel (by kernel_rfl) hV), bel.frame _, fun h => by cases h⟩

theorem laid_met (os : Os) : laidMet Tryz.prog Rows.fnExactInspectRow.laid ((Tabs.tabW 6 Rows.laid_unicode_utf8_first (Pk.runsW (Errs.errW 3 Rows.laid_loop_example_g00211_impl_errText (Errs.errW 2 Rows.laid_loop_example_g00211_impl_errMark (Errs.errW 1 Rows.laid_loop_example_g00211_impl_errOpen (Errs.errW 0 Rows.laid_loop_example_g00211_impl_errParams (Tabs.tabW 7 Rows.laid_unicode_utf8_acceptRanges (Tabs.tabW 8 Rows.laid_internal_strconv_uint64pow10 (Tabs.tabW 10 Rows.laid_math_bits_deBruijn64tab (Tabs.tabW 9 Rows.laid_math_bits_deBruijn32tab (World.holding Tryz.prog os ⟨#[], #[], []⟩))))))))))).forCall (fun _ _ => 0) ⟨#[], #[.agg #[.int .i64 0, .int .i64 0, .int .i64 0, .int .i64 0, .int .i64 0, .int .i64 0, .int .i64 0, .slice none 0 0, .slice none 0 0], .string ByteArray.empty, .int .i64 0, .int .i64 0], []⟩).memory :=
  laidMet_of_run' 8 (by kernel_rfl) (by kernel_rfl)

theorem reads (os : Os) {H : Type} (enc : TypeId × Value → H) : ∃ x, DataW.whole enc Tryz.prog ((Tabs.tabW 6 Rows.laid_unicode_utf8_first (Pk.runsW (Errs.errW 3 Rows.laid_loop_example_g00211_impl_errText (Errs.errW 2 Rows.laid_loop_example_g00211_impl_errMark (Errs.errW 1 Rows.laid_loop_example_g00211_impl_errOpen (Errs.errW 0 Rows.laid_loop_example_g00211_impl_errParams (Tabs.tabW 7 Rows.laid_unicode_utf8_acceptRanges (Tabs.tabW 8 Rows.laid_internal_strconv_uint64pow10 (Tabs.tabW 10 Rows.laid_math_bits_deBruijn64tab (Tabs.tabW 9 Rows.laid_math_bits_deBruijn32tab (World.holding Tryz.prog os ⟨#[], #[], []⟩))))))))))).forCall (fun _ _ => 0) ⟨#[], #[.agg #[.int .i64 0, .int .i64 0, .int .i64 0, .int .i64 0, .int .i64 0, .int .i64 0, .int .i64 0, .slice none 0 0, .slice none 0 0], .string ByteArray.empty, .int .i64 0, .int .i64 0], []⟩).memory Tryz.f3.params.toList Rows.fnExactInspectSpec.vars false (#[.agg #[.int .i64 0, .int .i64 0, .int .i64 0, .int .i64 0, .int .i64 0, .int .i64 0, .int .i64 0, .slice none 0 0, .slice none 0 0], .string ByteArray.empty, .int .i64 0, .int .i64 0] : Array Value).toList 8 = some x :=
  Option.isSome_iff_exists.1 (by kernel_rfl)

set_option maxRecDepth 100000 in
theorem lifted (os : Os) (started : os.Started) (H : Type) (enc : TypeId × Value → H) (F : Stop.Interp) :
    ReturnsInHanded {} Tryz.checked os 3 .any ((OpenSpec.ofChange Rows.fnExactInspectSpec).preRow enc Tryz.prog Tryz.f3 Rows.fnExactInspectRow.domain false Rows.fnExactInspectRow.laid) (((OpenSpec.ofChange Rows.fnExactInspectSpec).at F).post enc Tryz.prog Tryz.f3 false true false false) := by
  obtain ⟨x, hx⟩ := reads os enc
  refine returnsInHanded_of_row (C := Tryz.checked) (s := OpenSpec.ofChange Rows.fnExactInspectSpec) Errs.own started (by kernel_rfl) Tryz.func3
    (witness_row_at (enc := enc) (C := Tryz.checked) false (Tabs.tabW 6 Rows.laid_unicode_utf8_first (Pk.runsW (Errs.errW 3 Rows.laid_loop_example_g00211_impl_errText (Errs.errW 2 Rows.laid_loop_example_g00211_impl_errMark (Errs.errW 1 Rows.laid_loop_example_g00211_impl_errOpen (Errs.errW 0 Rows.laid_loop_example_g00211_impl_errParams (Tabs.tabW 7 Rows.laid_unicode_utf8_acceptRanges (Tabs.tabW 8 Rows.laid_internal_strconv_uint64pow10 (Tabs.tabW 10 Rows.laid_math_bits_deBruijn64tab (Tabs.tabW 9 Rows.laid_math_bits_deBruijn32tab (World.holding Tryz.prog os ⟨#[], #[], []⟩))))))))))) #[.agg #[.int .i64 0, .int .i64 0, .int .i64 0, .int .i64 0, .int .i64 0, .int .i64 0, .int .i64 0, .slice none 0 0, .slice none 0 0], .string ByteArray.empty, .int .i64 0, .int .i64 0] rfl (by kernel_rfl) (by kernel_rfl) (by kernel_rfl)
      (OpenSpec.preRow_of_cond 8 hx rfl (fun k hk => by cases hk) (by kernel_rfl) (laid_met os))) ?_
  intro W base args ds gs before hval hW _ _ _ hL hSh _
  exact contract H enc W base args ds gs before hval hW hL hSh

set_option maxRecDepth 100000 in
theorem said : Rows.FnExactInspectSaid :=
  OpenClaim.holds_of_cond 3 Tryz.f3 rfl rfl rfl rfl rfl rfl rfl ⟨rfl, rfl, rfl, rfl, rfl⟩ rfl rfl rfl rfl rfl (by kernel_rfl) Tryz.func3 (by kernel_rfl)
    (of_decide_eq_true (by kernel_rfl)) (by unfold Func.isWrapper; first | (rw [if_pos (by decide +kernel)]; kernel_rfl) | (rw [if_neg (by decide +kernel)]; exact ⟨rfl, rfl⟩))
    (fun os started H enc _ F => by rw [OpenClaim.pre_eq_preRow]; exact lifted os started H enc F)

theorem plain (f : FuncId) (fn : Func) (hf : Tryz.pinned.checked.prog.funcNamed "loop.example/g00211/laws.FnExactInspect" = some f) (hfn : Tryz.pinned.checked.prog.funcs[f]? = some fn) :
    true = Tryz.pinned.checked.prog.looks [] ∧ ∀ (j : Nat) t, fn.params[j]? = some t → Tryz.pinned.checked.prog.wantsStandIn t = false := by
  obtain rfl : f = 3 := Option.some.inj ((show Tryz.prog.funcNamed "loop.example/g00211/laws.FnExactInspect" = some 3 by kernel_rfl).symm.trans hf) |>.symm
  obtain rfl : fn = Tryz.f3 := (Option.some.inj (Tryz.func3.symm.trans hfn)).symm
  refine ⟨by kernel_rfl, fun j t ht => ?_⟩
  rw [Tryz.params3] at ht
  have hm : t = 27 ∨ t = 9 ∨ t = 3 ∨ t = 3 := by simpa using Array.mem_of_getElem? ht
  rcases hm with rfl | rfl | rfl | rfl
  · exact (show Tryz.prog.wantsStandIn 27 = false by kernel_rfl)
  · exact (show Tryz.prog.wantsStandIn 9 = false by kernel_rfl)
  · exact (show Tryz.prog.wantsStandIn 3 = false by kernel_rfl)
  · exact (show Tryz.prog.wantsStandIn 3 = false by kernel_rfl)

theorem card : Rows.FnExactInspectCardSaid :=
  Claim7.holds_tied_plain_at .later [] _ _ _ _ said (fun _ h => by cases h) (by kernel_rfl) (fun _ h => by cases h) fnExactInspect_row_tie rfl ⟨rfl, rfl⟩ (by kernel_rfl) rfl plain (by kernel_rfl)
end Go.Proofs.YtlgolnddhfadeabGreatDoor.fnExactInspect
namespace Go.Proofs.YtlgolnddhfadeabGreatDoor
theorem FnExactInspect_holds : Rows.FnExactInspectCardSaid := fnExactInspect.card
end Go.Proofs.YtlgolnddhfadeabGreatDoor

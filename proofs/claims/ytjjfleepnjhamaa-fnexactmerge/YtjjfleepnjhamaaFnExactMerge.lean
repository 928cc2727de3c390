/- For every two centres the law of Merge answers true: the program's Merge and its model return the same centre, the program's in memory of its own; nothing of what came in is turned, and a further call leaves the first answer as it was. No condition. -/
import Derived.Test.YtjjfleepnjhamaaErrs
import Derived.ShutString
import Derived.Lib.SmallJoins
import Derived.Test.YtjjfleepnjhamaaCeMer
import Derived.Test.YtjjfleepnjhamaaCeMarkZ
import Derived.Test.YtjjfleepnjhamaaCeTo2
import Derived.Test.YtjjfleepnjhamaaCeCt
import Derived.Deep.Cut
import Derived.Test.YtjjfleepnjhamaaCeTo
import Derived.Test.YtjjfleepnjhamaaCeIn
namespace Go.Proofs.Ytjjfleepnjhamaa.fnExactMerge
open Go.ChangeShapes Go.WideShapes Go.ChangeAt Go.RowKit Go.Joins
open Go.ChangeMaps (open_string shut_string)
set_option linter.unusedVariables false
set_option linter.unusedSimpArgs false

theorem far_mine {lo hi lo' : Nat} {w : World} {x : Hn.Pl} {o : Hn.Ctr} {g1 g2 : Nat} (h : Hn.Mine lo' w x o g1 g2) (hh : hi ≤ lo') : Hn.Far lo hi x o :=
  Hn.Far.mine (hi := hi) ⟨h.ne, Nat.le_trans hh h.lo1, Nat.le_trans hh h.lo2, h.off, h.seen⟩

theorem far_ints {lo hi g : Nat} {zs : List Int} (h : g < lo ∨ hi ≤ g) : ∀ b o, (some ⟨g, 0, none⟩ : Option Addr) = some ⟨b, o, none⟩ → zs ≠ [] → b < lo ∨ hi ≤ b := by
  intro b o e _
  simp only [Option.some.injEq, Addr.mk.injEq] at e
  omega

theorem put3 {n : World} {A lo : Nat} {y : Hn.Pl} {R : Hn.Ctr} (C : Hn.Copied lo n y R) (z : n.heap[A]? = some (.cells #[.int .i64 0, .slice none 0 0, .slice none 0 0] 30)) : (((n.setCell ⟨A, 0, none⟩ (.int .i64 R.ve)).setCell ⟨A, 1, none⟩ (.slice y.a R.ol.length y.c)).setCell ⟨A, 2, none⟩ (.slice y.b R.sl.length y.d)).heap[A]? = some (Hn.ceB y R 30) ∧ Hn.In (((n.setCell ⟨A, 0, none⟩ (.int .i64 R.ve)).setCell ⟨A, 1, none⟩ (.slice y.a R.ol.length y.c)).setCell ⟨A, 2, none⟩ (.slice y.b R.sl.length y.d)) y R := by
  have z1 := Hn.h_set (i := 0) z (.int .i64 R.ve)
  have z2 := Hn.h_set (i := 1) z1 (.slice y.a R.ol.length y.c)
  have z3 := Hn.h_set (i := 2) z2 (.slice y.b R.sl.length y.d)
  refine ⟨z3, ?_⟩
  have C1 : Hn.Copied lo (n.setCell ⟨A, 0, none⟩ (.int .i64 R.ve)) y R := ⟨Hn.own_typed C.off z (by decide), Hn.own_typed C.seen z (by decide)⟩
  have C2 : Hn.Copied lo ((n.setCell ⟨A, 0, none⟩ (.int .i64 R.ve)).setCell ⟨A, 1, none⟩ (.slice y.a R.ol.length y.c)) y R := ⟨Hn.own_typed C1.off z1 (by decide), Hn.own_typed C1.seen z1 (by decide)⟩
  have C3 : Hn.Copied lo (((n.setCell ⟨A, 0, none⟩ (.int .i64 R.ve)).setCell ⟨A, 1, none⟩ (.slice y.a R.ol.length y.c)).setCell ⟨A, 2, none⟩ (.slice y.b R.sl.length y.d)) y R := ⟨Hn.own_typed C2.off z2 (by decide), Hn.own_typed C2.seen z2 (by decide)⟩
  exact C3.in


set_option maxRecDepth 100000 in
set_option maxHeartbeats 8000000 in
theorem walk (x0 : Hn.Pl) (o0 : Hn.Ctr) (x1 : Hn.Pl) (o1 : Hn.Ctr) (w : World) (w0 : Hn.In w x0 o0 ∧ Hn.Lim o0) (w1 : Hn.In w x1 o1 ∧ Hn.Lim o1)   :
    Calls Try.prog 7 #[Hn.ceV x0 o0, Hn.ceV x1 o1] w fun e w' => e = .returned (.bool true) ∧ Below w.heap.size w w' := by
  obtain ⟨I, LM⟩ := w0
  have hm1 : o0.ol.length ≤ maxLen := LM.ol
  have hm2 : o0.sl.length ≤ maxLen := LM.sl
  have HM : Hid (o0.ol.length ≤ maxLen ∧ o0.sl.length ≤ maxLen) := ⟨hm1, hm2⟩
  obtain ⟨J, LN⟩ := w1
  have HN : Hid (o1.ol.length ≤ maxLen ∧ o1.sl.length ≤ maxLen) := ⟨LN.ol, LN.sl⟩
  have HWF : Hid (Hn.Wfs o0.sl ∧ Hn.Wfs o1.sl) := ⟨LM.wf, LN.wf⟩
  clear LM LN hm1 hm2
  by_cases hb : (o0.ol.length : Int) + (o0.sl.length : Int) ≤ 1048576
  · by_cases hb2 : (o1.ol.length : Int) + (o1.sl.length : Int) ≤ 1048576 - (o0.ol.length : Int) - (o0.sl.length : Int)
    · have hz : o0.ol.length ≤ 1048576 := by omega
      have hz2 : o0.sl.length ≤ 1048576 := by omega
      have hd0 : decide (1048576 - (o0.ol.length : Int) - (o0.sl.length : Int) < 0) = false := decide_eq_false (by omega)
      have HTO : Hid (∀ (W : World), Hn.In W x0 o0 → _) := fun W h => Hn.toCentre_cap x0 o0 W hz hz2 h
      have HEO : Hid (∀ (x y : Hn.Pl) (W : World), Hn.In W x o0 → Hn.In W y o0 → _) := fun x y W h k => Hn.eqCentre_same x y o0 W hz hz2 h k
      have HSZ : Hid (∀ (W : World), _) := fun W => Hn.szCentre_yes x0 o0 1048576 W (by omega) hb
      have HZO : Hid (o0.ol.length ≤ 1048576 ∧ o0.sl.length ≤ 1048576) := ⟨hz, hz2⟩
      have hy : o1.ol.length ≤ 1048576 := by omega
      have hy2 : o1.sl.length ≤ 1048576 := by omega
      have HSZ2 : Hid (∀ W : World, _) := fun W => Hn.szCentre_yes x1 o1 (1048576 - (o0.ol.length : Int) - (o0.sl.length : Int)) W (by omega) hb2
      have hd1 : decide (1048576 - (o0.ol.length : Int) - (o0.sl.length : Int) - (o1.ol.length : Int) - (o1.sl.length : Int) < 0) = false := decide_eq_false (by omega)
      have HTP : Hid (∀ (W : World), Hn.In W x1 o1 → _) := fun W h => Hn.toCentre_cap x1 o1 W hy hy2 h
      have HEP : Hid (∀ (x y : Hn.Pl) (W : World), Hn.In W x o1 → Hn.In W y o1 → _) := fun x y W h k => Hn.eqCentre_same x y o1 W hy hy2 h k
      have HS : Hid (∀ (x y : Hn.Pl) (W : World), Hn.In W x o0 → Hn.Flat x → Hn.In W y o1 → Hn.Flat y → _) := fun x y W h f k g => Hn.specMer_val x o0 y o1 W hz hz2 hy hy2 HWF.out.1 HWF.out.2 h f k g
      have HI : Hid (∀ (x y : Hn.Pl) (W : World), Hn.In W x o0 → Hn.Flat x → Hn.In W y o1 → Hn.Flat y → _) := fun x y W h f k g => Hn.implMer_val x o0 y o1 W hz hz2 hy hy2 HWF.out.1 HWF.out.2 h f k g
      have HZ : Hid ((Hn.merO (Hn.cenB o1) o0 o1).ol.length ≤ 1048576 ∧ (Hn.merO (Hn.cenB o1) o0 o1).sl.length ≤ 1048576) := by
        cases hc1 : Hn.cenB o1
        · exact ⟨hz, hz2⟩
        · show (Hn.delO (Hn.cenB o0) o0 o1.sl).ol.length ≤ 1048576 ∧ (Hn.delO (Hn.cenB o0) o0 o1.sl).sl.length ≤ 1048576
          cases hc : Hn.cenB o0
          · exact ⟨hz, hz2⟩
          · refine ⟨hz, ?_⟩
            show (Hn.delF o0.sl o1.sl o1.sl.length).length ≤ 1048576
            have := Hn.delF_len o1.sl (Hn.cen_ctls hc).1 o1.sl.length
            omega
      generalize Hn.merO (Hn.cenB o1) o0 o1 = R at *
      have HE : Hid (∀ (x y : Hn.Pl) (W : World), Hn.In W x R → Hn.In W y R → _) := fun x y W h k => Hn.eqCentre_same x y R W HZ.out.1 HZ.out.2 h k
      have hd : decide (1 + (R.ol.length : Int) + 6 * (R.sl.length : Int) < 0) = false := decide_eq_false (by omega)
      have hdk : decide (1 + (o0.ol.length : Int) + 6 * (o0.sl.length : Int) + (o1.ol.length : Int) + 6 * (o1.sl.length : Int) < 0) = false := decide_eq_false (by omega)
      have HKB : Hid (0 ≤ 1 + (o0.ol.length : Int) + 6 * (o0.sl.length : Int) ∧ 1 + (o0.ol.length : Int) + 6 * (o0.sl.length : Int) ≤ 1000000000) := ⟨by omega, by omega⟩
      have HZP : Hid (o1.ol.length ≤ 1048576 ∧ o1.sl.length ≤ 1048577) := ⟨hy, by omega⟩
      clear hz hz2 hy hy2 hb hb2 HM HN HWF
      have N1 := Pk.new_below w (Hn.ceB x0 o0 25)
      have m2 := Pk.heap_new w (Hn.ceB x0 o0 25)
      have L4 := N1
      have hs5 : w.heap.size ≤ (w.alloc (Hn.ceB x0 o0 25)).heap.size := N1.size
      have hs6 := Pk.lt_of m2
      have N7 := Pk.new_below (w.alloc (Hn.ceB x0 o0 25)) (Hn.ceB x1 o1 25)
      have m8 := Pk.heap_new (w.alloc (Hn.ceB x0 o0 25)) (Hn.ceB x1 o1 25)
      have m10 := Pk.kept N7 (Pk.lt_of m2) m2
      clear m2
      have L11 := Pk.join_below L4 N7
      clear L4
      have hs12 : (w.alloc (Hn.ceB x0 o0 25)).heap.size ≤ ((w.alloc (Hn.ceB x0 o0 25)).alloc (Hn.ceB x1 o1 25)).heap.size := N7.size
      have hs13 := Pk.lt_of m8
      go_enter Try.func7, Try.ntmps7
      go_wp2_with fail
      refine (HSZ.out _).mono ?_
      generalize ((w.alloc (Hn.ceB x0 o0 25)).alloc (Hn.ceB x1 o1 25)) = v0 at *
      rw [show (w.alloc (Hn.ceB x0 o0 25)).heap.size = w.heap.size + 1 from Array.size_push ..] at m8
      rintro e v0b ⟨rfl, Lv0b⟩
      have m14 := Pk.kept Lv0b (Pk.lt_of m10) m10
      clear m10
      have m15 := Pk.kept Lv0b (Pk.lt_of m8) m8
      clear m8
      have L16 := Pk.join_below L11 Lv0b
      clear L11
      have hs17 : v0.heap.size ≤ v0b.heap.size := Lv0b.size
      have c18 : v0b.cell? ⟨w.heap.size + 1, 0, none⟩ = some (.int .i64 o1.ve) := Pk.cell_at m15 0
      have c19 : v0b.cell? ⟨w.heap.size + 1, 1, none⟩ = some (.slice x1.a o1.ol.length x1.c) := Pk.cell_at m15 1
      have c20 : v0b.cell? ⟨w.heap.size + 1, 2, none⟩ = some (.slice x1.b o1.sl.length x1.d) := Pk.cell_at m15 2
      go_wp2_with fail
      refine (HSZ2.out _).mono ?_
      clear c18 c19 c20
      rintro e v1 ⟨rfl, Lv1⟩
      have m21 := Pk.kept Lv1 (Pk.lt_of m14) m14
      clear m14
      have m22 := Pk.kept Lv1 (Pk.lt_of m15) m15
      clear m15
      have L23 := Pk.join_below L16 Lv1
      clear L16
      have hs24 : v0b.heap.size ≤ v1.heap.size := Lv1.size
      have c25 : v1.cell? ⟨w.heap.size, 0, none⟩ = some (.int .i64 o0.ve) := Pk.cell_at m21 0
      have c26 : v1.cell? ⟨w.heap.size, 1, none⟩ = some (.slice x0.a o0.ol.length x0.c) := Pk.cell_at m21 1
      have c27 : v1.cell? ⟨w.heap.size, 2, none⟩ = some (.slice x0.b o0.sl.length x0.d) := Pk.cell_at m21 2
      have c28 : v1.cell? ⟨w.heap.size + 1, 0, none⟩ = some (.int .i64 o1.ve) := Pk.cell_at m22 0
      have c29 : v1.cell? ⟨w.heap.size + 1, 1, none⟩ = some (.slice x1.a o1.ol.length x1.c) := Pk.cell_at m22 1
      have c30 : v1.cell? ⟨w.heap.size + 1, 2, none⟩ = some (.slice x1.b o1.sl.length x1.d) := Pk.cell_at m22 2
      go_wp2
      go_cut [6] from 14 (fun t wc => ∃ (yT : Hn.Pl) (AT : Nat), t = .pointer (some ⟨AT, 0, none⟩) ∧ Hid (wc.heap[AT]? = some (Hn.ceB yT R 30) ∧ Hn.In wc yT R ∧ Below v1.heap.size v1 wc ∧ v1.heap.size ≤ AT))
      case first =>
        have nav1 : v1.heap.size ≠ w.heap.size := Nat.ne_of_gt (Pk.lt_of m21)
        have nbv1 : v1.heap.size ≠ w.heap.size + 1 := Nat.ne_of_gt (Pk.lt_of m22)
        go_region_held3 (fun w' => w'.cell? ⟨w.heap.size, 0, none⟩ = some (.int .i64 o0.ve) ∧ w'.cell? ⟨w.heap.size, 1, none⟩ = some (.slice x0.a o0.ol.length x0.c) ∧ w'.cell? ⟨w.heap.size, 2, none⟩ = some (.slice x0.b o0.sl.length x0.d) ∧ w'.cell? ⟨w.heap.size + 1, 0, none⟩ = some (.int .i64 o1.ve) ∧ w'.cell? ⟨w.heap.size + 1, 1, none⟩ = some (.slice x1.a o1.ol.length x1.c) ∧ w'.cell? ⟨w.heap.size + 1, 2, none⟩ = some (.slice x1.b o1.sl.length x1.d)) (go_keep) (first
          | (go_at_call 11; (with_reducible refine (HTO.out _ ?_).mono ?_); (first | with_reducible exact I.on L23 | with_reducible exact I.on L23.drew | with_reducible exact I.on (Pk.join_below L23 (Pk.new_below _ _)) | with_reducible exact I.on (Pk.join_below L23 (Pk.new_below _ _)).drew | with_reducible exact I.on (Pk.join_below L23.drew (Pk.new_below _ _))); rintro e n1 ⟨yA, ga, gb, rfl, M0, JA, -, -, -, yAc, yAd, -⟩; have M1 : Below v1.heap.size v1 n1 := (by first | with_reducible exact M0 | with_reducible exact Pk.join_below (Pk.new_below _ _) M0 | with_reducible exact ((Below.refl _ _).drew).trans M0 | exact ((Pk.new_below v1 (.cells #[.int .i64 0, .slice none 0 0, .slice none 0 0] 30)).drew).trans (M0.mono (Pk.new_below v1 (.cells #[.int .i64 0, .slice none 0 0, .slice none 0 0] 30)).size) | exact ((Below.refl _ v1).drew).trans ((Pk.new_below v1.drew (.cells #[.int .i64 0, .slice none 0 0, .slice none 0 0] 30)).trans (M0.mono (Pk.new_below v1.drew (.cells #[.int .i64 0, .slice none 0 0, .slice none 0 0] 30)).size)) | exact ((Below.refl _ _).drew).trans M0); have FA : Hid (Hn.Flat yA) := ⟨⟨_, _, yAc⟩, ⟨_, _, yAd⟩⟩; clear yAc yAd; (first | (have zb : n1.heap[v1.heap.size]? = some (.cells #[.int .i64 0, .slice none 0 0, .slice none 0 0] 30) := Pk.kept M0 (Pk.lt_of (Pk.heap_new v1 (.cells #[.int .i64 0, .slice none 0 0, .slice none 0 0] 30))) (Pk.heap_new v1 (.cells #[.int .i64 0, .slice none 0 0, .slice none 0 0] 30))) | (have zb : n1.heap[v1.heap.size]? = some (.cells #[.int .i64 0, .slice none 0 0, .slice none 0 0] 30) := Pk.kept M0 (Pk.lt_of (Pk.heap_new v1.drew (.cells #[.int .i64 0, .slice none 0 0, .slice none 0 0] 30))) (Pk.heap_new v1.drew (.cells #[.int .i64 0, .slice none 0 0, .slice none 0 0] 30))) | skip); have pa := Pk.kept M1 (Pk.lt_of m21) m21; have pb := Pk.kept M1 (Pk.lt_of m22) m22; have nan1 : n1.heap.size ≠ w.heap.size := Nat.ne_of_gt (Pk.lt_of pa); have nbn1 : n1.heap.size ≠ w.heap.size + 1 := Nat.ne_of_gt (Pk.lt_of pb); have ra0 : n1.cell? ⟨w.heap.size, 0, none⟩ = some (.int .i64 o0.ve) := Pk.cell_at pa 0; have ra1 : n1.cell? ⟨w.heap.size, 1, none⟩ = some (.slice x0.a o0.ol.length x0.c) := Pk.cell_at pa 1; have ra2 : n1.cell? ⟨w.heap.size, 2, none⟩ = some (.slice x0.b o0.sl.length x0.d) := Pk.cell_at pa 2; have rb0 : n1.cell? ⟨w.heap.size + 1, 0, none⟩ = some (.int .i64 o1.ve) := Pk.cell_at pb 0; have rb1 : n1.cell? ⟨w.heap.size + 1, 1, none⟩ = some (.slice x1.a o1.ol.length x1.c) := Pk.cell_at pb 1; have rb2 : n1.cell? ⟨w.heap.size + 1, 2, none⟩ = some (.slice x1.b o1.sl.length x1.d) := Pk.cell_at pb 2; clear M0 pa pb)
          | (go_at_call 11; (with_reducible refine (HTP.out _ ?_).mono ?_); (first | with_reducible exact J.on (Pk.join_below L23 M1) | with_reducible exact J.on (Pk.join_below L23 M1).drew | with_reducible exact J.on (Pk.join_below (Pk.join_below L23 M1) (Pk.new_below _ _)) | with_reducible exact J.on (Pk.join_below (Pk.join_below L23 M1) (Pk.new_below _ _)).drew | with_reducible exact J.on (Pk.join_below (Pk.join_below L23 M1).drew (Pk.new_below _ _))); rintro e n2 ⟨yB, gc, gd, rfl, M0, JB, -, -, -, yBc, yBd, -⟩; have M2 : Below n1.heap.size n1 n2 := (by first | with_reducible exact M0 | with_reducible exact Pk.join_below (Pk.new_below _ _) M0 | with_reducible exact ((Below.refl _ _).drew).trans M0 | exact ((Pk.new_below n1 (.cells #[.int .i64 0, .slice none 0 0, .slice none 0 0] 30)).drew).trans (M0.mono (Pk.new_below n1 (.cells #[.int .i64 0, .slice none 0 0, .slice none 0 0] 30)).size) | exact ((Below.refl _ n1).drew).trans ((Pk.new_below n1.drew (.cells #[.int .i64 0, .slice none 0 0, .slice none 0 0] 30)).trans (M0.mono (Pk.new_below n1.drew (.cells #[.int .i64 0, .slice none 0 0, .slice none 0 0] 30)).size)) | exact ((Below.refl _ _).drew).trans M0); have FB : Hid (Hn.Flat yB) := ⟨⟨_, _, yBc⟩, ⟨_, _, yBd⟩⟩; clear yBc yBd; (first | (have zc : n2.heap[v1.heap.size]? = some (.cells #[.int .i64 0, .slice none 0 0, .slice none 0 0] 30) := Pk.kept M2 (Pk.lt_of zb) zb; clear zb) | (have zc : n2.heap[n1.heap.size]? = some (.cells #[.int .i64 0, .slice none 0 0, .slice none 0 0] 30) := Pk.kept M0 (Pk.lt_of (Pk.heap_new n1 (.cells #[.int .i64 0, .slice none 0 0, .slice none 0 0] 30))) (Pk.heap_new n1 (.cells #[.int .i64 0, .slice none 0 0, .slice none 0 0] 30))) | (have zc : n2.heap[n1.heap.size]? = some (.cells #[.int .i64 0, .slice none 0 0, .slice none 0 0] 30) := Pk.kept M0 (Pk.lt_of (Pk.heap_new n1.drew (.cells #[.int .i64 0, .slice none 0 0, .slice none 0 0] 30))) (Pk.heap_new n1.drew (.cells #[.int .i64 0, .slice none 0 0, .slice none 0 0] 30))) | skip); have M12 := Pk.join_below M1 M2; have JA2 := JA.on M2; have pa := Pk.kept M12 (Pk.lt_of m21) m21; have pb := Pk.kept M12 (Pk.lt_of m22) m22; have nan2 : n2.heap.size ≠ w.heap.size := Nat.ne_of_gt (Pk.lt_of pa); have nbn2 : n2.heap.size ≠ w.heap.size + 1 := Nat.ne_of_gt (Pk.lt_of pb); have ra0 : n2.cell? ⟨w.heap.size, 0, none⟩ = some (.int .i64 o0.ve) := Pk.cell_at pa 0; have ra1 : n2.cell? ⟨w.heap.size, 1, none⟩ = some (.slice x0.a o0.ol.length x0.c) := Pk.cell_at pa 1; have ra2 : n2.cell? ⟨w.heap.size, 2, none⟩ = some (.slice x0.b o0.sl.length x0.d) := Pk.cell_at pa 2; have rb0 : n2.cell? ⟨w.heap.size + 1, 0, none⟩ = some (.int .i64 o1.ve) := Pk.cell_at pb 0; have rb1 : n2.cell? ⟨w.heap.size + 1, 1, none⟩ = some (.slice x1.a o1.ol.length x1.c) := Pk.cell_at pb 1; have rb2 : n2.cell? ⟨w.heap.size + 1, 2, none⟩ = some (.slice x1.b o1.sl.length x1.d) := Pk.cell_at pb 2; clear M0 pa pb JA)
          | (go_at_call 30; (with_reducible refine (HS.out yA yB _ ?_ FA.out ?_ FB.out).mono ?_); (first | with_reducible exact JA2.on (Below.refl n2.heap.size n2) | with_reducible exact JA2.on (Below.refl n2.heap.size n2).drew | with_reducible exact JA2.on (Pk.join_below (Below.refl n2.heap.size n2) (Pk.new_below _ _)) | with_reducible exact JA2.on (Pk.join_below (Below.refl n2.heap.size n2) (Pk.new_below _ _)).drew | with_reducible exact JA2.on (Pk.join_below (Below.refl n2.heap.size n2).drew (Pk.new_below _ _))); (first | with_reducible exact JB.on (Below.refl n2.heap.size n2) | with_reducible exact JB.on (Below.refl n2.heap.size n2).drew | with_reducible exact JB.on (Pk.join_below (Below.refl n2.heap.size n2) (Pk.new_below _ _)) | with_reducible exact JB.on (Pk.join_below (Below.refl n2.heap.size n2) (Pk.new_below _ _)).drew | with_reducible exact JB.on (Pk.join_below (Below.refl n2.heap.size n2).drew (Pk.new_below _ _))); rintro e n3 ⟨yT, rfl, CT, M0⟩; have M3 : Below n2.heap.size n2 n3 := (by first | with_reducible exact M0 | with_reducible exact Pk.join_below (Pk.new_below _ _) M0 | with_reducible exact ((Below.refl _ _).drew).trans M0 | exact ((Pk.new_below n2 (.cells #[.int .i64 0, .slice none 0 0, .slice none 0 0] 30)).drew).trans (M0.mono (Pk.new_below n2 (.cells #[.int .i64 0, .slice none 0 0, .slice none 0 0] 30)).size) | exact ((Below.refl _ n2).drew).trans ((Pk.new_below n2.drew (.cells #[.int .i64 0, .slice none 0 0, .slice none 0 0] 30)).trans (M0.mono (Pk.new_below n2.drew (.cells #[.int .i64 0, .slice none 0 0, .slice none 0 0] 30)).size)) | exact ((Below.refl _ _).drew).trans M0); (first | (have zd : n3.heap[v1.heap.size]? = some (.cells #[.int .i64 0, .slice none 0 0, .slice none 0 0] 30) := Pk.kept M3 (Pk.lt_of zc) zc; have z0 : n3.cell? ⟨v1.heap.size, 0, none⟩ = some (.int .i64 0) := Pk.cell_at zd 0; have z1 : n3.cell? ⟨v1.heap.size, 1, none⟩ = some (.slice none 0 0) := Pk.cell_at zd 1; have z2 : n3.cell? ⟨v1.heap.size, 2, none⟩ = some (.slice none 0 0) := Pk.cell_at zd 2; have y0 : n3.frozen? ⟨v1.heap.size, 0, none⟩ = false := Pk.frozen_at zd 0; have y1 : n3.frozen? ⟨v1.heap.size, 1, none⟩ = false := Pk.frozen_at zd 1; have y2 : n3.frozen? ⟨v1.heap.size, 2, none⟩ = false := Pk.frozen_at zd 2) | (have zd : n3.heap[n1.heap.size]? = some (.cells #[.int .i64 0, .slice none 0 0, .slice none 0 0] 30) := Pk.kept M3 (Pk.lt_of zc) zc; have z0 : n3.cell? ⟨n1.heap.size, 0, none⟩ = some (.int .i64 0) := Pk.cell_at zd 0; have z1 : n3.cell? ⟨n1.heap.size, 1, none⟩ = some (.slice none 0 0) := Pk.cell_at zd 1; have z2 : n3.cell? ⟨n1.heap.size, 2, none⟩ = some (.slice none 0 0) := Pk.cell_at zd 2; have y0 : n3.frozen? ⟨n1.heap.size, 0, none⟩ = false := Pk.frozen_at zd 0; have y1 : n3.frozen? ⟨n1.heap.size, 1, none⟩ = false := Pk.frozen_at zd 1; have y2 : n3.frozen? ⟨n1.heap.size, 2, none⟩ = false := Pk.frozen_at zd 2) | ((first | (have zd : n3.heap[n2.heap.size]? = some (.cells #[.int .i64 0, .slice none 0 0, .slice none 0 0] 30) := Pk.kept M0 (Pk.lt_of (Pk.heap_new n2 (.cells #[.int .i64 0, .slice none 0 0, .slice none 0 0] 30))) (Pk.heap_new n2 (.cells #[.int .i64 0, .slice none 0 0, .slice none 0 0] 30))) | (have zd : n3.heap[n2.heap.size]? = some (.cells #[.int .i64 0, .slice none 0 0, .slice none 0 0] 30) := Pk.kept M0 (Pk.lt_of (Pk.heap_new n2.drew (.cells #[.int .i64 0, .slice none 0 0, .slice none 0 0] 30))) (Pk.heap_new n2.drew (.cells #[.int .i64 0, .slice none 0 0, .slice none 0 0] 30)))); have z0 : n3.cell? ⟨n2.heap.size, 0, none⟩ = some (.int .i64 0) := Pk.cell_at zd 0; have z1 : n3.cell? ⟨n2.heap.size, 1, none⟩ = some (.slice none 0 0) := Pk.cell_at zd 1; have z2 : n3.cell? ⟨n2.heap.size, 2, none⟩ = some (.slice none 0 0) := Pk.cell_at zd 2; have y0 : n3.frozen? ⟨n2.heap.size, 0, none⟩ = false := Pk.frozen_at zd 0; have y1 : n3.frozen? ⟨n2.heap.size, 1, none⟩ = false := Pk.frozen_at zd 1; have y2 : n3.frozen? ⟨n2.heap.size, 2, none⟩ = false := Pk.frozen_at zd 2) | skip); have M13 := Pk.join_below M12 M3; have pa := Pk.kept M13 (Pk.lt_of m21) m21; have pb := Pk.kept M13 (Pk.lt_of m22) m22; have nan3 : n3.heap.size ≠ w.heap.size := Nat.ne_of_gt (Pk.lt_of pa); have nbn3 : n3.heap.size ≠ w.heap.size + 1 := Nat.ne_of_gt (Pk.lt_of pb); have ra0 : n3.cell? ⟨w.heap.size, 0, none⟩ = some (.int .i64 o0.ve) := Pk.cell_at pa 0; have ra1 : n3.cell? ⟨w.heap.size, 1, none⟩ = some (.slice x0.a o0.ol.length x0.c) := Pk.cell_at pa 1; have ra2 : n3.cell? ⟨w.heap.size, 2, none⟩ = some (.slice x0.b o0.sl.length x0.d) := Pk.cell_at pa 2; have rb0 : n3.cell? ⟨w.heap.size + 1, 0, none⟩ = some (.int .i64 o1.ve) := Pk.cell_at pb 0; have rb1 : n3.cell? ⟨w.heap.size + 1, 1, none⟩ = some (.slice x1.a o1.ol.length x1.c) := Pk.cell_at pb 1; have rb2 : n3.cell? ⟨w.heap.size + 1, 2, none⟩ = some (.slice x1.b o1.sl.length x1.d) := Pk.cell_at pb 2; clear pa pb))
        all_goals
          go_wp2
          go_meet
          case rel => first | exact ⟨yT, _, rfl, ⟨Pk.heap_new n3 _, CT.in.on (Pk.new_below n3 _), Pk.join_below M13 (Pk.new_below n3 _), M13.size⟩⟩ | exact ⟨yT, n2.heap.size, rfl, ⟨(put3 CT zd).1, (put3 CT zd).2, (((M13.setCell (p := ⟨n2.heap.size, 0, none⟩) M12.size _).setCell (p := ⟨n2.heap.size, 1, none⟩) M12.size _).setCell (p := ⟨n2.heap.size, 2, none⟩) M12.size _), M12.size⟩⟩ | exact ⟨yT, n1.heap.size, rfl, ⟨(put3 CT zd).1, (put3 CT zd).2, (((M13.setCell (p := ⟨n1.heap.size, 0, none⟩) M1.size _).setCell (p := ⟨n1.heap.size, 1, none⟩) M1.size _).setCell (p := ⟨n1.heap.size, 2, none⟩) M1.size _), M1.size⟩⟩ | exact ⟨yT, v1.heap.size, rfl, ⟨(put3 CT zd).1, (put3 CT zd).2, (((M13.setCell (p := ⟨v1.heap.size, 0, none⟩) (Nat.le_refl _) _).setCell (p := ⟨v1.heap.size, 1, none⟩) (Nat.le_refl _) _).setCell (p := ⟨v1.heap.size, 2, none⟩) (Nat.le_refl _) _), (Nat.le_refl _)⟩⟩
      case rest =>
        obtain ⟨yS, AS, rfl, HCUT⟩ := hcut
        obtain ⟨mAS, IyS, LK, hAS⟩ := HCUT.out
        clear HCUT
        clear c25 c26 c27 c28 c29 c30
        obtain ⟨wk, hwn⟩ : ∃ q, q = wc := ⟨_, rfl⟩
        subst hwn
        have m31 := Pk.kept LK (Pk.lt_of m21) m21
        clear m21
        have m32 := Pk.kept LK (Pk.lt_of m22) m22
        clear m22
        have L33 := Pk.join_below L23 LK
        clear L23
        have hs34 : v1.heap.size ≤ wk.heap.size := LK.size
        have hltAS := Pk.lt_of mAS
        have IS := IyS
        clear IyS
        have HFS : Hid (∀ lo hi, wk.heap.size ≤ lo → Hn.Far lo hi yS R) := fun lo hi h => Hn.Far.of IS h
        have c35 : wk.cell? ⟨w.heap.size, 0, none⟩ = some (.int .i64 o0.ve) := Pk.cell_at m31 0
        have c36 : wk.cell? ⟨w.heap.size, 1, none⟩ = some (.slice x0.a o0.ol.length x0.c) := Pk.cell_at m31 1
        have c37 : wk.cell? ⟨w.heap.size, 2, none⟩ = some (.slice x0.b o0.sl.length x0.d) := Pk.cell_at m31 2
        go_wp2_with fail
        refine (HTO.out _ (I.on L33)).mono ?_
        clear c35 c36 c37
        rintro e v6 ⟨yX, yX1, yX2, rfl, Lv6, IyX, MyX, yXa, yXb, yXc, yXd, yXe⟩
        have m38 := Pk.kept Lv6 (Pk.lt_of m31) m31
        clear m31
        have m39 := Pk.kept Lv6 (Pk.lt_of m32) m32
        clear m32
        have m40 := Pk.kept Lv6 (Pk.lt_of mAS) mAS
        clear mAS
        have i41 := IS.on Lv6
        clear IS
        have L42 := Pk.join_below L33 Lv6
        clear L33
        have hs43 : wk.heap.size ≤ v6.heap.size := Lv6.size
        have FyX : Hid (Hn.Flat yX) := ⟨⟨_, _, yXc⟩, ⟨_, _, yXd⟩⟩
        clear yXc yXd yXe
        have N44 := Pk.new_below v6 (Hn.ceB yX o0 30)
        have m45 := Pk.heap_new v6 (Hn.ceB yX o0 30)
        have m47 := Pk.kept N44 (Pk.lt_of m38) m38
        clear m38
        have m48 := Pk.kept N44 (Pk.lt_of m39) m39
        clear m39
        have m49 := Pk.kept N44 (Pk.lt_of m40) m40
        clear m40
        have i50 := i41.on N44
        clear i41
        have i51 := IyX.on N44
        clear IyX
        have i52 := MyX.on N44
        clear MyX
        have L53 := Pk.join_below L42 N44
        clear L42
        have hs54 : v6.heap.size ≤ (v6.alloc (Hn.ceB yX o0 30)).heap.size := N44.size
        have hs55 := Pk.lt_of m45
        have c56 : (v6.alloc (Hn.ceB yX o0 30)).cell? ⟨w.heap.size + 1, 0, none⟩ = some (.int .i64 o1.ve) := Pk.cell_at m48 0
        have c57 : (v6.alloc (Hn.ceB yX o0 30)).cell? ⟨w.heap.size + 1, 1, none⟩ = some (.slice x1.a o1.ol.length x1.c) := Pk.cell_at m48 1
        have c58 : (v6.alloc (Hn.ceB yX o0 30)).cell? ⟨w.heap.size + 1, 2, none⟩ = some (.slice x1.b o1.sl.length x1.d) := Pk.cell_at m48 2
        go_wp2_with fail
        refine (HTP.out _ (J.on L53)).mono ?_
        clear c56 c57 c58
        generalize (v6.alloc (Hn.ceB yX o0 30)) = v7 at *
        rintro e v8 ⟨yY, yY1, yY2, rfl, Lv8, IyY, MyY, yYa, yYb, yYc, yYd, yYe⟩
        have m59 := Pk.kept Lv8 (Pk.lt_of m47) m47
        clear m47
        have m60 := Pk.kept Lv8 (Pk.lt_of m48) m48
        clear m48
        have m61 := Pk.kept Lv8 (Pk.lt_of m49) m49
        clear m49
        have m62 := Pk.kept Lv8 (Pk.lt_of m45) m45
        clear m45
        have i63 := i50.on Lv8
        clear i50
        have i64 := i51.on Lv8
        clear i51
        have i65 := i52.on Lv8
        clear i52
        have L66 := Pk.join_below L53 Lv8
        clear L53
        have hs67 : v7.heap.size ≤ v8.heap.size := Lv8.size
        have FyY : Hid (Hn.Flat yY) := ⟨⟨_, _, yYc⟩, ⟨_, _, yYd⟩⟩
        clear yYc yYd yYe
        have N68 := Pk.new_below v8 (Hn.ceB yY o1 30)
        have m69 := Pk.heap_new v8 (Hn.ceB yY o1 30)
        have m71 := Pk.kept N68 (Pk.lt_of m59) m59
        clear m59
        have m72 := Pk.kept N68 (Pk.lt_of m60) m60
        clear m60
        have m73 := Pk.kept N68 (Pk.lt_of m61) m61
        clear m61
        have m74 := Pk.kept N68 (Pk.lt_of m62) m62
        clear m62
        have i75 := i63.on N68
        clear i63
        have i76 := i64.on N68
        clear i64
        have i77 := IyY.on N68
        clear IyY
        have i78 := i65.on N68
        clear i65
        have i79 := MyY.on N68
        clear MyY
        have L80 := Pk.join_below L66 N68
        clear L66
        have hs81 : v8.heap.size ≤ (v8.alloc (Hn.ceB yY o1 30)).heap.size := N68.size
        have hs82 := Pk.lt_of m69
        have c83 : (v8.alloc (Hn.ceB yY o1 30)).cell? ⟨v6.heap.size, 0, none⟩ = some (.int .i64 o0.ve) := Pk.cell_at m74 0
        have c84 : (v8.alloc (Hn.ceB yY o1 30)).cell? ⟨v6.heap.size, 1, none⟩ = some (.slice yX.a o0.ol.length yX.c) := Pk.cell_at m74 1
        have c85 : (v8.alloc (Hn.ceB yY o1 30)).cell? ⟨v6.heap.size, 2, none⟩ = some (.slice yX.b o0.sl.length yX.d) := Pk.cell_at m74 2
        go_wp2_with fail
        refine (HI.out yX yY _ i76 FyX.out i77 FyY.out).mono ?_
        clear c83 c84 c85
        generalize (v8.alloc (Hn.ceB yY o1 30)) = v8b at *
        rintro e v9 ⟨yG, rfl, CG, Lv9⟩
        have m86 := Pk.kept Lv9 (Pk.lt_of m71) m71
        clear m71
        have m87 := Pk.kept Lv9 (Pk.lt_of m72) m72
        clear m72
        have m88 := Pk.kept Lv9 (Pk.lt_of m73) m73
        clear m73
        have m89 := Pk.kept Lv9 (Pk.lt_of m74) m74
        clear m74
        have m90 := Pk.kept Lv9 (Pk.lt_of m69) m69
        clear m69
        have i91 := i75.on Lv9
        clear i75
        have i92 := i76.on Lv9
        clear i76
        have i93 := i77.on Lv9
        clear i77
        have i94 := i78.on Lv9
        clear i78
        have i95 := i79.on Lv9
        clear i79
        have L96 := Pk.join_below L80 Lv9
        clear L80
        have hs97 : v8b.heap.size ≤ v9.heap.size := Lv9.size
        have IG := CG.in
        obtain ⟨gG1, gG2, MG⟩ := CG.mine
        clear CG
        have HG1 : Hid (R.ol.length = 0 ∨ (yG.a = some ⟨gG1, 0, none⟩ ∧ gG1 < v9.heap.size)) := MG.off.imp_right fun h => ⟨h.1, h.2.1⟩
        have HG2 : Hid (R.sl.length = 0 ∨ (yG.b = some ⟨gG2, 0, none⟩ ∧ gG2 < v9.heap.size)) := MG.seen.imp_right fun h => ⟨h.1, h.2.1⟩
        have HFG : Hid (∀ lo hi, hi ≤ v8b.heap.size → Hn.Far lo hi yG R) := fun lo hi h => far_mine MG h
        have N98 := Pk.new_below v9 (Hn.ceB yG R 30)
        have m99 := Pk.heap_new v9 (Hn.ceB yG R 30)
        have m101 := Pk.kept N98 (Pk.lt_of m86) m86
        clear m86
        have m102 := Pk.kept N98 (Pk.lt_of m87) m87
        clear m87
        have m103 := Pk.kept N98 (Pk.lt_of m88) m88
        clear m88
        have m104 := Pk.kept N98 (Pk.lt_of m89) m89
        clear m89
        have m105 := Pk.kept N98 (Pk.lt_of m90) m90
        clear m90
        have i106 := i91.on N98
        clear i91
        have i107 := i92.on N98
        clear i92
        have i108 := i93.on N98
        clear i93
        have i109 := IG.on N98
        clear IG
        have i110 := i94.on N98
        clear i94
        have i111 := i95.on N98
        clear i95
        have i112 := MG.on N98
        clear MG
        have L113 := Pk.join_below L96 N98
        clear L96
        have hs114 : v9.heap.size ≤ (v9.alloc (Hn.ceB yG R 30)).heap.size := N98.size
        have hs115 := Pk.lt_of m99
        have c116 : (v9.alloc (Hn.ceB yG R 30)).cell? ⟨AS, 0, none⟩ = some (.int .i64 R.ve) := Pk.cell_at m103 0
        have c117 : (v9.alloc (Hn.ceB yG R 30)).cell? ⟨AS, 1, none⟩ = some (.slice yS.a R.ol.length yS.c) := Pk.cell_at m103 1
        have c118 : (v9.alloc (Hn.ceB yG R 30)).cell? ⟨AS, 2, none⟩ = some (.slice yS.b R.sl.length yS.d) := Pk.cell_at m103 2
        go_wp2_with fail
        refine (HE.out yG yS _ i109 i106).mono ?_
        clear c116 c117 c118
        generalize (v9.alloc (Hn.ceB yG R 30)) = v10 at *
        rintro e v11 ⟨rfl, Lv11⟩
        have m119 := Pk.kept Lv11 (Pk.lt_of m101) m101
        clear m101
        have m120 := Pk.kept Lv11 (Pk.lt_of m102) m102
        clear m102
        have m121 := Pk.kept Lv11 (Pk.lt_of m103) m103
        clear m103
        have m122 := Pk.kept Lv11 (Pk.lt_of m104) m104
        clear m104
        have m123 := Pk.kept Lv11 (Pk.lt_of m105) m105
        clear m105
        have m124 := Pk.kept Lv11 (Pk.lt_of m99) m99
        clear m99
        have i125 := i106.on Lv11
        clear i106
        have i126 := i107.on Lv11
        clear i107
        have i127 := i108.on Lv11
        clear i108
        have i128 := i109.on Lv11
        clear i109
        have i129 := i110.on Lv11
        clear i110
        have i130 := i111.on Lv11
        clear i111
        have i131 := i112.on Lv11
        clear i112
        have L132 := Pk.join_below L113 Lv11
        clear L113
        have hs133 : v10.heap.size ≤ v11.heap.size := Lv11.size
        have c134 : v11.cell? ⟨w.heap.size, 0, none⟩ = some (.int .i64 o0.ve) := Pk.cell_at m119 0
        have c135 : v11.cell? ⟨w.heap.size, 1, none⟩ = some (.slice x0.a o0.ol.length x0.c) := Pk.cell_at m119 1
        have c136 : v11.cell? ⟨w.heap.size, 2, none⟩ = some (.slice x0.b o0.sl.length x0.d) := Pk.cell_at m119 2
        have c137 : v11.cell? ⟨v6.heap.size, 0, none⟩ = some (.int .i64 o0.ve) := Pk.cell_at m122 0
        have c138 : v11.cell? ⟨v6.heap.size, 1, none⟩ = some (.slice yX.a o0.ol.length yX.c) := Pk.cell_at m122 1
        have c139 : v11.cell? ⟨v6.heap.size, 2, none⟩ = some (.slice yX.b o0.sl.length yX.d) := Pk.cell_at m122 2
        go_wp2
        go_cut [44] from 14 (fun t wc => t = .bool false ∧ Below v11.heap.size v11 wc)
        case first =>
          go_region_with (first
            | (go_at_call 11; refine (HTO.out _ ?_).mono ?_; (first | exact I.on L132 | exact I.on L132.drew); rintro e u1 ⟨y1, ge, gf, rfl, M0, J1, -⟩; have M1 : Below v11.heap.size v11 u1 := (by first | exact M0 | exact ((Below.refl _ _).drew).trans M0); have p1 := Pk.kept M1 (Pk.lt_of m122) m122; have I11 := i126.on M1; have dd0 : u1.cell? ⟨v6.heap.size, 0, none⟩ = some (.int .i64 o0.ve) := Pk.cell_at p1 0; have dd1 : u1.cell? ⟨v6.heap.size, 1, none⟩ = some (.slice yX.a o0.ol.length yX.c) := Pk.cell_at p1 1; have dd2 : u1.cell? ⟨v6.heap.size, 2, none⟩ = some (.slice yX.b o0.sl.length yX.d) := Pk.cell_at p1 2; clear M0 p1)
            | (go_at_call 13; refine (HEO.out _ _ _ ?_ ?_).mono ?_; (exact I11); (exact J1); rintro e u2 ⟨rfl, M3⟩))
          all_goals
            have M4 := Pk.join_below M1 M3
            go_wp2
            go_meet
            case rel => exact ⟨rfl, M4⟩
        case rest =>
          obtain ⟨rfl, LC⟩ := hcut
          clear c134 c135 c136 c137 c138 c139
          obtain ⟨wq, hwq⟩ : ∃ q, q = wc := ⟨_, rfl⟩
          subst hwq
          have m140 := Pk.kept LC (Pk.lt_of m119) m119
          clear m119
          have m141 := Pk.kept LC (Pk.lt_of m120) m120
          clear m120
          have m142 := Pk.kept LC (Pk.lt_of m121) m121
          clear m121
          have m143 := Pk.kept LC (Pk.lt_of m122) m122
          clear m122
          have m144 := Pk.kept LC (Pk.lt_of m123) m123
          clear m123
          have m145 := Pk.kept LC (Pk.lt_of m124) m124
          clear m124
          have i146 := i125.on LC
          clear i125
          have i147 := i126.on LC
          clear i126
          have i148 := i127.on LC
          clear i127
          have i149 := i128.on LC
          clear i128
          have i150 := i129.on LC
          clear i129
          have i151 := i130.on LC
          clear i130
          have i152 := i131.on LC
          clear i131
          have L153 := Pk.join_below L132 LC
          clear L132
          have hs154 : v11.heap.size ≤ wq.heap.size := LC.size
          have c155 : wq.cell? ⟨w.heap.size + 1, 0, none⟩ = some (.int .i64 o1.ve) := Pk.cell_at m141 0
          have c156 : wq.cell? ⟨w.heap.size + 1, 1, none⟩ = some (.slice x1.a o1.ol.length x1.c) := Pk.cell_at m141 1
          have c157 : wq.cell? ⟨w.heap.size + 1, 2, none⟩ = some (.slice x1.b o1.sl.length x1.d) := Pk.cell_at m141 2
          have c158 : wq.cell? ⟨v8.heap.size, 0, none⟩ = some (.int .i64 o1.ve) := Pk.cell_at m144 0
          have c159 : wq.cell? ⟨v8.heap.size, 1, none⟩ = some (.slice yY.a o1.ol.length yY.c) := Pk.cell_at m144 1
          have c160 : wq.cell? ⟨v8.heap.size, 2, none⟩ = some (.slice yY.b o1.sl.length yY.d) := Pk.cell_at m144 2
          go_wp2
          go_cut [49] from 14 (fun t wc => t = .bool false ∧ Below wq.heap.size wq wc)
          case first =>
            go_region_with (first
              | (go_at_call 11; refine (HTP.out _ ?_).mono ?_; (first | exact J.on L153 | exact J.on L153.drew); rintro e u1 ⟨y1, ge, gf, rfl, M0, J1, -⟩; have M1 : Below wq.heap.size wq u1 := (by first | exact M0 | exact ((Below.refl _ _).drew).trans M0); have p1 := Pk.kept M1 (Pk.lt_of m144) m144; have I11 := i148.on M1; have dd0 : u1.cell? ⟨v8.heap.size, 0, none⟩ = some (.int .i64 o1.ve) := Pk.cell_at p1 0; have dd1 : u1.cell? ⟨v8.heap.size, 1, none⟩ = some (.slice yY.a o1.ol.length yY.c) := Pk.cell_at p1 1; have dd2 : u1.cell? ⟨v8.heap.size, 2, none⟩ = some (.slice yY.b o1.sl.length yY.d) := Pk.cell_at p1 2; clear M0 p1)
              | (go_at_call 13; refine (HEP.out _ _ _ ?_ ?_).mono ?_; (exact I11); (exact J1); rintro e u2 ⟨rfl, M3⟩))
            all_goals
              have M4 := Pk.join_below M1 M3
              go_wp2
              go_meet
              case rel => exact ⟨rfl, M4⟩
          case rest =>
            obtain ⟨rfl, LD⟩ := hcut
            clear c155 c156 c157 c158 c159 c160
            obtain ⟨wr, hwq⟩ : ∃ q, q = wc := ⟨_, rfl⟩
            subst hwq
            have m161 := Pk.kept LD (Pk.lt_of m140) m140
            clear m140
            have m162 := Pk.kept LD (Pk.lt_of m141) m141
            clear m141
            have m163 := Pk.kept LD (Pk.lt_of m142) m142
            clear m142
            have m164 := Pk.kept LD (Pk.lt_of m143) m143
            clear m143
            have m165 := Pk.kept LD (Pk.lt_of m144) m144
            clear m144
            have m166 := Pk.kept LD (Pk.lt_of m145) m145
            clear m145
            have i167 := i146.on LD
            clear i146
            have i168 := i147.on LD
            clear i147
            have i169 := i148.on LD
            clear i148
            have i170 := i149.on LD
            clear i149
            have i171 := i150.on LD
            clear i150
            have i172 := i151.on LD
            clear i151
            have i173 := i152.on LD
            clear i152
            have L174 := Pk.join_below L153 LD
            clear L153
            have hs175 : wq.heap.size ≤ wr.heap.size := LD.size
            have c176 : wr.cell? ⟨v6.heap.size, 0, none⟩ = some (.int .i64 o0.ve) := Pk.cell_at m164 0
            have c177 : wr.cell? ⟨v6.heap.size, 1, none⟩ = some (.slice yX.a o0.ol.length yX.c) := Pk.cell_at m164 1
            have c178 : wr.cell? ⟨v6.heap.size, 2, none⟩ = some (.slice yX.b o0.sl.length yX.d) := Pk.cell_at m164 2
            go_wp2_with fail
            refine (Hn.markCentre_val yX o0 yX1 yX2 wk.heap.size v6.heap.size _ HZO.out.1 (by have := HZO.out.2; omega) i171 (Or.inr yXa) (Or.inr yXb)).mono ?_
            clear c176 c177 c178
            rintro e v14 ⟨rfl, Bv14, -⟩
            clear i171 i168
            have m179 := (Bv14.block _ (Pk.lt_of m161) (by have := Pk.lt_of m161; omega)).trans m161
            clear m161
            have m180 := (Bv14.block _ (Pk.lt_of m162) (by have := Pk.lt_of m162; omega)).trans m162
            clear m162
            have m181 := (Bv14.block _ (Pk.lt_of m163) (by have := Pk.lt_of m163; omega)).trans m163
            clear m163
            have m182 := (Bv14.block _ (Pk.lt_of m164) (by have := Pk.lt_of m164; omega)).trans m164
            clear m164
            have m183 := (Bv14.block _ (Pk.lt_of m165) (by have := Pk.lt_of m165; omega)).trans m165
            clear m165
            have m184 := (Bv14.block _ (Pk.lt_of m166) (by have := Pk.lt_of m166; omega)).trans m166
            clear m166
            have i185 := i167.brd Bv14 (HFS.out _ _ (by omega))
            clear i167
            have i186 := i169.brd Bv14 (far_mine i172 (by omega))
            clear i169
            have i187 := i170.brd Bv14 (HFG.out _ _ (by omega))
            clear i170
            have i188 := i172.brd Bv14 (by omega)
            clear i172
            have i189 := i173.brd Bv14 (by omega)
            clear i173
            have L190 := Bv14.below L174 (by omega) (by omega)
            clear L174
            have hs191 : wr.heap.size ≤ v14.heap.size := Bv14.size
            have c192 : v14.cell? ⟨v8.heap.size, 0, none⟩ = some (.int .i64 o1.ve) := Pk.cell_at m183 0
            have c193 : v14.cell? ⟨v8.heap.size, 1, none⟩ = some (.slice yY.a o1.ol.length yY.c) := Pk.cell_at m183 1
            have c194 : v14.cell? ⟨v8.heap.size, 2, none⟩ = some (.slice yY.b o1.sl.length yY.d) := Pk.cell_at m183 2
            go_wp2_with fail
            refine (Hn.markCentre_z yY o1 yY1 yY2 v7.heap.size v8.heap.size _ _ HKB.out.1 HKB.out.2 HZP.out.1 HZP.out.2 i188 (Or.inr yYa) (Or.inr yYb)).mono ?_
            clear c192 c193 c194
            rintro e v15 ⟨rfl, Bv15⟩
            clear i188 i186
            have m195 := (Bv15.block _ (Pk.lt_of m179) (by have := Pk.lt_of m179; omega)).trans m179
            clear m179
            have m196 := (Bv15.block _ (Pk.lt_of m180) (by have := Pk.lt_of m180; omega)).trans m180
            clear m180
            have m197 := (Bv15.block _ (Pk.lt_of m181) (by have := Pk.lt_of m181; omega)).trans m181
            clear m181
            have m198 := (Bv15.block _ (Pk.lt_of m182) (by have := Pk.lt_of m182; omega)).trans m182
            clear m182
            have m199 := (Bv15.block _ (Pk.lt_of m183) (by have := Pk.lt_of m183; omega)).trans m183
            clear m183
            have m200 := (Bv15.block _ (Pk.lt_of m184) (by have := Pk.lt_of m184; omega)).trans m184
            clear m184
            have i201 := i185.brd Bv15 (HFS.out _ _ (by omega))
            clear i185
            have i202 := i187.brd Bv15 (HFG.out _ _ (by omega))
            clear i187
            have i203 := i189.brd Bv15 (by omega)
            clear i189
            have L204 := Bv15.below L190 (by omega) (by omega)
            clear L190
            have hs205 : v14.heap.size ≤ v15.heap.size := Bv15.size
            have c206 : v15.cell? ⟨v9.heap.size, 0, none⟩ = some (.int .i64 R.ve) := Pk.cell_at m200 0
            have c207 : v15.cell? ⟨v9.heap.size, 1, none⟩ = some (.slice yG.a R.ol.length yG.c) := Pk.cell_at m200 1
            have c208 : v15.cell? ⟨v9.heap.size, 2, none⟩ = some (.slice yG.b R.sl.length yG.d) := Pk.cell_at m200 2
            have c209 : v15.cell? ⟨AS, 0, none⟩ = some (.int .i64 R.ve) := Pk.cell_at m197 0
            have c210 : v15.cell? ⟨AS, 1, none⟩ = some (.slice yS.a R.ol.length yS.c) := Pk.cell_at m197 1
            have c211 : v15.cell? ⟨AS, 2, none⟩ = some (.slice yS.b R.sl.length yS.d) := Pk.cell_at m197 2
            go_wp2_with fail
            refine (HE.out yG yS _ i202 i201).mono ?_
            clear c206 c207 c208 c209 c210 c211
            rintro e v16 ⟨rfl, Lv16⟩
            have m212 := Pk.kept Lv16 (Pk.lt_of m195) m195
            clear m195
            have m213 := Pk.kept Lv16 (Pk.lt_of m196) m196
            clear m196
            have m214 := Pk.kept Lv16 (Pk.lt_of m197) m197
            clear m197
            have m215 := Pk.kept Lv16 (Pk.lt_of m198) m198
            clear m198
            have m216 := Pk.kept Lv16 (Pk.lt_of m199) m199
            clear m199
            have m217 := Pk.kept Lv16 (Pk.lt_of m200) m200
            clear m200
            have i218 := i201.on Lv16
            clear i201
            have i219 := i202.on Lv16
            clear i202
            have i220 := i203.on Lv16
            clear i203
            have L221 := Pk.join_below L204 Lv16
            clear L204
            have hs222 : v15.heap.size ≤ v16.heap.size := Lv16.size
            have c223 : v16.cell? ⟨v9.heap.size, 0, none⟩ = some (.int .i64 R.ve) := Pk.cell_at m217 0
            have c224 : v16.cell? ⟨v9.heap.size, 1, none⟩ = some (.slice yG.a R.ol.length yG.c) := Pk.cell_at m217 1
            have c225 : v16.cell? ⟨v9.heap.size, 2, none⟩ = some (.slice yG.b R.sl.length yG.d) := Pk.cell_at m217 2
            go_wp2_with fail
            refine (Hn.markCentre_val yG R gG1 gG2 v8b.heap.size v9.heap.size _ HZ.out.1 (by have := HZ.out.2; omega) i220 (HG1.out.imp_right fun h => h.2) (HG2.out.imp_right fun h => h.2)).mono ?_
            clear c223 c224 c225
            rintro e v17 ⟨rfl, Bv17, Kv17⟩
            clear i220 i219
            have m226 := (Bv17.block _ (Pk.lt_of m212) (by have := Pk.lt_of m212; omega)).trans m212
            clear m212
            have m227 := (Bv17.block _ (Pk.lt_of m213) (by have := Pk.lt_of m213; omega)).trans m213
            clear m213
            have m228 := (Bv17.block _ (Pk.lt_of m214) (by have := Pk.lt_of m214; omega)).trans m214
            clear m214
            have m229 := (Bv17.block _ (Pk.lt_of m215) (by have := Pk.lt_of m215; omega)).trans m215
            clear m215
            have m230 := (Bv17.block _ (Pk.lt_of m216) (by have := Pk.lt_of m216; omega)).trans m216
            clear m216
            have m231 := (Bv17.block _ (Pk.lt_of m217) (by have := Pk.lt_of m217; omega)).trans m217
            clear m217
            have i232 := i218.brd Bv17 (HFS.out _ _ (by omega))
            clear i218
            have L233 := Bv17.below L221 (by omega) (by omega)
            clear L221
            have hs234 : v16.heap.size ≤ v17.heap.size := Bv17.size
            have c235 : v17.cell? ⟨v9.heap.size, 0, none⟩ = some (.int .i64 R.ve) := Pk.cell_at m231 0
            have c236 : v17.cell? ⟨v9.heap.size, 1, none⟩ = some (.slice yG.a R.ol.length yG.c) := Pk.cell_at m231 1
            have c237 : v17.cell? ⟨v9.heap.size, 2, none⟩ = some (.slice yG.b R.sl.length yG.d) := Pk.cell_at m231 2
            go_wp2_with fail
            refine (Hn.heldCentre_val yG R gG1 gG2 _ HZ.out.1 (by have := HZ.out.2; omega) (HG1.out.imp_right fun h => h.1) (HG2.out.imp_right fun h => h.1) Kv17).mono ?_
            clear c235 c236 c237
            rintro e v17h ⟨rfl, Lv17h⟩
            have m238 := Pk.kept Lv17h (Pk.lt_of m226) m226
            clear m226
            have m239 := Pk.kept Lv17h (Pk.lt_of m227) m227
            clear m227
            have m240 := Pk.kept Lv17h (Pk.lt_of m228) m228
            clear m228
            have m241 := Pk.kept Lv17h (Pk.lt_of m229) m229
            clear m229
            have m242 := Pk.kept Lv17h (Pk.lt_of m230) m230
            clear m230
            have m243 := Pk.kept Lv17h (Pk.lt_of m231) m231
            clear m231
            have i244 := i232.on Lv17h
            clear i232
            have i245 := Kv17.on Lv17h
            clear Kv17
            have L246 := Pk.join_below L233 Lv17h
            clear L233
            have hs247 : v17.heap.size ≤ v17h.heap.size := Lv17h.size
            have c248 : v17h.cell? ⟨w.heap.size, 0, none⟩ = some (.int .i64 o0.ve) := Pk.cell_at m238 0
            have c249 : v17h.cell? ⟨w.heap.size, 1, none⟩ = some (.slice x0.a o0.ol.length x0.c) := Pk.cell_at m238 1
            have c250 : v17h.cell? ⟨w.heap.size, 2, none⟩ = some (.slice x0.b o0.sl.length x0.d) := Pk.cell_at m238 2
            have c251 : v17h.cell? ⟨w.heap.size + 1, 0, none⟩ = some (.int .i64 o1.ve) := Pk.cell_at m239 0
            have c252 : v17h.cell? ⟨w.heap.size + 1, 1, none⟩ = some (.slice x1.a o1.ol.length x1.c) := Pk.cell_at m239 1
            have c253 : v17h.cell? ⟨w.heap.size + 1, 2, none⟩ = some (.slice x1.b o1.sl.length x1.d) := Pk.cell_at m239 2
            go_wp2
            go_cut [13] from 14 (fun t wc => ∃ (yT : Hn.Pl) (AT : Nat), t = .pointer (some ⟨AT, 0, none⟩) ∧ Hid (wc.heap[AT]? = some (Hn.ceB yT R 30) ∧ Hn.In wc yT R ∧ Below v17h.heap.size v17h wc ∧ v17h.heap.size ≤ AT))
            case first =>
              have nav17h : v17h.heap.size ≠ w.heap.size := Nat.ne_of_gt (Pk.lt_of m238)
              have nbv17h : v17h.heap.size ≠ w.heap.size + 1 := Nat.ne_of_gt (Pk.lt_of m239)
              go_region_held3 (fun w' => w'.cell? ⟨w.heap.size, 0, none⟩ = some (.int .i64 o0.ve) ∧ w'.cell? ⟨w.heap.size, 1, none⟩ = some (.slice x0.a o0.ol.length x0.c) ∧ w'.cell? ⟨w.heap.size, 2, none⟩ = some (.slice x0.b o0.sl.length x0.d) ∧ w'.cell? ⟨w.heap.size + 1, 0, none⟩ = some (.int .i64 o1.ve) ∧ w'.cell? ⟨w.heap.size + 1, 1, none⟩ = some (.slice x1.a o1.ol.length x1.c) ∧ w'.cell? ⟨w.heap.size + 1, 2, none⟩ = some (.slice x1.b o1.sl.length x1.d)) (go_keep) (first
                | (go_at_call 11; (with_reducible refine (HTO.out _ ?_).mono ?_); (first | with_reducible exact I.on L246 | with_reducible exact I.on L246.drew | with_reducible exact I.on (Pk.join_below L246 (Pk.new_below _ _)) | with_reducible exact I.on (Pk.join_below L246 (Pk.new_below _ _)).drew | with_reducible exact I.on (Pk.join_below L246.drew (Pk.new_below _ _))); rintro e n1 ⟨yA, ga, gb, rfl, M0, JA, -, -, -, yAc, yAd, -⟩; have M1 : Below v17h.heap.size v17h n1 := (by first | with_reducible exact M0 | with_reducible exact Pk.join_below (Pk.new_below _ _) M0 | with_reducible exact ((Below.refl _ _).drew).trans M0 | exact ((Pk.new_below v17h (.cells #[.int .i64 0, .slice none 0 0, .slice none 0 0] 30)).drew).trans (M0.mono (Pk.new_below v17h (.cells #[.int .i64 0, .slice none 0 0, .slice none 0 0] 30)).size) | exact ((Below.refl _ v17h).drew).trans ((Pk.new_below v17h.drew (.cells #[.int .i64 0, .slice none 0 0, .slice none 0 0] 30)).trans (M0.mono (Pk.new_below v17h.drew (.cells #[.int .i64 0, .slice none 0 0, .slice none 0 0] 30)).size)) | exact ((Below.refl _ _).drew).trans M0); have FA : Hid (Hn.Flat yA) := ⟨⟨_, _, yAc⟩, ⟨_, _, yAd⟩⟩; clear yAc yAd; (first | (have zb : n1.heap[v17h.heap.size]? = some (.cells #[.int .i64 0, .slice none 0 0, .slice none 0 0] 30) := Pk.kept M0 (Pk.lt_of (Pk.heap_new v17h (.cells #[.int .i64 0, .slice none 0 0, .slice none 0 0] 30))) (Pk.heap_new v17h (.cells #[.int .i64 0, .slice none 0 0, .slice none 0 0] 30))) | (have zb : n1.heap[v17h.heap.size]? = some (.cells #[.int .i64 0, .slice none 0 0, .slice none 0 0] 30) := Pk.kept M0 (Pk.lt_of (Pk.heap_new v17h.drew (.cells #[.int .i64 0, .slice none 0 0, .slice none 0 0] 30))) (Pk.heap_new v17h.drew (.cells #[.int .i64 0, .slice none 0 0, .slice none 0 0] 30))) | skip); have pa := Pk.kept M1 (Pk.lt_of m238) m238; have pb := Pk.kept M1 (Pk.lt_of m239) m239; have nan1 : n1.heap.size ≠ w.heap.size := Nat.ne_of_gt (Pk.lt_of pa); have nbn1 : n1.heap.size ≠ w.heap.size + 1 := Nat.ne_of_gt (Pk.lt_of pb); have ra0 : n1.cell? ⟨w.heap.size, 0, none⟩ = some (.int .i64 o0.ve) := Pk.cell_at pa 0; have ra1 : n1.cell? ⟨w.heap.size, 1, none⟩ = some (.slice x0.a o0.ol.length x0.c) := Pk.cell_at pa 1; have ra2 : n1.cell? ⟨w.heap.size, 2, none⟩ = some (.slice x0.b o0.sl.length x0.d) := Pk.cell_at pa 2; have rb0 : n1.cell? ⟨w.heap.size + 1, 0, none⟩ = some (.int .i64 o1.ve) := Pk.cell_at pb 0; have rb1 : n1.cell? ⟨w.heap.size + 1, 1, none⟩ = some (.slice x1.a o1.ol.length x1.c) := Pk.cell_at pb 1; have rb2 : n1.cell? ⟨w.heap.size + 1, 2, none⟩ = some (.slice x1.b o1.sl.length x1.d) := Pk.cell_at pb 2; clear M0 pa pb)
                | (go_at_call 11; (with_reducible refine (HTP.out _ ?_).mono ?_); (first | with_reducible exact J.on (Pk.join_below L246 M1) | with_reducible exact J.on (Pk.join_below L246 M1).drew | with_reducible exact J.on (Pk.join_below (Pk.join_below L246 M1) (Pk.new_below _ _)) | with_reducible exact J.on (Pk.join_below (Pk.join_below L246 M1) (Pk.new_below _ _)).drew | with_reducible exact J.on (Pk.join_below (Pk.join_below L246 M1).drew (Pk.new_below _ _))); rintro e n2 ⟨yB, gc, gd, rfl, M0, JB, -, -, -, yBc, yBd, -⟩; have M2 : Below n1.heap.size n1 n2 := (by first | with_reducible exact M0 | with_reducible exact Pk.join_below (Pk.new_below _ _) M0 | with_reducible exact ((Below.refl _ _).drew).trans M0 | exact ((Pk.new_below n1 (.cells #[.int .i64 0, .slice none 0 0, .slice none 0 0] 30)).drew).trans (M0.mono (Pk.new_below n1 (.cells #[.int .i64 0, .slice none 0 0, .slice none 0 0] 30)).size) | exact ((Below.refl _ n1).drew).trans ((Pk.new_below n1.drew (.cells #[.int .i64 0, .slice none 0 0, .slice none 0 0] 30)).trans (M0.mono (Pk.new_below n1.drew (.cells #[.int .i64 0, .slice none 0 0, .slice none 0 0] 30)).size)) | exact ((Below.refl _ _).drew).trans M0); have FB : Hid (Hn.Flat yB) := ⟨⟨_, _, yBc⟩, ⟨_, _, yBd⟩⟩; clear yBc yBd; (first | (have zc : n2.heap[v17h.heap.size]? = some (.cells #[.int .i64 0, .slice none 0 0, .slice none 0 0] 30) := Pk.kept M2 (Pk.lt_of zb) zb; clear zb) | (have zc : n2.heap[n1.heap.size]? = some (.cells #[.int .i64 0, .slice none 0 0, .slice none 0 0] 30) := Pk.kept M0 (Pk.lt_of (Pk.heap_new n1 (.cells #[.int .i64 0, .slice none 0 0, .slice none 0 0] 30))) (Pk.heap_new n1 (.cells #[.int .i64 0, .slice none 0 0, .slice none 0 0] 30))) | (have zc : n2.heap[n1.heap.size]? = some (.cells #[.int .i64 0, .slice none 0 0, .slice none 0 0] 30) := Pk.kept M0 (Pk.lt_of (Pk.heap_new n1.drew (.cells #[.int .i64 0, .slice none 0 0, .slice none 0 0] 30))) (Pk.heap_new n1.drew (.cells #[.int .i64 0, .slice none 0 0, .slice none 0 0] 30))) | skip); have M12 := Pk.join_below M1 M2; have JA2 := JA.on M2; have pa := Pk.kept M12 (Pk.lt_of m238) m238; have pb := Pk.kept M12 (Pk.lt_of m239) m239; have nan2 : n2.heap.size ≠ w.heap.size := Nat.ne_of_gt (Pk.lt_of pa); have nbn2 : n2.heap.size ≠ w.heap.size + 1 := Nat.ne_of_gt (Pk.lt_of pb); have ra0 : n2.cell? ⟨w.heap.size, 0, none⟩ = some (.int .i64 o0.ve) := Pk.cell_at pa 0; have ra1 : n2.cell? ⟨w.heap.size, 1, none⟩ = some (.slice x0.a o0.ol.length x0.c) := Pk.cell_at pa 1; have ra2 : n2.cell? ⟨w.heap.size, 2, none⟩ = some (.slice x0.b o0.sl.length x0.d) := Pk.cell_at pa 2; have rb0 : n2.cell? ⟨w.heap.size + 1, 0, none⟩ = some (.int .i64 o1.ve) := Pk.cell_at pb 0; have rb1 : n2.cell? ⟨w.heap.size + 1, 1, none⟩ = some (.slice x1.a o1.ol.length x1.c) := Pk.cell_at pb 1; have rb2 : n2.cell? ⟨w.heap.size + 1, 2, none⟩ = some (.slice x1.b o1.sl.length x1.d) := Pk.cell_at pb 2; clear M0 pa pb JA)
                | (go_at_call 31; (with_reducible refine (HI.out yA yB _ ?_ FA.out ?_ FB.out).mono ?_); (first | with_reducible exact JA2.on (Below.refl n2.heap.size n2) | with_reducible exact JA2.on (Below.refl n2.heap.size n2).drew | with_reducible exact JA2.on (Pk.join_below (Below.refl n2.heap.size n2) (Pk.new_below _ _)) | with_reducible exact JA2.on (Pk.join_below (Below.refl n2.heap.size n2) (Pk.new_below _ _)).drew | with_reducible exact JA2.on (Pk.join_below (Below.refl n2.heap.size n2).drew (Pk.new_below _ _))); (first | with_reducible exact JB.on (Below.refl n2.heap.size n2) | with_reducible exact JB.on (Below.refl n2.heap.size n2).drew | with_reducible exact JB.on (Pk.join_below (Below.refl n2.heap.size n2) (Pk.new_below _ _)) | with_reducible exact JB.on (Pk.join_below (Below.refl n2.heap.size n2) (Pk.new_below _ _)).drew | with_reducible exact JB.on (Pk.join_below (Below.refl n2.heap.size n2).drew (Pk.new_below _ _))); rintro e n3 ⟨yT, rfl, CT, M0⟩; have M3 : Below n2.heap.size n2 n3 := (by first | with_reducible exact M0 | with_reducible exact Pk.join_below (Pk.new_below _ _) M0 | with_reducible exact ((Below.refl _ _).drew).trans M0 | exact ((Pk.new_below n2 (.cells #[.int .i64 0, .slice none 0 0, .slice none 0 0] 30)).drew).trans (M0.mono (Pk.new_below n2 (.cells #[.int .i64 0, .slice none 0 0, .slice none 0 0] 30)).size) | exact ((Below.refl _ n2).drew).trans ((Pk.new_below n2.drew (.cells #[.int .i64 0, .slice none 0 0, .slice none 0 0] 30)).trans (M0.mono (Pk.new_below n2.drew (.cells #[.int .i64 0, .slice none 0 0, .slice none 0 0] 30)).size)) | exact ((Below.refl _ _).drew).trans M0); (first | (have zd : n3.heap[v17h.heap.size]? = some (.cells #[.int .i64 0, .slice none 0 0, .slice none 0 0] 30) := Pk.kept M3 (Pk.lt_of zc) zc; have z0 : n3.cell? ⟨v17h.heap.size, 0, none⟩ = some (.int .i64 0) := Pk.cell_at zd 0; have z1 : n3.cell? ⟨v17h.heap.size, 1, none⟩ = some (.slice none 0 0) := Pk.cell_at zd 1; have z2 : n3.cell? ⟨v17h.heap.size, 2, none⟩ = some (.slice none 0 0) := Pk.cell_at zd 2; have y0 : n3.frozen? ⟨v17h.heap.size, 0, none⟩ = false := Pk.frozen_at zd 0; have y1 : n3.frozen? ⟨v17h.heap.size, 1, none⟩ = false := Pk.frozen_at zd 1; have y2 : n3.frozen? ⟨v17h.heap.size, 2, none⟩ = false := Pk.frozen_at zd 2) | (have zd : n3.heap[n1.heap.size]? = some (.cells #[.int .i64 0, .slice none 0 0, .slice none 0 0] 30) := Pk.kept M3 (Pk.lt_of zc) zc; have z0 : n3.cell? ⟨n1.heap.size, 0, none⟩ = some (.int .i64 0) := Pk.cell_at zd 0; have z1 : n3.cell? ⟨n1.heap.size, 1, none⟩ = some (.slice none 0 0) := Pk.cell_at zd 1; have z2 : n3.cell? ⟨n1.heap.size, 2, none⟩ = some (.slice none 0 0) := Pk.cell_at zd 2; have y0 : n3.frozen? ⟨n1.heap.size, 0, none⟩ = false := Pk.frozen_at zd 0; have y1 : n3.frozen? ⟨n1.heap.size, 1, none⟩ = false := Pk.frozen_at zd 1; have y2 : n3.frozen? ⟨n1.heap.size, 2, none⟩ = false := Pk.frozen_at zd 2) | ((first | (have zd : n3.heap[n2.heap.size]? = some (.cells #[.int .i64 0, .slice none 0 0, .slice none 0 0] 30) := Pk.kept M0 (Pk.lt_of (Pk.heap_new n2 (.cells #[.int .i64 0, .slice none 0 0, .slice none 0 0] 30))) (Pk.heap_new n2 (.cells #[.int .i64 0, .slice none 0 0, .slice none 0 0] 30))) | (have zd : n3.heap[n2.heap.size]? = some (.cells #[.int .i64 0, .slice none 0 0, .slice none 0 0] 30) := Pk.kept M0 (Pk.lt_of (Pk.heap_new n2.drew (.cells #[.int .i64 0, .slice none 0 0, .slice none 0 0] 30))) (Pk.heap_new n2.drew (.cells #[.int .i64 0, .slice none 0 0, .slice none 0 0] 30)))); have z0 : n3.cell? ⟨n2.heap.size, 0, none⟩ = some (.int .i64 0) := Pk.cell_at zd 0; have z1 : n3.cell? ⟨n2.heap.size, 1, none⟩ = some (.slice none 0 0) := Pk.cell_at zd 1; have z2 : n3.cell? ⟨n2.heap.size, 2, none⟩ = some (.slice none 0 0) := Pk.cell_at zd 2; have y0 : n3.frozen? ⟨n2.heap.size, 0, none⟩ = false := Pk.frozen_at zd 0; have y1 : n3.frozen? ⟨n2.heap.size, 1, none⟩ = false := Pk.frozen_at zd 1; have y2 : n3.frozen? ⟨n2.heap.size, 2, none⟩ = false := Pk.frozen_at zd 2) | skip); have M13 := Pk.join_below M12 M3; have pa := Pk.kept M13 (Pk.lt_of m238) m238; have pb := Pk.kept M13 (Pk.lt_of m239) m239; have nan3 : n3.heap.size ≠ w.heap.size := Nat.ne_of_gt (Pk.lt_of pa); have nbn3 : n3.heap.size ≠ w.heap.size + 1 := Nat.ne_of_gt (Pk.lt_of pb); have ra0 : n3.cell? ⟨w.heap.size, 0, none⟩ = some (.int .i64 o0.ve) := Pk.cell_at pa 0; have ra1 : n3.cell? ⟨w.heap.size, 1, none⟩ = some (.slice x0.a o0.ol.length x0.c) := Pk.cell_at pa 1; have ra2 : n3.cell? ⟨w.heap.size, 2, none⟩ = some (.slice x0.b o0.sl.length x0.d) := Pk.cell_at pa 2; have rb0 : n3.cell? ⟨w.heap.size + 1, 0, none⟩ = some (.int .i64 o1.ve) := Pk.cell_at pb 0; have rb1 : n3.cell? ⟨w.heap.size + 1, 1, none⟩ = some (.slice x1.a o1.ol.length x1.c) := Pk.cell_at pb 1; have rb2 : n3.cell? ⟨w.heap.size + 1, 2, none⟩ = some (.slice x1.b o1.sl.length x1.d) := Pk.cell_at pb 2; clear pa pb))
              all_goals
                go_wp2
                go_meet
                case rel => first | exact ⟨yT, _, rfl, ⟨Pk.heap_new n3 _, CT.in.on (Pk.new_below n3 _), Pk.join_below M13 (Pk.new_below n3 _), M13.size⟩⟩ | exact ⟨yT, n2.heap.size, rfl, ⟨(put3 CT zd).1, (put3 CT zd).2, (((M13.setCell (p := ⟨n2.heap.size, 0, none⟩) M12.size _).setCell (p := ⟨n2.heap.size, 1, none⟩) M12.size _).setCell (p := ⟨n2.heap.size, 2, none⟩) M12.size _), M12.size⟩⟩ | exact ⟨yT, n1.heap.size, rfl, ⟨(put3 CT zd).1, (put3 CT zd).2, (((M13.setCell (p := ⟨n1.heap.size, 0, none⟩) M1.size _).setCell (p := ⟨n1.heap.size, 1, none⟩) M1.size _).setCell (p := ⟨n1.heap.size, 2, none⟩) M1.size _), M1.size⟩⟩ | exact ⟨yT, v17h.heap.size, rfl, ⟨(put3 CT zd).1, (put3 CT zd).2, (((M13.setCell (p := ⟨v17h.heap.size, 0, none⟩) (Nat.le_refl _) _).setCell (p := ⟨v17h.heap.size, 1, none⟩) (Nat.le_refl _) _).setCell (p := ⟨v17h.heap.size, 2, none⟩) (Nat.le_refl _) _), (Nat.le_refl _)⟩⟩
            case rest =>
              obtain ⟨yH, AH, rfl, HCUT⟩ := hcut
              obtain ⟨mAH, IyH, LH, hAH⟩ := HCUT.out
              clear HCUT
              clear c248 c249 c250 c251 c252 c253
              obtain ⟨wh, hwn⟩ : ∃ q, q = wc := ⟨_, rfl⟩
              subst hwn
              have m254 := Pk.kept LH (Pk.lt_of m238) m238
              clear m238
              have m255 := Pk.kept LH (Pk.lt_of m239) m239
              clear m239
              have m256 := Pk.kept LH (Pk.lt_of m240) m240
              clear m240
              have m257 := Pk.kept LH (Pk.lt_of m241) m241
              clear m241
              have m258 := Pk.kept LH (Pk.lt_of m242) m242
              clear m242
              have m259 := Pk.kept LH (Pk.lt_of m243) m243
              clear m243
              have i260 := i244.on LH
              clear i244
              have i261 := i245.on LH
              clear i245
              have L262 := Pk.join_below L246 LH
              clear L246
              have hs263 : v17h.heap.size ≤ wh.heap.size := LH.size
              have hltAH := Pk.lt_of mAH
              have c264 : wh.cell? ⟨AH, 0, none⟩ = some (.int .i64 R.ve) := Pk.cell_at mAH 0
              have c265 : wh.cell? ⟨AH, 1, none⟩ = some (.slice yH.a R.ol.length yH.c) := Pk.cell_at mAH 1
              have c266 : wh.cell? ⟨AH, 2, none⟩ = some (.slice yH.b R.sl.length yH.d) := Pk.cell_at mAH 2
              have c267 : wh.cell? ⟨AS, 0, none⟩ = some (.int .i64 R.ve) := Pk.cell_at m256 0
              have c268 : wh.cell? ⟨AS, 1, none⟩ = some (.slice yS.a R.ol.length yS.c) := Pk.cell_at m256 1
              have c269 : wh.cell? ⟨AS, 2, none⟩ = some (.slice yS.b R.sl.length yS.d) := Pk.cell_at m256 2
              go_wp2_with fail
              refine (HE.out yH yS _ IyH i260).mono ?_
              clear c264 c265 c266 c267 c268 c269
              rintro e v22 ⟨rfl, Lv22⟩
              have m270 := Pk.kept Lv22 (Pk.lt_of m254) m254
              clear m254
              have m271 := Pk.kept Lv22 (Pk.lt_of m255) m255
              clear m255
              have m272 := Pk.kept Lv22 (Pk.lt_of m256) m256
              clear m256
              have m273 := Pk.kept Lv22 (Pk.lt_of m257) m257
              clear m257
              have m274 := Pk.kept Lv22 (Pk.lt_of m258) m258
              clear m258
              have m275 := Pk.kept Lv22 (Pk.lt_of m259) m259
              clear m259
              have m276 := Pk.kept Lv22 (Pk.lt_of mAH) mAH
              clear mAH
              have i277 := i260.on Lv22
              clear i260
              have i278 := IyH.on Lv22
              clear IyH
              have i279 := i261.on Lv22
              clear i261
              have L280 := Pk.join_below L262 Lv22
              clear L262
              have hs281 : wh.heap.size ≤ v22.heap.size := Lv22.size
              have c282 : v22.cell? ⟨v9.heap.size, 0, none⟩ = some (.int .i64 R.ve) := Pk.cell_at m275 0
              have c283 : v22.cell? ⟨v9.heap.size, 1, none⟩ = some (.slice yG.a R.ol.length yG.c) := Pk.cell_at m275 1
              have c284 : v22.cell? ⟨v9.heap.size, 2, none⟩ = some (.slice yG.b R.sl.length yG.d) := Pk.cell_at m275 2
              go_wp2_with fail
              refine (Hn.heldCentre_val yG R gG1 gG2 _ HZ.out.1 (by have := HZ.out.2; omega) (HG1.out.imp_right fun h => h.1) (HG2.out.imp_right fun h => h.1) i279).mono ?_
              clear c282 c283 c284
              rintro e v23 ⟨rfl, Lv23⟩
              have m285 := Pk.kept Lv23 (Pk.lt_of m270) m270
              clear m270
              have m286 := Pk.kept Lv23 (Pk.lt_of m271) m271
              clear m271
              have m287 := Pk.kept Lv23 (Pk.lt_of m272) m272
              clear m272
              have m288 := Pk.kept Lv23 (Pk.lt_of m273) m273
              clear m273
              have m289 := Pk.kept Lv23 (Pk.lt_of m274) m274
              clear m274
              have m290 := Pk.kept Lv23 (Pk.lt_of m275) m275
              clear m275
              have m291 := Pk.kept Lv23 (Pk.lt_of m276) m276
              clear m276
              have i292 := i277.on Lv23
              clear i277
              have i293 := i278.on Lv23
              clear i278
              have i294 := i279.on Lv23
              clear i279
              have L295 := Pk.join_below L280 Lv23
              clear L280
              have hs296 : v22.heap.size ≤ v23.heap.size := Lv23.size
              go_wp2
              go_ret
              exact ⟨rfl, L295⟩
    · have N := Pk.join_below (Pk.new_below w (Hn.ceB x0 o0 25)) (Pk.new_below _ (Hn.ceB x1 o1 25))
      have m := Pk.heap_new (w.alloc (Hn.ceB x0 o0 25)) (Hn.ceB x1 o1 25)
      rw [show (w.alloc (Hn.ceB x0 o0 25)).heap.size = w.heap.size + 1 from Array.size_push ..] at m
      have HSZ : Hid (∀ (W : World), _) := fun W => Hn.szCentre_yes x0 o0 1048576 W (by omega) hb
      have hd0 : decide (1048576 - (o0.ol.length : Int) - (o0.sl.length : Int) < 0) = false := decide_eq_false (by omega)
      have HB : Hid (1048576 - (o0.ol.length : Int) - (o0.sl.length : Int) ≤ 1048576 ∧ 0 ≤ 1048576 - (o0.ol.length : Int) - (o0.sl.length : Int)) := ⟨by omega, by omega⟩
      have HB2 : Hid (_) := hb2
      clear hb hb2
      go_enter Try.func7, Try.ntmps7
      go_wp2_with fail
      refine (HSZ.out _).mono ?_
      rintro e w1 ⟨rfl, L1⟩
      have m2 := Pk.kept L1 (Pk.lt_of m) m
      have c0 : w1.cell? ⟨w.heap.size + 1, 0, none⟩ = some (.int .i64 o1.ve) := Pk.cell_at m2 0
      have c1 : w1.cell? ⟨w.heap.size + 1, 1, none⟩ = some (.slice x1.a o1.ol.length x1.c) := Pk.cell_at m2 1
      have c2 : w1.cell? ⟨w.heap.size + 1, 2, none⟩ = some (.slice x1.b o1.sl.length x1.d) := Pk.cell_at m2 2
      clear m m2
      go_wp2_with fail
      refine (Hn.szCentre_no x1 o1 _ _ HB.out.1 HB.out.2 HN.out.1 HN.out.2 HB2.out).mono ?_
      rintro e w2 ⟨rfl, L2⟩
      go_wp2
      go_ret
      exact ⟨rfl, Pk.join_below (Pk.join_below N L1) L2⟩
  · have N := Pk.join_below (Pk.new_below w (Hn.ceB x0 o0 25)) (Pk.new_below _ (Hn.ceB x1 o1 25))
    have HB : Hid (¬ (o0.ol.length : Int) + (o0.sl.length : Int) ≤ 1048576) := hb
    clear hb
    go_enter Try.func7, Try.ntmps7
    go_wp2_with fail
    refine (Hn.szCentre_no x0 o0 1048576 _ (by omega) (by omega) HM.out.1 HM.out.2 (by have := HB.out; omega)).mono ?_
    rintro e w1 ⟨rfl, L1⟩
    go_wp2
    go_ret
    exact ⟨rfl, Pk.join_below N L1⟩

set_option maxRecDepth 100000 in
theorem contract (H : Type) (enc : TypeId × Value → H) (W : World) (base : Nat) (args : Array Value) (ds gs : List (DataW H)) (before : List MemPlace)
    (hval : ∀ (j : Nat) t v, Try.f7.params[j]? = some t → args[j]? = some v → Value.okWide Try.prog W .any base t v)
    (hW : DataW.Whole enc Try.prog Try.f7.params.toList Rows.fnExactMergeSpec.vars false W args.toList ds gs before) :
    Calls Try.prog 7 args W fun e W' => ∃ v, e = .returned v ∧ Rows.fnExactMergeSpec.post enc Try.prog Try.f7 false true false false W args v W' := by
  have hW' := hW
  obtain ⟨p, q, hA0, hV, rfl, hfz, hnd⟩ := hW
  have hA : DataW.TrodAll enc Try.prog W 0 (fun _ => true) true Try.f7.params.toList args.toList ds p := hA0
  rw [Try.params7] at hA hval
  obtain ⟨v0, vs0, d0, ds0, p0, q0, hargs, rfl, rfl, h0, r0⟩ := trodAll_cons hA
  obtain ⟨v1, vs1, d1, ds1, p1, q1, rfl, rfl, rfl, h1, r1⟩ := trodAll_cons r0
  obtain ⟨rfl, rfl, rfl⟩ := trodAll_nil r1
  obtain rfl : args = #[v0, v1] := by cases args; simp_all
  obtain ⟨rfl, rfl⟩ := trodVars_none hV
  have k0 := h0
  have lt0 : ∀ x ∈ p0, x.block < W.heap.size := by obtain ⟨m, hm⟩ := k0; exact DataW.trod_lt m _ _ _ hm
  obtain ⟨x0, o0, rfl, w0i, w0l⟩ := Hn.centre_open (hval 0 25 v0 rfl rfl) h0
  have k1 := h1
  have lt1 : ∀ x ∈ p1, x.block < W.heap.size := by obtain ⟨m, hm⟩ := k1; exact DataW.trod_lt m _ _ _ hm
  obtain ⟨x1, o1, rfl, w1i, w1l⟩ := Hn.centre_open (hval 1 25 v1 rfl rfl) h1
  clear hA0
  refine (walk x0 o0 x1 o1 W ⟨w0i, w0l⟩ ⟨w1i, w1l⟩  ).mono fun e W' ⟨he, bel⟩ => ?_
  subst he
  exact ⟨_, rfl, _, _, _, [], _, [], hW', trodAll_mk1 (shut_bool Try.underlying4 _), (trodAll_cons_mk (Below.trod Errs.laidOut (by kernel_rfl) (of_decide_eq_true (by kernel_rfl)) k0 bel lt0) (trodAll_cons_mk (Below.trod Errs.laidOut (by kernel_rfl) (of_decide_eq_true (by kernel_rfl)) k1 bel lt1) trodAll_mk0)), rfl, bel.frame _, fun h => by cases h⟩

set_option maxRecDepth 100000 in
theorem lifted (os : Os) (started : os.Started) (H : Type) (enc : TypeId × Value → H) :
    ReturnsInHanded {} Try.checked os 7 .any (Rows.fnExactMergeSpec.pre6 enc Try.prog Try.f7 Rows.fnExactMergeRow.domain false) (Rows.fnExactMergeSpec.post enc Try.prog Try.f7 false true false false) := by
  refine returnsInHanded_of_change (C := Try.checked) Errs.own started (by kernel_rfl) Try.func7
    (ChangeSpec.witness6 (enc := enc) (C := Try.checked) false ⟨#[], #[.agg #[.int .i64 0, .slice none 0 0, .slice none 0 0], .agg #[.int .i64 0, .slice none 0 0, .slice none 0 0]], []⟩ 8 (by kernel_rfl) (by kernel_rfl) (by kernel_rfl) (by kernel_rfl)) ?_
  intro W base args ds gs before hval hW _ _
  exact contract H enc W base args ds gs before hval hW

set_option maxRecDepth 100000 in
theorem over : Rows.fnExactMergeRow.holds Try.pinned (OpenSpec.ofChange Rows.fnExactMergeSpec) :=
  OpenClaim.holds_of_wide 7 Try.f7 rfl rfl rfl rfl rfl rfl rfl ⟨rfl, rfl, rfl, rfl, rfl⟩ rfl rfl rfl rfl rfl (by kernel_rfl) Try.func7 (by kernel_rfl)
    (of_decide_eq_true (by kernel_rfl)) (by unfold Func.isWrapper; first | (rw [if_pos (by decide +kernel)]; kernel_rfl) | (rw [if_neg (by decide +kernel)]; exact ⟨rfl, rfl⟩))
    (fun os started H enc _ => lifted os started H enc)
end Go.Proofs.Ytjjfleepnjhamaa.fnExactMerge
namespace Go.Proofs.Ytjjfleepnjhamaa
theorem FnExactMerge_holds : Rows.FnExactMergeSaid := fnExactMerge.over
end Go.Proofs.Ytjjfleepnjhamaa

/- For every parameters, open key, issuer and text the law of Read answers true: the program's Read and its model return the same ticket and the same code, the program's ticket lies in memory of its own, and a further call leaves it as it was. The program's own errors and its table of runs, and the tables of the library that are listed, are as their text lays them (the card ties them; over a pruned copy of the project). -/
import Derived.Test.YtcifgableeeooalGreatDoorErrs
import Derived.Test.YtcifgableeeooalGreatDoorManyAFnExactRead
import Derived.ShutString
import Derived.Lib.SmallJoins
import Derived.Test.YtcifgableeeooalGreatDoorCards
import Derived.Test.YtcifgableeeooalGreatDoorTie
import Derived.Test.YtcifgableeeooalGreatDoorManyBFnExactRead
namespace Go.Proofs.YtcifgableeeooalGreatDoor.fnExactRead
open Go.ChangeShapes Go.WideShapes Go.ChangeAt Go.RowKit Go.Joins
open Go.ChangeMaps (open_string shut_string)
set_option linter.unusedVariables false
set_option linter.unusedSimpArgs false

set_option maxRecDepth 100000 in
set_option maxHeartbeats 8000000 in
theorem walk (a0_0 : Int) (w0_0 : (Lit.int .i64 a0_0).wf = true) (a0_1 : Int) (w0_1 : (Lit.int .i64 a0_1).wf = true) (a0_2 : Int) (w0_2 : (Lit.int .i64 a0_2).wf = true) (a1 : Int) (w1 : (Lit.int .i64 a1).wf = true) (a2 : Int) (w2 : (Lit.int .i64 a2).wf = true) (a3 : ByteArray) (w3 : a3.size ≤ maxLen) (w : World)  (T : Num.Tens w) (E_errParams : Errs.ErrAt 2 w) (E_errOpen : Errs.ErrAt 3 w) (E_errMark : Errs.ErrAt 4 w) (E_errText : Errs.ErrAt 1 w) (R : Pk.Runs w) (SH : w.ShapedOpen Tryz.prog) :
    Calls Tryz.prog 4 #[.agg #[.int .i64 a0_0, .int .i64 a0_1, .int .i64 a0_2], .int .i64 a1, .int .i64 a2, .string a3] w fun e w' => e = .returned (.bool true) ∧ Below w.heap.size w w' := by
  by_cases hb : a3.size ≤ 1048576
  · obtain ⟨t0, nm0, ls0, ok, hl60, H⟩ := Gt.get_one (Fr.fP a3)
    have ML0 := Gt.ml_of SH
    have HS : Hid (∀ W : World, _) := fun W => Re.specRead_val a0_0 a0_1 a0_2 a1 a2 a3 W hb H
    have HI : Hid (∀ W : World, Pk.Runs W → Errs.ErrAt 2 W → Errs.ErrAt 3 W → Errs.ErrAt 4 W → Errs.ErrAt 1 W → Gt.ML W → Num.Tens W → _) := fun W h0 h1 h2 h3 h4 h5 h6 => Re.implRead_val a0_0 a0_1 a0_2 a1 a2 a3 W hb H h0 h1 h2 h3 h4 h5 h6
    have hl6 := Re.rL_len (c := Re.rC a0_0 a0_1 a0_2 a1 a2 a3 ok) hl60
    have hRL := R.lt
    generalize Re.rC a0_0 a0_1 a0_2 a1 a2 a3 ok = C at *
    generalize Re.rT C t0 = t at *
    generalize Re.rN C nm0 = nm at *
    generalize Re.rL C ls0 = ls at *
    have NP := Pk.new_below w (.cells #[.int .i64 a0_0, .int .i64 a0_1, .int .i64 a0_2] 23)
    have pmo := Pk.heap_new w (.cells #[.int .i64 a0_0, .int .i64 a0_1, .int .i64 a0_2] 23)
    have HE : Hid (∀ W a b c1 c2, Tk.Legs W a ls → Tk.Legs W b ls → _) := fun W a b c1 c2 h1 h2 => Tk.eqTicket_same t nm a b ls c1 c2 W (by omega) h1 h2
    have hnb : ((C : Int) != (C : Int)) = false := by simp
    have hd : decide (1 + 6 * (ls.length : Int) < 0) = false := decide_eq_false (by omega)
    unfold Tk.tkV at HE
    clear H
    go_enter Tryz.func4, Tryz.ntmps4
    go_wp2_with fail
    refine (Num.toParams_val a0_0 a0_1 a0_2 _).mono ?_
    generalize w.alloc (.cells #[.int .i64 a0_0, .int .i64 a0_1, .int .i64 a0_2] 23) = wp at *
    rintro e v1 ⟨rfl, Lv1⟩
    have pmq := Pk.kept Lv1 (Pk.lt_of pmo) pmo
    have L0 := Pk.join_below NP Lv1
    go_wp2_with fail
    refine (HS.out _).mono ?_
    rintro e w1 ⟨⟨a1, c1, rfl, O1⟩, L1q⟩
    have pmr := Pk.kept L1q (Pk.lt_of pmq) pmq
    have L1 := Pk.join_below L0 L1q
    have N1 := Pk.new_below w1 (Tk.tkB t nm a1 ls.length c1 35)
    have m1 := Pk.heap_new w1 (Tk.tkB t nm a1 ls.length c1 35)
    have O1' := Pk.own_below O1 N1 (Nat.le_refl _)
    have K1 := Pk.join_below L1 N1
    have pms := Pk.kept N1 (Pk.lt_of pmr) pmr
    have pc0 : (w1.alloc (Tk.tkB t nm a1 ls.length c1 35)).cell? ⟨w.heap.size, 0, none⟩ = some (.int .i64 a0_0) := Pk.cell_at pms 0
    have pc1 : (w1.alloc (Tk.tkB t nm a1 ls.length c1 35)).cell? ⟨w.heap.size, 1, none⟩ = some (.int .i64 a0_1) := Pk.cell_at pms 1
    have pc2 : (w1.alloc (Tk.tkB t nm a1 ls.length c1 35)).cell? ⟨w.heap.size, 2, none⟩ = some (.int .i64 a0_2) := Pk.cell_at pms 2
    go_wp2_with fail
    refine (Num.toParams_val a0_0 a0_1 a0_2 _).mono ?_
    generalize w1.alloc (Tk.tkB t nm a1 ls.length c1 35) = w2 at *
    generalize hP1 : w1.heap.size = P1 at *
    rintro e u2 ⟨rfl, Lu2⟩
    have pm := Pk.kept Lu2 (Pk.lt_of pms) pms
    have Ku := Pk.join_below K1 Lu2
    clear pc0 pc1 pc2 pms pmr pmq pmo
    go_wp2_with fail
    refine (HI.out _ (R.on Ku hRL) (E_errParams.on Ku) (E_errOpen.on Ku) (E_errMark.on Ku) (E_errText.on Ku) (ML0.on Ku) (T.on Ku)).mono ?_
    rintro e w3 ⟨⟨a2, c2, rfl, O2⟩, L3q⟩
    have L3 := Pk.join_below Lu2 L3q
    have hu2 : w2.heap.size ≤ u2.heap.size := Lu2.size
    have hu3 : u2.heap.size ≤ w3.heap.size := L3q.size
    have pmb := Pk.kept L3q (Pk.lt_of pm) pm
    have hwu : w.heap.size < u2.heap.size := Pk.lt_of pm
    have m1b := Pk.kept L3 (Pk.lt_of m1) m1
    have O1b := Pk.own_below O1' L3 (Nat.le_refl _)
    have K3 := Pk.join_below K1 L3
    have hlt1 := Pk.lt_of m1
    have HB1 : Hid (∀ k', (Value.slice a1 ls.length c1).ownBlock = some k' → k' < w2.heap.size) := fun k' h => (O1'.lt k' h).2
    have N4 := Pk.new_below w3 (Tk.tkB t nm a2 ls.length c2 35)
    have m2 := Pk.heap_new w3 (Tk.tkB t nm a2 ls.length c2 35)
    have m1c := Pk.kept N4 (Pk.lt_of m1b) m1b
    have pmc := Pk.kept N4 (Pk.lt_of pmb) pmb
    have O1c := Pk.own_below O1b N4 (Nat.le_refl _)
    have O2c := Pk.own_below O2 N4 (Nat.le_refl _)
    have K4 := Pk.join_below K3 N4
    have hb2 : w2.heap.size ≤ w3.heap.size := L3.size
    have hw2 : w.heap.size ≤ w2.heap.size := K1.size
    clear O1 L1 N1 O1' m1 K1 L3 m1b O1b K3 O2
    obtain ⟨x1, y1, e1, I1⟩ := Gt.own_legs O1c
    simp only [Value.slice.injEq, true_and] at e1
    obtain ⟨rfl, rfl⟩ := e1
    obtain ⟨x2, y2, e2, I2⟩ := Gt.own_legs O2c
    simp only [Value.slice.injEq, true_and] at e2
    obtain ⟨rfl, rfl⟩ := e2
    obtain ⟨P2, hP2⟩ : ∃ P, w3.heap.size = P := ⟨_, rfl⟩
    have s0 : (w3.alloc (Tk.tkB t nm a2 ls.length c2 35)).cell? ⟨P1, 0, none⟩ = some (.int .i64 t.id) := Pk.cell_at m1c 0
    have s1 : (w3.alloc (Tk.tkB t nm a2 ls.length c2 35)).cell? ⟨P1, 1, none⟩ = some (.string nm) := Pk.cell_at m1c 1
    have s2 : (w3.alloc (Tk.tkB t nm a2 ls.length c2 35)).cell? ⟨P1, 2, none⟩ = some (.int .i64 t.cl) := Pk.cell_at m1c 2
    have s3 : (w3.alloc (Tk.tkB t nm a2 ls.length c2 35)).cell? ⟨P1, 3, none⟩ = some (.int .i64 t.pr) := Pk.cell_at m1c 3
    have s4 : (w3.alloc (Tk.tkB t nm a2 ls.length c2 35)).cell? ⟨P1, 4, none⟩ = some (.int .i64 t.fi) := Pk.cell_at m1c 4
    have s5 : (w3.alloc (Tk.tkB t nm a2 ls.length c2 35)).cell? ⟨P1, 5, none⟩ = some (.int .i64 t.la) := Pk.cell_at m1c 5
    have s6 : (w3.alloc (Tk.tkB t nm a2 ls.length c2 35)).cell? ⟨P1, 6, none⟩ = some (.slice a1 ls.length c1) := Pk.cell_at m1c 6
    rw [hP2] at m2
    have g0 : (w3.alloc (Tk.tkB t nm a2 ls.length c2 35)).cell? ⟨P2, 0, none⟩ = some (.int .i64 t.id) := Pk.cell_at m2 0
    have g1 : (w3.alloc (Tk.tkB t nm a2 ls.length c2 35)).cell? ⟨P2, 1, none⟩ = some (.string nm) := Pk.cell_at m2 1
    have g2 : (w3.alloc (Tk.tkB t nm a2 ls.length c2 35)).cell? ⟨P2, 2, none⟩ = some (.int .i64 t.cl) := Pk.cell_at m2 2
    have g3 : (w3.alloc (Tk.tkB t nm a2 ls.length c2 35)).cell? ⟨P2, 3, none⟩ = some (.int .i64 t.pr) := Pk.cell_at m2 3
    have g4 : (w3.alloc (Tk.tkB t nm a2 ls.length c2 35)).cell? ⟨P2, 4, none⟩ = some (.int .i64 t.fi) := Pk.cell_at m2 4
    have g5 : (w3.alloc (Tk.tkB t nm a2 ls.length c2 35)).cell? ⟨P2, 5, none⟩ = some (.int .i64 t.la) := Pk.cell_at m2 5
    have g6 : (w3.alloc (Tk.tkB t nm a2 ls.length c2 35)).cell? ⟨P2, 6, none⟩ = some (.slice a2 ls.length c2) := Pk.cell_at m2 6
    go_wp2_with fail
    try rw [hP2]
    refine (HE.out _ a2 a1 c2 c1 I2 I1).mono ?_
    generalize w3.alloc (Tk.tkB t nm a2 ls.length c2 35) = w4 at *
    rintro e w5 ⟨rfl, L5⟩
    have m1d := Pk.kept L5 (Pk.lt_of m1c) m1c
    have pmd := Pk.kept L5 (Pk.lt_of pmc) pmc
    have m2d := Pk.kept L5 (Pk.lt_of m2) m2
    have O1d := Pk.own_below O1c L5 (Nat.le_refl _)
    have O2d := Pk.own_below O2c L5 (Nat.le_refl _)
    have K5 := Pk.join_below K4 L5
    have hs4 : w3.heap.size < w4.heap.size := by rw [hP2]; exact Pk.lt_of m2
    have hs5 : w4.heap.size ≤ w5.heap.size := L5.size
    obtain ⟨g, hg1, hg2, hg3, hg4⟩ := Gt.legs_blk O2d (by omega)
    have hgP1 : P1 ≠ g := by omega
    have hgP0 : w.heap.size ≠ g := by omega
    have hgP2 : P2 ≠ g := by
      rcases hg4 with h | h
      · intro e
        exact Pk.own_ne' O2d m2d (by decide) (by rw [e]; exact h)
      · omega
    have hg1n : (Value.slice a1 ls.length c1).ownBlock ≠ some g := fun h => by have := HB1.out g h; omega
    clear s0 s1 s2 s3 s4 s5 s6 g0 g1 g2 g3 g4 g5 g6 m1c m2 O1c O2c I1 I2 K4 L5 hP2
    have g0 : w5.cell? ⟨P2, 0, none⟩ = some (.int .i64 t.id) := Pk.cell_at m2d 0
    have g1 : w5.cell? ⟨P2, 1, none⟩ = some (.string nm) := Pk.cell_at m2d 1
    have g2 : w5.cell? ⟨P2, 2, none⟩ = some (.int .i64 t.cl) := Pk.cell_at m2d 2
    have g3 : w5.cell? ⟨P2, 3, none⟩ = some (.int .i64 t.pr) := Pk.cell_at m2d 3
    have g4 : w5.cell? ⟨P2, 4, none⟩ = some (.int .i64 t.fi) := Pk.cell_at m2d 4
    have g5 : w5.cell? ⟨P2, 5, none⟩ = some (.int .i64 t.la) := Pk.cell_at m2d 5
    have g6 : w5.cell? ⟨P2, 6, none⟩ = some (.slice a2 ls.length c2) := Pk.cell_at m2d 6
    have HMK : Hid (∀ _ : Unit, _) := fun _ => Gt.markTicket_val t nm a2 g ls.length c2 w5 (by omega) hg2 hg3
    unfold Tk.tkV at HMK
    go_wp2_with fail
    refine (HMK.out ()).mono ?_
    rintro e w6 ⟨rfl, B6, M6⟩
    have m1e := B6.keep m1d hgP1
    have pme := B6.keep pmd hgP0
    have m2e := B6.keep m2d hgP2
    have O1e := B6.own O1d hg1n
    have K6 := B6.below K5 K5.size (by omega)
    have hs6 : w5.heap.size ≤ w6.heap.size := B6.size
    have hg5 : ls.length = 0 ∨ (a2 = some ⟨g, 0, none⟩ ∧ g < w6.heap.size) := hg3.imp id (fun h => ⟨h.1, by omega⟩)
    clear g0 g1 g2 g3 g4 g5 g6 m1d m2d O1d O2d K5 HMK
    have g0 : w6.cell? ⟨P2, 0, none⟩ = some (.int .i64 t.id) := Pk.cell_at m2e 0
    have g1 : w6.cell? ⟨P2, 1, none⟩ = some (.string nm) := Pk.cell_at m2e 1
    have g2 : w6.cell? ⟨P2, 2, none⟩ = some (.int .i64 t.cl) := Pk.cell_at m2e 2
    have g3 : w6.cell? ⟨P2, 3, none⟩ = some (.int .i64 t.pr) := Pk.cell_at m2e 3
    have g4 : w6.cell? ⟨P2, 4, none⟩ = some (.int .i64 t.fi) := Pk.cell_at m2e 4
    have g5 : w6.cell? ⟨P2, 5, none⟩ = some (.int .i64 t.la) := Pk.cell_at m2e 5
    have g6 : w6.cell? ⟨P2, 6, none⟩ = some (.slice a2 ls.length c2) := Pk.cell_at m2e 6
    have HHL : Hid (∀ W, Below w6.heap.size w6 W → _) := fun W L => Gt.heldTicket_val t nm a2 g ls.length c2 W (by omega) (hg5.imp id (fun h => ⟨h.1, Nat.lt_of_lt_of_le h.2 L.size⟩)) (by
      rcases hg5 with h | h
      · intro i hi; omega
      · exact M6.on L h.2)
    unfold Tk.tkV at HHL
    go_wp2_with fail
    refine (HHL.out _ (Below.refl _ _)).mono ?_
    rintro e w7 ⟨rfl, L7⟩
    have m1f := Pk.kept L7 (Pk.lt_of m1e) m1e
    have pmf := Pk.kept L7 (Pk.lt_of pme) pme
    have m2f := Pk.kept L7 (Pk.lt_of m2e) m2e
    have O1f := Pk.own_below O1e L7 (Nat.le_refl _)
    have K7 := Pk.join_below K6 L7
    clear g0 g1 g2 g3 g4 g5 g6 m1e m2e O1e K6
    have pc0 : w7.cell? ⟨w.heap.size, 0, none⟩ = some (.int .i64 a0_0) := Pk.cell_at pmf 0
    have pc1 : w7.cell? ⟨w.heap.size, 1, none⟩ = some (.int .i64 a0_1) := Pk.cell_at pmf 1
    have pc2 : w7.cell? ⟨w.heap.size, 2, none⟩ = some (.int .i64 a0_2) := Pk.cell_at pmf 2
    go_wp2_with fail
    refine (Num.toParams_val a0_0 a0_1 a0_2 _).mono ?_
    rintro e u7 ⟨rfl, Lu7⟩
    have Kv := Pk.join_below K7 Lu7
    clear pc0 pc1 pc2
    go_wp2_with fail
    refine (HI.out _ (R.on Kv hRL) (E_errParams.on Kv) (E_errOpen.on Kv) (E_errMark.on Kv) (E_errText.on Kv) (ML0.on Kv) (T.on Kv)).mono ?_
    rintro e w8 ⟨⟨a3, c3, rfl, O3⟩, L8q⟩
    have L8 := Pk.join_below Lu7 L8q
    have m1g := Pk.kept L8 (Pk.lt_of m1f) m1f
    have m2g := Pk.kept L8 (Pk.lt_of m2f) m2f
    have O1g := Pk.own_below O1f L8 (Nat.le_refl _)
    have K8 := Pk.join_below K7 L8
    have N9 := Pk.new_below w8 (Tk.tkB t nm a3 ls.length c3 35)
    have m3 := Pk.heap_new w8 (Tk.tkB t nm a3 ls.length c3 35)
    have m1h := Pk.kept N9 (Pk.lt_of m1g) m1g
    have m2h := Pk.kept N9 (Pk.lt_of m2g) m2g
    have O1h := Pk.own_below O1g N9 (Nat.le_refl _)
    have O3h := Pk.own_below O3 N9 (Nat.le_refl _)
    have K9 := Pk.join_below K8 N9
    have L79 : Below w6.heap.size w6 (w8.alloc (Tk.tkB t nm a3 ls.length c3 35)) := Pk.join_below (Pk.join_below L7 L8) N9
    clear m1f m2f O1f K7 m1g m2g O1g K8 O3 N9 L7 L8
    obtain ⟨x1, y1, e1, I1⟩ := Gt.own_legs O1h
    simp only [Value.slice.injEq, true_and] at e1
    obtain ⟨rfl, rfl⟩ := e1
    obtain ⟨x3, y3, e3, I3⟩ := Gt.own_legs O3h
    simp only [Value.slice.injEq, true_and] at e3
    obtain ⟨rfl, rfl⟩ := e3
    have s0 : (w8.alloc (Tk.tkB t nm a3 ls.length c3 35)).cell? ⟨P1, 0, none⟩ = some (.int .i64 t.id) := Pk.cell_at m1h 0
    have s1 : (w8.alloc (Tk.tkB t nm a3 ls.length c3 35)).cell? ⟨P1, 1, none⟩ = some (.string nm) := Pk.cell_at m1h 1
    have s2 : (w8.alloc (Tk.tkB t nm a3 ls.length c3 35)).cell? ⟨P1, 2, none⟩ = some (.int .i64 t.cl) := Pk.cell_at m1h 2
    have s3 : (w8.alloc (Tk.tkB t nm a3 ls.length c3 35)).cell? ⟨P1, 3, none⟩ = some (.int .i64 t.pr) := Pk.cell_at m1h 3
    have s4 : (w8.alloc (Tk.tkB t nm a3 ls.length c3 35)).cell? ⟨P1, 4, none⟩ = some (.int .i64 t.fi) := Pk.cell_at m1h 4
    have s5 : (w8.alloc (Tk.tkB t nm a3 ls.length c3 35)).cell? ⟨P1, 5, none⟩ = some (.int .i64 t.la) := Pk.cell_at m1h 5
    have s6 : (w8.alloc (Tk.tkB t nm a3 ls.length c3 35)).cell? ⟨P1, 6, none⟩ = some (.slice a1 ls.length c1) := Pk.cell_at m1h 6
    have h0 : (w8.alloc (Tk.tkB t nm a3 ls.length c3 35)).cell? ⟨w8.heap.size, 0, none⟩ = some (.int .i64 t.id) := Pk.cell_at m3 0
    have h1 : (w8.alloc (Tk.tkB t nm a3 ls.length c3 35)).cell? ⟨w8.heap.size, 1, none⟩ = some (.string nm) := Pk.cell_at m3 1
    have h2 : (w8.alloc (Tk.tkB t nm a3 ls.length c3 35)).cell? ⟨w8.heap.size, 2, none⟩ = some (.int .i64 t.cl) := Pk.cell_at m3 2
    have h3 : (w8.alloc (Tk.tkB t nm a3 ls.length c3 35)).cell? ⟨w8.heap.size, 3, none⟩ = some (.int .i64 t.pr) := Pk.cell_at m3 3
    have h4 : (w8.alloc (Tk.tkB t nm a3 ls.length c3 35)).cell? ⟨w8.heap.size, 4, none⟩ = some (.int .i64 t.fi) := Pk.cell_at m3 4
    have h5 : (w8.alloc (Tk.tkB t nm a3 ls.length c3 35)).cell? ⟨w8.heap.size, 5, none⟩ = some (.int .i64 t.la) := Pk.cell_at m3 5
    have h6 : (w8.alloc (Tk.tkB t nm a3 ls.length c3 35)).cell? ⟨w8.heap.size, 6, none⟩ = some (.slice a3 ls.length c3) := Pk.cell_at m3 6
    go_wp2_with fail
    refine (HE.out _ a3 a1 c3 c1 I3 I1).mono ?_
    generalize w8.alloc (Tk.tkB t nm a3 ls.length c3 35) = w9 at *
    rintro e w10 ⟨rfl, L10⟩
    have m2i := Pk.kept L10 (Pk.lt_of m2h) m2h
    have K10 := Pk.join_below K9 L10
    have L6a := Pk.join_below L79 L10
    clear s0 s1 s2 s3 s4 s5 s6 h0 h1 h2 h3 h4 h5 h6
    have g0 : w10.cell? ⟨P2, 0, none⟩ = some (.int .i64 t.id) := Pk.cell_at m2i 0
    have g1 : w10.cell? ⟨P2, 1, none⟩ = some (.string nm) := Pk.cell_at m2i 1
    have g2 : w10.cell? ⟨P2, 2, none⟩ = some (.int .i64 t.cl) := Pk.cell_at m2i 2
    have g3 : w10.cell? ⟨P2, 3, none⟩ = some (.int .i64 t.pr) := Pk.cell_at m2i 3
    have g4 : w10.cell? ⟨P2, 4, none⟩ = some (.int .i64 t.fi) := Pk.cell_at m2i 4
    have g5 : w10.cell? ⟨P2, 5, none⟩ = some (.int .i64 t.la) := Pk.cell_at m2i 5
    have g6 : w10.cell? ⟨P2, 6, none⟩ = some (.slice a2 ls.length c2) := Pk.cell_at m2i 6
    go_wp2_with fail
    refine (HHL.out _ L6a).mono ?_
    rintro e w11 ⟨rfl, L11⟩
    have K11 := Pk.join_below K10 L11
    go_wp2
    go_ret
    exact ⟨rfl, K11⟩
  · have hb2 : (1048576 : Int) < (a3.size : Int) := by omega
    go_enter Tryz.func4, Tryz.ntmps4
    go_wp2
    go_ret
    exact ⟨rfl, Pk.new_below _ _⟩

theorem errs {W : World} (hL : laidMetH Tryz.prog Rows.fnExactReadRow.laid W) : Num.Tens W ∧ Errs.ErrAt 2 W ∧ Errs.ErrAt 3 W ∧ Errs.ErrAt 4 W ∧ Errs.ErrAt 1 W ∧ Pk.Runs W := by
  have h0 : laidMet Tryz.prog [("math/bits.deBruijn32tab", Rows.laid_math_bits_deBruijn32tab), ("math/bits.deBruijn64tab", Rows.laid_math_bits_deBruijn64tab), ("internal/strconv.uint64pow10", Rows.laid_internal_strconv_uint64pow10), ("unicode/utf8.acceptRanges", Rows.laid_unicode_utf8_acceptRanges), ("loop.example/g00211/impl.errParams", Rows.laid_loop_example_g00211_impl_errParams), ("loop.example/g00211/impl.errOpen", Rows.laid_loop_example_g00211_impl_errOpen), ("loop.example/g00211/impl.errMark", Rows.laid_loop_example_g00211_impl_errMark), ("loop.example/g00211/impl.errText", Rows.laid_loop_example_g00211_impl_errText), ("loop.example/g00211/impl.fixedRuns", Rows.laid_loop_example_g00211_impl_fixedRuns), ("unicode/utf8.first", Rows.laid_unicode_utf8_first)] W := hL
  exact ⟨Tabs.tens_of (laidMet.tail (laidMet.tail h0)), Errs.head (laidMet.tail (laidMet.tail (laidMet.tail (laidMet.tail h0)))) ⟨_, rfl⟩ (by kernel_rfl) (by kernel_rfl), Errs.head (laidMet.tail (laidMet.tail (laidMet.tail (laidMet.tail (laidMet.tail h0))))) ⟨_, rfl⟩ (by kernel_rfl) (by kernel_rfl), Errs.head (laidMet.tail (laidMet.tail (laidMet.tail (laidMet.tail (laidMet.tail (laidMet.tail h0)))))) ⟨_, rfl⟩ (by kernel_rfl) (by kernel_rfl), Errs.head (laidMet.tail (laidMet.tail (laidMet.tail (laidMet.tail (laidMet.tail (laidMet.tail (laidMet.tail h0))))))) ⟨_, rfl⟩ (by kernel_rfl) (by kernel_rfl), Pk.runs_of (laidMet.tail (laidMet.tail (laidMet.tail (laidMet.tail (laidMet.tail (laidMet.tail (laidMet.tail (laidMet.tail h0))))))))⟩

set_option maxRecDepth 100000 in
theorem contract (H : Type) (enc : TypeId × Value → H) (W : World) (base : Nat) (args : Array Value) (ds gs : List (DataW H)) (before : List MemPlace)
    (hval : ∀ (j : Nat) t v, Tryz.f4.params[j]? = some t → args[j]? = some v → Value.okWide Tryz.prog W .any base t v)
    (hW : DataW.Whole enc Tryz.prog Tryz.f4.params.toList Rows.fnExactReadSpec.vars false W args.toList ds gs before) (hL : laidMetH Tryz.prog Rows.fnExactReadRow.laid W) (hSh : W.ShapedOpen Tryz.prog) :
    Calls Tryz.prog 4 args W fun e W' => ∃ v, e = .returned v ∧ Rows.fnExactReadSpec.post enc Tryz.prog Tryz.f4 false true false false W args v W' := by
  have hW' := hW
  obtain ⟨p, q, hA0, hV, rfl, hfz, hnd⟩ := hW
  have hA : DataW.TrodAll enc Tryz.prog W 0 (fun _ => true) true Tryz.f4.params.toList args.toList ds p := hA0
  rw [Tryz.params4] at hA hval
  obtain ⟨v0, vs0, d0, ds0, p0, q0, hargs, rfl, rfl, h0, r0⟩ := trodAll_cons hA
  obtain ⟨v1, vs1, d1, ds1, p1, q1, rfl, rfl, rfl, h1, r1⟩ := trodAll_cons r0
  obtain ⟨v2, vs2, d2, ds2, p2, q2, rfl, rfl, rfl, h2, r2⟩ := trodAll_cons r1
  obtain ⟨v3, vs3, d3, ds3, p3, q3, rfl, rfl, rfl, h3, r3⟩ := trodAll_cons r2
  obtain ⟨rfl, rfl, rfl⟩ := trodAll_nil r3
  obtain rfl : args = #[v0, v1, v2, v3] := by cases args; simp_all
  have hlen := Errs.vars_len hV
  obtain ⟨g0, gs0, rfl, hl0⟩ := Errs.len_cons hlen
  obtain ⟨g1, gs1, rfl, hl1⟩ := Errs.len_cons hl0
  obtain ⟨g2, gs2, rfl, hl2⟩ := Errs.len_cons hl1
  obtain ⟨g3, gs3, rfl, hl3⟩ := Errs.len_cons hl2
  obtain ⟨g4, gs4, rfl, hl4⟩ := Errs.len_cons hl3
  obtain rfl := List.length_eq_zero_iff.1 hl4
  have k0 := h0
  have lt0 : ∀ x ∈ p0, x.block < W.heap.size := by obtain ⟨m, hm⟩ := k0; exact DataW.trod_lt m _ _ _ hm
  obtain ⟨c0_0, c0_1, c0_2, y0_0, y0_1, y0_2, m0, rfl, rfl, rfl, hy0_0, hy0_1, hy0_2⟩ := open_agg3 Tryz.underlying23 (by kernel_rfl) (by kernel_rfl) (hval 0 23 v0 rfl rfl) h0
  obtain ⟨a0_0, e0_0, rfl, w0_0⟩ := DataW.trod_int Tryz.underlying3 hy0_0
  obtain ⟨a0_1, e0_1, rfl, w0_1⟩ := DataW.trod_int Tryz.underlying3 hy0_1
  obtain ⟨a0_2, e0_2, rfl, w0_2⟩ := DataW.trod_int Tryz.underlying3 hy0_2
  simp at e0_0 e0_1 e0_2
  subst e0_0 e0_1 e0_2
  have k1 := h1
  have lt1 : ∀ x ∈ p1, x.block < W.heap.size := by obtain ⟨m, hm⟩ := k1; exact DataW.trod_lt m _ _ _ hm
  obtain ⟨a1, rfl, rfl, rfl, w1⟩ := open_int Tryz.underlying3 (hval 1 3 v1 rfl rfl) h1
  have k2 := h2
  have lt2 : ∀ x ∈ p2, x.block < W.heap.size := by obtain ⟨m, hm⟩ := k2; exact DataW.trod_lt m _ _ _ hm
  obtain ⟨a2, rfl, rfl, rfl, w2⟩ := open_int Tryz.underlying3 (hval 2 3 v2 rfl rfl) h2
  have k3 := h3
  have lt3 : ∀ x ∈ p3, x.block < W.heap.size := by obtain ⟨m, hm⟩ := k3; exact DataW.trod_lt m _ _ _ hm
  obtain ⟨a3, rfl, rfl, rfl, w3⟩ := open_string Tryz.underlying9 (hval 3 9 v3 rfl rfl) h3
  clear hA0
  refine (walk a0_0 w0_0 a0_1 w0_1 a0_2 w0_2 a1 w1 a2 w2 a3 w3 W  (errs hL).1 (errs hL).2.1 (errs hL).2.2.1 (errs hL).2.2.2.1 (errs hL).2.2.2.2.1 (errs hL).2.2.2.2.2 hSh).mono fun e W' ⟨he, bel⟩ => ?_
  subst he
  exact ⟨_, rfl, _, _, _, [], _, _, hW', trodAll_mk1 (shut_bool Tryz.underlying4 _), (trodAll_cons_mk (Below.trod Errs.laidOut (by kernel_rfl) (of_decide_eq_true (by kernel_rfl)) k0 bel lt0) (trodAll_cons_mk (Below.trod Errs.laidOut (by kernel_rfl) (of_decide_eq_true (by kernel_rfl)) k1 bel lt1) (trodAll_cons_mk (Below.trod Errs.laidOut (by kernel_rfl) (of_decide_eq_true (by kernel_rfl)) k2 bel lt2) (trodAll_cons_mk (Below.trod Errs.laidOut (by kernel_rfl) (of_decide_eq_true (by kernel_rfl)) k3 bel lt3) trodAll_mk0)))), (Below.trodVars Errs.laidOut bel (by kernel_rfl) hV), bel.frame _, fun h => by cases h⟩

theorem laid_met (os : Os) : laidMet Tryz.prog Rows.fnExactReadRow.laid ((Tabs.tabW 9 Rows.laid_unicode_utf8_first (Pk.runsW (Errs.errW 1 Rows.laid_loop_example_g00211_impl_errText (Errs.errW 4 Rows.laid_loop_example_g00211_impl_errMark (Errs.errW 3 Rows.laid_loop_example_g00211_impl_errOpen (Errs.errW 2 Rows.laid_loop_example_g00211_impl_errParams (Tabs.tabW 10 Rows.laid_unicode_utf8_acceptRanges (Tabs.tabW 8 Rows.laid_internal_strconv_uint64pow10 (Tabs.tabW 12 Rows.laid_math_bits_deBruijn64tab (Tabs.tabW 11 Rows.laid_math_bits_deBruijn32tab (World.holding Tryz.prog os ⟨#[], #[], []⟩))))))))))).forCall (fun _ _ => 0) ⟨#[], #[.agg #[.int .i64 0, .int .i64 0, .int .i64 0], .int .i64 0, .int .i64 0, .string ByteArray.empty], []⟩).memory :=
  laidMet_of_run' 8 (by kernel_rfl) (by kernel_rfl)

theorem reads (os : Os) {H : Type} (enc : TypeId × Value → H) : ∃ x, DataW.whole enc Tryz.prog ((Tabs.tabW 9 Rows.laid_unicode_utf8_first (Pk.runsW (Errs.errW 1 Rows.laid_loop_example_g00211_impl_errText (Errs.errW 4 Rows.laid_loop_example_g00211_impl_errMark (Errs.errW 3 Rows.laid_loop_example_g00211_impl_errOpen (Errs.errW 2 Rows.laid_loop_example_g00211_impl_errParams (Tabs.tabW 10 Rows.laid_unicode_utf8_acceptRanges (Tabs.tabW 8 Rows.laid_internal_strconv_uint64pow10 (Tabs.tabW 12 Rows.laid_math_bits_deBruijn64tab (Tabs.tabW 11 Rows.laid_math_bits_deBruijn32tab (World.holding Tryz.prog os ⟨#[], #[], []⟩))))))))))).forCall (fun _ _ => 0) ⟨#[], #[.agg #[.int .i64 0, .int .i64 0, .int .i64 0], .int .i64 0, .int .i64 0, .string ByteArray.empty], []⟩).memory Tryz.f4.params.toList Rows.fnExactReadSpec.vars false (#[.agg #[.int .i64 0, .int .i64 0, .int .i64 0], .int .i64 0, .int .i64 0, .string ByteArray.empty] : Array Value).toList 8 = some x :=
  Option.isSome_iff_exists.1 (by kernel_rfl)

set_option maxRecDepth 100000 in
theorem lifted (os : Os) (started : os.Started) (H : Type) (enc : TypeId × Value → H) (F : Stop.Interp) :
    ReturnsInHanded {} Tryz.checked os 4 .any ((OpenSpec.ofChange Rows.fnExactReadSpec).preRow enc Tryz.prog Tryz.f4 Rows.fnExactReadRow.domain false Rows.fnExactReadRow.laid) (((OpenSpec.ofChange Rows.fnExactReadSpec).at F).post enc Tryz.prog Tryz.f4 false true false false) := by
  obtain ⟨x, hx⟩ := reads os enc
  refine returnsInHanded_of_row (C := Tryz.checked) (s := OpenSpec.ofChange Rows.fnExactReadSpec) Errs.own started (by kernel_rfl) Tryz.func4
    (witness_row_at (enc := enc) (C := Tryz.checked) false (Tabs.tabW 9 Rows.laid_unicode_utf8_first (Pk.runsW (Errs.errW 1 Rows.laid_loop_example_g00211_impl_errText (Errs.errW 4 Rows.laid_loop_example_g00211_impl_errMark (Errs.errW 3 Rows.laid_loop_example_g00211_impl_errOpen (Errs.errW 2 Rows.laid_loop_example_g00211_impl_errParams (Tabs.tabW 10 Rows.laid_unicode_utf8_acceptRanges (Tabs.tabW 8 Rows.laid_internal_strconv_uint64pow10 (Tabs.tabW 12 Rows.laid_math_bits_deBruijn64tab (Tabs.tabW 11 Rows.laid_math_bits_deBruijn32tab (World.holding Tryz.prog os ⟨#[], #[], []⟩))))))))))) #[.agg #[.int .i64 0, .int .i64 0, .int .i64 0], .int .i64 0, .int .i64 0, .string ByteArray.empty] rfl (by kernel_rfl) (by kernel_rfl) (by kernel_rfl)
      (OpenSpec.preRow_of_cond 8 hx rfl (fun k hk => by cases hk) (by kernel_rfl) (laid_met os))) ?_
  intro W base args ds gs before hval hW _ _ _ hL hSh _
  exact contract H enc W base args ds gs before hval hW hL hSh

set_option maxRecDepth 100000 in
theorem said : Rows.FnExactReadSaid :=
  OpenClaim.holds_of_cond 4 Tryz.f4 rfl rfl rfl rfl rfl rfl rfl ⟨rfl, rfl, rfl, rfl, rfl⟩ rfl rfl rfl rfl rfl (by kernel_rfl) Tryz.func4 (by kernel_rfl)
    (of_decide_eq_true (by kernel_rfl)) (by unfold Func.isWrapper; first | (rw [if_pos (by decide +kernel)]; kernel_rfl) | (rw [if_neg (by decide +kernel)]; exact ⟨rfl, rfl⟩))
    (fun os started H enc _ F => by rw [OpenClaim.pre_eq_preRow]; exact lifted os started H enc F)

theorem plain (f : FuncId) (fn : Func) (hf : Tryz.pinned.checked.prog.funcNamed "loop.example/g00211/laws.FnExactRead" = some f) (hfn : Tryz.pinned.checked.prog.funcs[f]? = some fn) :
    true = Tryz.pinned.checked.prog.looks [] ∧ ∀ (j : Nat) t, fn.params[j]? = some t → Tryz.pinned.checked.prog.wantsStandIn t = false := by
  obtain rfl : f = 4 := Option.some.inj ((show Tryz.prog.funcNamed "loop.example/g00211/laws.FnExactRead" = some 4 by kernel_rfl).symm.trans hf) |>.symm
  obtain rfl : fn = Tryz.f4 := (Option.some.inj (Tryz.func4.symm.trans hfn)).symm
  refine ⟨by kernel_rfl, fun j t ht => ?_⟩
  rw [Tryz.params4] at ht
  have hm : t = 23 ∨ t = 3 ∨ t = 3 ∨ t = 9 := by simpa using Array.mem_of_getElem? ht
  rcases hm with rfl | rfl | rfl | rfl
  · exact (show Tryz.prog.wantsStandIn 23 = false by kernel_rfl)
  · exact (show Tryz.prog.wantsStandIn 3 = false by kernel_rfl)
  · exact (show Tryz.prog.wantsStandIn 3 = false by kernel_rfl)
  · exact (show Tryz.prog.wantsStandIn 9 = false by kernel_rfl)

theorem card : Rows.FnExactReadCardSaid :=
  Claim7.holds_tied_plain_at .later [] _ _ _ _ said (fun _ h => by cases h) (by kernel_rfl) (fun _ h => by cases h) fnExactRead_row_tie rfl ⟨rfl, rfl⟩ (by kernel_rfl) rfl plain (by kernel_rfl)
end Go.Proofs.YtcifgableeeooalGreatDoor.fnExactRead
namespace Go.Proofs.YtcifgableeeooalGreatDoor
theorem FnExactRead_holds : Rows.FnExactReadCardSaid := fnExactRead.card
end Go.Proofs.YtcifgableeeooalGreatDoor

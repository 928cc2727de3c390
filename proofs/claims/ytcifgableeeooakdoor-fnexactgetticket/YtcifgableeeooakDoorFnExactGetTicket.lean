/- For every text the law of GetTicket answers true: the program's GetTicket and its model return the same ticket and the same answer, the program's ticket lies in memory of its own, and a further call leaves it as it was. The tables of the library that strconv.Itoa reads are as the program's text lays them (the card ties them; over a pruned copy of the project). -/
import Derived.Test.YtcifgableeeooakDoorErrs
import Derived.Test.YtcifgableeeooakDoorTabs
import Derived.ShutString
import Derived.Lib.SmallJoins
import Derived.Test.YtcifgableeeooakDoorCards
import Derived.Test.YtcifgableeeooakDoorTie
import Derived.Test.YtcifgableeeooakDoorGtOne
namespace Go.Proofs.YtcifgableeeooakDoor.fnExactGetTicket
open Go.ChangeShapes Go.WideShapes Go.ChangeAt Go.RowKit Go.Joins
open Go.ChangeMaps (open_string shut_string)
set_option linter.unusedVariables false
set_option linter.unusedSimpArgs false

set_option maxRecDepth 100000 in
set_option maxHeartbeats 8000000 in
theorem walk (a0 : ByteArray) (w0 : a0.size ≤ maxLen) (w : World)  (T : Num.Tens w) (SH : w.ShapedOpen Tryd.prog) :
    Calls Tryd.prog 5 #[.string a0] w fun e w' => e = .returned (.bool true) ∧ Below w.heap.size w w' := by
  by_cases hb : a0.size ≤ 1048576
  · obtain ⟨t, nm, ls, ok, hl6, H⟩ := Gt.get_one a0
    have ML0 := Gt.ml_of SH
    have HS : Hid (∀ W, _) := fun W => Gt.specGet_is hb H W
    have HI : Hid (∀ W, Gt.ML W → Num.Tens W → _) := fun W h1 h2 => Gt.implGet_is hb H W h1 h2
    have HE : Hid (∀ W a b c1 c2, Tk.Legs W a ls → Tk.Legs W b ls → _) := fun W a b c1 c2 h1 h2 => Tk.eqTicket_same t nm a b ls c1 c2 W (by omega) h1 h2
    have hnb : (ok != ok) = false := by simp
    have hd : decide (1 + 6 * (ls.length : Int) < 0) = false := decide_eq_false (by omega)
    unfold Tk.tkV at HE
    clear H
    go_enter Tryd.func5, Tryd.ntmps5
    go_wp2_with fail
    refine (HS.out _).mono ?_
    rintro e w1 ⟨⟨a1, c1, rfl, O1⟩, L1⟩
    have N1 := Pk.new_below w1 (Tk.tkB t nm a1 ls.length c1 33)
    have m1 := Pk.heap_new w1 (Tk.tkB t nm a1 ls.length c1 33)
    have O1' := Pk.own_below O1 N1 (Nat.le_refl _)
    have K1 := Pk.join_below L1 N1
    go_wp2_with fail
    refine (HI.out _ (ML0.on K1) (T.on K1)).mono ?_
    generalize w1.alloc (Tk.tkB t nm a1 ls.length c1 33) = w2 at *
    generalize hP1 : w1.heap.size = P1 at *
    rintro e w3 ⟨⟨a2, c2, rfl, O2⟩, L3⟩
    have m1b := Pk.kept L3 (Pk.lt_of m1) m1
    have O1b := Pk.own_below O1' L3 (Nat.le_refl _)
    have K3 := Pk.join_below K1 L3
    have hlt1 := Pk.lt_of m1
    have HB1 : Hid (∀ k', (Value.slice a1 ls.length c1).ownBlock = some k' → k' < w2.heap.size) := fun k' h => (O1'.lt k' h).2
    have N4 := Pk.new_below w3 (Tk.tkB t nm a2 ls.length c2 33)
    have m2 := Pk.heap_new w3 (Tk.tkB t nm a2 ls.length c2 33)
    have m1c := Pk.kept N4 (Pk.lt_of m1b) m1b
    have O1c := Pk.own_below O1b N4 (Nat.le_refl _)
    have O2c := Pk.own_below O2 N4 (Nat.le_refl _)
    have K4 := Pk.join_below K3 N4
    have hb2 : w2.heap.size ≤ w3.heap.size := L3.size
    have hw2 : w.heap.size ≤ w2.heap.size := K1.size
    clear O1 L1 N1 O1' m1 K1 L3 m1b O1b K3 O2
    obtain ⟨x1, y1, e1, I1⟩ := Gt.own_legs O1c
    simp only [Value.slice.injEq, true_and] at e1
    obtain ⟨rfl, rfl⟩ := e1
    obtain ⟨x2, y2, e2, I2⟩ := Gt.own_legs O2c
    simp only [Value.slice.injEq, true_and] at e2
    obtain ⟨rfl, rfl⟩ := e2
    obtain ⟨P2, hP2⟩ : ∃ P, w3.heap.size = P := ⟨_, rfl⟩
    have s0 : (w3.alloc (Tk.tkB t nm a2 ls.length c2 33)).cell? ⟨P1, 0, none⟩ = some (.int .i64 t.id) := Pk.cell_at m1c 0
    have s1 : (w3.alloc (Tk.tkB t nm a2 ls.length c2 33)).cell? ⟨P1, 1, none⟩ = some (.string nm) := Pk.cell_at m1c 1
    have s2 : (w3.alloc (Tk.tkB t nm a2 ls.length c2 33)).cell? ⟨P1, 2, none⟩ = some (.int .i64 t.cl) := Pk.cell_at m1c 2
    have s3 : (w3.alloc (Tk.tkB t nm a2 ls.length c2 33)).cell? ⟨P1, 3, none⟩ = some (.int .i64 t.pr) := Pk.cell_at m1c 3
    have s4 : (w3.alloc (Tk.tkB t nm a2 ls.length c2 33)).cell? ⟨P1, 4, none⟩ = some (.int .i64 t.fi) := Pk.cell_at m1c 4
    have s5 : (w3.alloc (Tk.tkB t nm a2 ls.length c2 33)).cell? ⟨P1, 5, none⟩ = some (.int .i64 t.la) := Pk.cell_at m1c 5
    have s6 : (w3.alloc (Tk.tkB t nm a2 ls.length c2 33)).cell? ⟨P1, 6, none⟩ = some (.slice a1 ls.length c1) := Pk.cell_at m1c 6
    rw [hP2] at m2
    have g0 : (w3.alloc (Tk.tkB t nm a2 ls.length c2 33)).cell? ⟨P2, 0, none⟩ = some (.int .i64 t.id) := Pk.cell_at m2 0
    have g1 : (w3.alloc (Tk.tkB t nm a2 ls.length c2 33)).cell? ⟨P2, 1, none⟩ = some (.string nm) := Pk.cell_at m2 1
    have g2 : (w3.alloc (Tk.tkB t nm a2 ls.length c2 33)).cell? ⟨P2, 2, none⟩ = some (.int .i64 t.cl) := Pk.cell_at m2 2
    have g3 : (w3.alloc (Tk.tkB t nm a2 ls.length c2 33)).cell? ⟨P2, 3, none⟩ = some (.int .i64 t.pr) := Pk.cell_at m2 3
    have g4 : (w3.alloc (Tk.tkB t nm a2 ls.length c2 33)).cell? ⟨P2, 4, none⟩ = some (.int .i64 t.fi) := Pk.cell_at m2 4
    have g5 : (w3.alloc (Tk.tkB t nm a2 ls.length c2 33)).cell? ⟨P2, 5, none⟩ = some (.int .i64 t.la) := Pk.cell_at m2 5
    have g6 : (w3.alloc (Tk.tkB t nm a2 ls.length c2 33)).cell? ⟨P2, 6, none⟩ = some (.slice a2 ls.length c2) := Pk.cell_at m2 6
    go_wp2_with fail
    try rw [hP2]
    refine (HE.out _ a2 a1 c2 c1 I2 I1).mono ?_
    generalize w3.alloc (Tk.tkB t nm a2 ls.length c2 33) = w4 at *
    rintro e w5 ⟨rfl, L5⟩
    have m1d := Pk.kept L5 (Pk.lt_of m1c) m1c
    have m2d := Pk.kept L5 (Pk.lt_of m2) m2
    have O1d := Pk.own_below O1c L5 (Nat.le_refl _)
    have O2d := Pk.own_below O2c L5 (Nat.le_refl _)
    have K5 := Pk.join_below K4 L5
    have hs4 : w3.heap.size < w4.heap.size := by rw [hP2]; exact Pk.lt_of m2
    have hs5 : w4.heap.size ≤ w5.heap.size := L5.size
    obtain ⟨g, hg1, hg2, hg3, hg4⟩ := Gt.legs_blk O2d (by omega)
    have hgP1 : P1 ≠ g := by omega
    have hgP2 : P2 ≠ g := by
      rcases hg4 with h | h
      · intro e
        exact Pk.own_ne' O2d m2d (by decide) (by rw [e]; exact h)
      · omega
    have hg1n : (Value.slice a1 ls.length c1).ownBlock ≠ some g := fun h => by have := HB1.out g h; omega
    clear s0 s1 s2 s3 s4 s5 s6 g0 g1 g2 g3 g4 g5 g6 m1c m2 O1c O2c I1 I2 K4 L5 hP2
    have g0 : w5.cell? ⟨P2, 0, none⟩ = some (.int .i64 t.id) := Pk.cell_at m2d 0
    have g1 : w5.cell? ⟨P2, 1, none⟩ = some (.string nm) := Pk.cell_at m2d 1
    have g2 : w5.cell? ⟨P2, 2, none⟩ = some (.int .i64 t.cl) := Pk.cell_at m2d 2
    have g3 : w5.cell? ⟨P2, 3, none⟩ = some (.int .i64 t.pr) := Pk.cell_at m2d 3
    have g4 : w5.cell? ⟨P2, 4, none⟩ = some (.int .i64 t.fi) := Pk.cell_at m2d 4
    have g5 : w5.cell? ⟨P2, 5, none⟩ = some (.int .i64 t.la) := Pk.cell_at m2d 5
    have g6 : w5.cell? ⟨P2, 6, none⟩ = some (.slice a2 ls.length c2) := Pk.cell_at m2d 6
    have HMK : Hid (∀ _ : Unit, _) := fun _ => Gt.markTicket_val t nm a2 g ls.length c2 w5 (by omega) hg2 hg3
    unfold Tk.tkV at HMK
    go_wp2_with fail
    refine (HMK.out ()).mono ?_
    rintro e w6 ⟨rfl, B6, M6⟩
    have m1e := B6.keep m1d hgP1
    have m2e := B6.keep m2d hgP2
    have O1e := B6.own O1d hg1n
    have K6 := B6.below K5 K5.size (by omega)
    have hs6 : w5.heap.size ≤ w6.heap.size := B6.size
    have hg5 : ls.length = 0 ∨ (a2 = some ⟨g, 0, none⟩ ∧ g < w6.heap.size) := hg3.imp id (fun h => ⟨h.1, by omega⟩)
    clear g0 g1 g2 g3 g4 g5 g6 m1d m2d O1d O2d K5 HMK
    have g0 : w6.cell? ⟨P2, 0, none⟩ = some (.int .i64 t.id) := Pk.cell_at m2e 0
    have g1 : w6.cell? ⟨P2, 1, none⟩ = some (.string nm) := Pk.cell_at m2e 1
    have g2 : w6.cell? ⟨P2, 2, none⟩ = some (.int .i64 t.cl) := Pk.cell_at m2e 2
    have g3 : w6.cell? ⟨P2, 3, none⟩ = some (.int .i64 t.pr) := Pk.cell_at m2e 3
    have g4 : w6.cell? ⟨P2, 4, none⟩ = some (.int .i64 t.fi) := Pk.cell_at m2e 4
    have g5 : w6.cell? ⟨P2, 5, none⟩ = some (.int .i64 t.la) := Pk.cell_at m2e 5
    have g6 : w6.cell? ⟨P2, 6, none⟩ = some (.slice a2 ls.length c2) := Pk.cell_at m2e 6
    have HHL : Hid (∀ W, Below w6.heap.size w6 W → _) := fun W L => Gt.heldTicket_val t nm a2 g ls.length c2 W (by omega) (hg5.imp id (fun h => ⟨h.1, Nat.lt_of_lt_of_le h.2 L.size⟩)) (by
      rcases hg5 with h | h
      · intro i hi; omega
      · exact M6.on L h.2)
    unfold Tk.tkV at HHL
    go_wp2_with fail
    refine (HHL.out _ (Below.refl _ _)).mono ?_
    rintro e w7 ⟨rfl, L7⟩
    have m1f := Pk.kept L7 (Pk.lt_of m1e) m1e
    have m2f := Pk.kept L7 (Pk.lt_of m2e) m2e
    have O1f := Pk.own_below O1e L7 (Nat.le_refl _)
    have K7 := Pk.join_below K6 L7
    clear g0 g1 g2 g3 g4 g5 g6 m1e m2e O1e K6
    go_wp2_with fail
    refine (HI.out _ (ML0.on K7) (T.on K7)).mono ?_
    rintro e w8 ⟨⟨a3, c3, rfl, O3⟩, L8⟩
    have m1g := Pk.kept L8 (Pk.lt_of m1f) m1f
    have m2g := Pk.kept L8 (Pk.lt_of m2f) m2f
    have O1g := Pk.own_below O1f L8 (Nat.le_refl _)
    have K8 := Pk.join_below K7 L8
    have N9 := Pk.new_below w8 (Tk.tkB t nm a3 ls.length c3 33)
    have m3 := Pk.heap_new w8 (Tk.tkB t nm a3 ls.length c3 33)
    have m1h := Pk.kept N9 (Pk.lt_of m1g) m1g
    have m2h := Pk.kept N9 (Pk.lt_of m2g) m2g
    have O1h := Pk.own_below O1g N9 (Nat.le_refl _)
    have O3h := Pk.own_below O3 N9 (Nat.le_refl _)
    have K9 := Pk.join_below K8 N9
    have L79 : Below w6.heap.size w6 (w8.alloc (Tk.tkB t nm a3 ls.length c3 33)) := Pk.join_below (Pk.join_below L7 L8) N9
    clear m1f m2f O1f K7 m1g m2g O1g K8 O3 N9 L7 L8
    obtain ⟨x1, y1, e1, I1⟩ := Gt.own_legs O1h
    simp only [Value.slice.injEq, true_and] at e1
    obtain ⟨rfl, rfl⟩ := e1
    obtain ⟨x3, y3, e3, I3⟩ := Gt.own_legs O3h
    simp only [Value.slice.injEq, true_and] at e3
    obtain ⟨rfl, rfl⟩ := e3
    have s0 : (w8.alloc (Tk.tkB t nm a3 ls.length c3 33)).cell? ⟨P1, 0, none⟩ = some (.int .i64 t.id) := Pk.cell_at m1h 0
    have s1 : (w8.alloc (Tk.tkB t nm a3 ls.length c3 33)).cell? ⟨P1, 1, none⟩ = some (.string nm) := Pk.cell_at m1h 1
    have s2 : (w8.alloc (Tk.tkB t nm a3 ls.length c3 33)).cell? ⟨P1, 2, none⟩ = some (.int .i64 t.cl) := Pk.cell_at m1h 2
    have s3 : (w8.alloc (Tk.tkB t nm a3 ls.length c3 33)).cell? ⟨P1, 3, none⟩ = some (.int .i64 t.pr) := Pk.cell_at m1h 3
    have s4 : (w8.alloc (Tk.tkB t nm a3 ls.length c3 33)).cell? ⟨P1, 4, none⟩ = some (.int .i64 t.fi) := Pk.cell_at m1h 4
    have s5 : (w8.alloc (Tk.tkB t nm a3 ls.length c3 33)).cell? ⟨P1, 5, none⟩ = some (.int .i64 t.la) := Pk.cell_at m1h 5
    have s6 : (w8.alloc (Tk.tkB t nm a3 ls.length c3 33)).cell? ⟨P1, 6, none⟩ = some (.slice a1 ls.length c1) := Pk.cell_at m1h 6
    have h0 : (w8.alloc (Tk.tkB t nm a3 ls.length c3 33)).cell? ⟨w8.heap.size, 0, none⟩ = some (.int .i64 t.id) := Pk.cell_at m3 0
    have h1 : (w8.alloc (Tk.tkB t nm a3 ls.length c3 33)).cell? ⟨w8.heap.size, 1, none⟩ = some (.string nm) := Pk.cell_at m3 1
    have h2 : (w8.alloc (Tk.tkB t nm a3 ls.length c3 33)).cell? ⟨w8.heap.size, 2, none⟩ = some (.int .i64 t.cl) := Pk.cell_at m3 2
    have h3 : (w8.alloc (Tk.tkB t nm a3 ls.length c3 33)).cell? ⟨w8.heap.size, 3, none⟩ = some (.int .i64 t.pr) := Pk.cell_at m3 3
    have h4 : (w8.alloc (Tk.tkB t nm a3 ls.length c3 33)).cell? ⟨w8.heap.size, 4, none⟩ = some (.int .i64 t.fi) := Pk.cell_at m3 4
    have h5 : (w8.alloc (Tk.tkB t nm a3 ls.length c3 33)).cell? ⟨w8.heap.size, 5, none⟩ = some (.int .i64 t.la) := Pk.cell_at m3 5
    have h6 : (w8.alloc (Tk.tkB t nm a3 ls.length c3 33)).cell? ⟨w8.heap.size, 6, none⟩ = some (.slice a3 ls.length c3) := Pk.cell_at m3 6
    go_wp2_with fail
    refine (HE.out _ a3 a1 c3 c1 I3 I1).mono ?_
    generalize w8.alloc (Tk.tkB t nm a3 ls.length c3 33) = w9 at *
    rintro e w10 ⟨rfl, L10⟩
    have m2i := Pk.kept L10 (Pk.lt_of m2h) m2h
    have K10 := Pk.join_below K9 L10
    have L6a := Pk.join_below L79 L10
    clear s0 s1 s2 s3 s4 s5 s6 h0 h1 h2 h3 h4 h5 h6
    have g0 : w10.cell? ⟨P2, 0, none⟩ = some (.int .i64 t.id) := Pk.cell_at m2i 0
    have g1 : w10.cell? ⟨P2, 1, none⟩ = some (.string nm) := Pk.cell_at m2i 1
    have g2 : w10.cell? ⟨P2, 2, none⟩ = some (.int .i64 t.cl) := Pk.cell_at m2i 2
    have g3 : w10.cell? ⟨P2, 3, none⟩ = some (.int .i64 t.pr) := Pk.cell_at m2i 3
    have g4 : w10.cell? ⟨P2, 4, none⟩ = some (.int .i64 t.fi) := Pk.cell_at m2i 4
    have g5 : w10.cell? ⟨P2, 5, none⟩ = some (.int .i64 t.la) := Pk.cell_at m2i 5
    have g6 : w10.cell? ⟨P2, 6, none⟩ = some (.slice a2 ls.length c2) := Pk.cell_at m2i 6
    go_wp2_with fail
    refine (HHL.out _ L6a).mono ?_
    rintro e w11 ⟨rfl, L11⟩
    have K11 := Pk.join_below K10 L11
    go_wp2
    go_ret
    exact ⟨rfl, K11⟩
  · have hb2 : (1048576 : Int) < (a0.size : Int) := by omega
    go_enter Tryd.func5, Tryd.ntmps5
    go_wp2
    go_ret
    exact ⟨rfl, Below.refl _ _⟩

theorem errs {W : World} (hL : laidMetH Tryd.prog Rows.fnExactGetTicketRow.laid W) : Num.Tens W := by
  have h0 : laidMet Tryd.prog [("math/bits.deBruijn32tab", Rows.laid_math_bits_deBruijn32tab), ("math/bits.deBruijn64tab", Rows.laid_math_bits_deBruijn64tab), ("internal/strconv.uint64pow10", Rows.laid_internal_strconv_uint64pow10), ("unicode/utf8.acceptRanges", Rows.laid_unicode_utf8_acceptRanges), ("unicode/utf8.first", Rows.laid_unicode_utf8_first)] W := hL
  exact Tabs.tens_of (laidMet.tail (laidMet.tail h0))

set_option maxRecDepth 100000 in
theorem contract (H : Type) (enc : TypeId × Value → H) (W : World) (base : Nat) (args : Array Value) (ds gs : List (DataW H)) (before : List MemPlace)
    (hval : ∀ (j : Nat) t v, Tryd.f5.params[j]? = some t → args[j]? = some v → Value.okWide Tryd.prog W .any base t v)
    (hW : DataW.Whole enc Tryd.prog Tryd.f5.params.toList Rows.fnExactGetTicketSpec.vars false W args.toList ds gs before) (hL : laidMetH Tryd.prog Rows.fnExactGetTicketRow.laid W) (hSh : W.ShapedOpen Tryd.prog) :
    Calls Tryd.prog 5 args W fun e W' => ∃ v, e = .returned v ∧ Rows.fnExactGetTicketSpec.post enc Tryd.prog Tryd.f5 false true false false W args v W' := by
  have hW' := hW
  obtain ⟨p, q, hA0, hV, rfl, hfz, hnd⟩ := hW
  have hA : DataW.TrodAll enc Tryd.prog W 0 (fun _ => true) true Tryd.f5.params.toList args.toList ds p := hA0
  rw [Tryd.params5] at hA hval
  obtain ⟨v0, vs0, d0, ds0, p0, q0, hargs, rfl, rfl, h0, r0⟩ := trodAll_cons hA
  obtain ⟨rfl, rfl, rfl⟩ := trodAll_nil r0
  obtain rfl : args = #[v0] := by cases args; simp_all
  have hlen := Errs.vars_len hV
  obtain rfl := List.length_eq_zero_iff.1 hlen
  have k0 := h0
  have lt0 : ∀ x ∈ p0, x.block < W.heap.size := by obtain ⟨m, hm⟩ := k0; exact DataW.trod_lt m _ _ _ hm
  obtain ⟨a0, rfl, rfl, rfl, w0⟩ := open_string Tryd.underlying9 (hval 0 9 v0 rfl rfl) h0
  clear hA0
  refine (walk a0 w0 W  (errs hL) hSh).mono fun e W' ⟨he, bel⟩ => ?_
  subst he
  exact ⟨_, rfl, _, _, _, [], _, _, hW', trodAll_mk1 (shut_bool Tryd.underlying4 _), (trodAll_cons_mk (Below.trod Errs.laidOut (by kernel_rfl) (of_decide_eq_true (by kernel_rfl)) k0 bel lt0) trodAll_mk0), (Below.trodVars Errs.laidOut bel (by kernel_rfl) hV), bel.frame _, fun h => by cases h⟩

theorem laid_met (os : Os) : laidMet Tryd.prog Rows.fnExactGetTicketRow.laid ((Tabs.tabW 3 Rows.laid_unicode_utf8_first (Tabs.tabW 4 Rows.laid_unicode_utf8_acceptRanges (Tabs.tabW 2 Rows.laid_internal_strconv_uint64pow10 (Tabs.tabW 6 Rows.laid_math_bits_deBruijn64tab (Tabs.tabW 5 Rows.laid_math_bits_deBruijn32tab (World.holding Tryd.prog os ⟨#[], #[], []⟩)))))).forCall (fun _ _ => 0) ⟨#[], #[.string ByteArray.empty], []⟩).memory :=
  laidMet_of_run' 8 (by kernel_rfl) (by kernel_rfl)

theorem reads (os : Os) {H : Type} (enc : TypeId × Value → H) : ∃ x, DataW.whole enc Tryd.prog ((Tabs.tabW 3 Rows.laid_unicode_utf8_first (Tabs.tabW 4 Rows.laid_unicode_utf8_acceptRanges (Tabs.tabW 2 Rows.laid_internal_strconv_uint64pow10 (Tabs.tabW 6 Rows.laid_math_bits_deBruijn64tab (Tabs.tabW 5 Rows.laid_math_bits_deBruijn32tab (World.holding Tryd.prog os ⟨#[], #[], []⟩)))))).forCall (fun _ _ => 0) ⟨#[], #[.string ByteArray.empty], []⟩).memory Tryd.f5.params.toList Rows.fnExactGetTicketSpec.vars false (#[.string ByteArray.empty] : Array Value).toList 8 = some x :=
  Option.isSome_iff_exists.1 (by kernel_rfl)

set_option maxRecDepth 100000 in
theorem lifted (os : Os) (started : os.Started) (H : Type) (enc : TypeId × Value → H) (F : Stop.Interp) :
    ReturnsInHanded {} Tryd.checked os 5 .any ((OpenSpec.ofChange Rows.fnExactGetTicketSpec).preRow enc Tryd.prog Tryd.f5 Rows.fnExactGetTicketRow.domain false Rows.fnExactGetTicketRow.laid) (((OpenSpec.ofChange Rows.fnExactGetTicketSpec).at F).post enc Tryd.prog Tryd.f5 false true false false) := by
  obtain ⟨x, hx⟩ := reads os enc
  refine returnsInHanded_of_row (C := Tryd.checked) (s := OpenSpec.ofChange Rows.fnExactGetTicketSpec) Errs.own started (by kernel_rfl) Tryd.func5
    (witness_row_at (enc := enc) (C := Tryd.checked) false (Tabs.tabW 3 Rows.laid_unicode_utf8_first (Tabs.tabW 4 Rows.laid_unicode_utf8_acceptRanges (Tabs.tabW 2 Rows.laid_internal_strconv_uint64pow10 (Tabs.tabW 6 Rows.laid_math_bits_deBruijn64tab (Tabs.tabW 5 Rows.laid_math_bits_deBruijn32tab (World.holding Tryd.prog os ⟨#[], #[], []⟩)))))) #[.string ByteArray.empty] rfl (by kernel_rfl) (by kernel_rfl) (by kernel_rfl)
      (OpenSpec.preRow_of_cond 8 hx rfl (fun k hk => by cases hk) (by kernel_rfl) (laid_met os))) ?_
  intro W base args ds gs before hval hW _ _ _ hL hSh _
  exact contract H enc W base args ds gs before hval hW hL hSh

set_option maxRecDepth 100000 in
theorem said : Rows.FnExactGetTicketSaid :=
  OpenClaim.holds_of_cond 5 Tryd.f5 rfl rfl rfl rfl rfl rfl rfl ⟨rfl, rfl, rfl, rfl, rfl⟩ rfl rfl rfl rfl rfl (by kernel_rfl) Tryd.func5 (by kernel_rfl)
    (of_decide_eq_true (by kernel_rfl)) (by unfold Func.isWrapper; first | (rw [if_pos (by decide +kernel)]; kernel_rfl) | (rw [if_neg (by decide +kernel)]; exact ⟨rfl, rfl⟩))
    (fun os started H enc _ F => by rw [OpenClaim.pre_eq_preRow]; exact lifted os started H enc F)

theorem plain (f : FuncId) (fn : Func) (hf : Tryd.pinned.checked.prog.funcNamed "loop.example/g00211/laws.FnExactGetTicket" = some f) (hfn : Tryd.pinned.checked.prog.funcs[f]? = some fn) :
    true = Tryd.pinned.checked.prog.looks [] ∧ ∀ (j : Nat) t, fn.params[j]? = some t → Tryd.pinned.checked.prog.wantsStandIn t = false := by
  obtain rfl : f = 5 := Option.some.inj ((show Tryd.prog.funcNamed "loop.example/g00211/laws.FnExactGetTicket" = some 5 by kernel_rfl).symm.trans hf) |>.symm
  obtain rfl : fn = Tryd.f5 := (Option.some.inj (Tryd.func5.symm.trans hfn)).symm
  refine ⟨by kernel_rfl, fun j t ht => ?_⟩
  rw [Tryd.params5] at ht
  obtain rfl : t = 9 := by simpa using Array.mem_of_getElem? ht
  exact (show Tryd.prog.wantsStandIn 9 = false by kernel_rfl)

theorem card : Rows.FnExactGetTicketCardSaid :=
  Claim7.holds_tied_plain_at .later [] _ _ _ _ said (fun _ h => by cases h) (by kernel_rfl) (fun _ h => by cases h) fnExactGetTicket_row_tie rfl ⟨rfl, rfl⟩ (by kernel_rfl) rfl plain (by kernel_rfl)
end Go.Proofs.YtcifgableeeooakDoor.fnExactGetTicket
namespace Go.Proofs.YtcifgableeeooakDoor
theorem FnExactGetTicket_holds : Rows.FnExactGetTicketCardSaid := fnExactGetTicket.card
end Go.Proofs.YtcifgableeeooakDoor

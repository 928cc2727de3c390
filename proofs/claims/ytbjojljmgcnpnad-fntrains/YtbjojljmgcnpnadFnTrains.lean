/- For every code the law of trains answers true: a train that can be asked from a station to another takes some time and cannot be asked back, and it runs just on the days that it tells, as its model does. No condition. -/
import Derived.Test.YtbjojljmgcnpnadErrs
import Derived.ShutString
import Derived.Lib.SmallJoins
import Derived.Test.YtbjojljmgcnpnadCurTn3
import Derived.Test.YtbjojljmgcnpnadTnTakes
import Derived.Test.YtbjojljmgcnpnadTnRuns
import Derived.Test.YtbjojljmgcnpnadCurNum
import Derived.Deep.Cut
import Derived.Deep.RegionHeld3
namespace Go.Proofs.Ytbjojljmgcnpnad.fnTrains
open Go.ChangeShapes Go.WideShapes Go.ChangeAt Go.RowKit Go.Joins
open Go.ChangeMaps (open_string shut_string)
set_option linter.unusedVariables false

def IsRow (k : IntKind) (w : World) (a : Option Addr) (len cap : Nat) (zs : List Int) : Prop :=
  (a = none ∧ len = 0 ∧ cap = 0 ∧ zs = []) ∨
  ∃ x, a = some x ∧ len ≤ cap ∧ cap ≤ maxLen ∧ zs.length = cap ∧ (∀ i, i < zs.length → w.cell? (x.add i) = some (.int k (zs.getD i 0))) ∧ ∀ n ∈ zs, (Lit.int k n).wf = true

theorem later {t : Tn.Hd} {l : List Tn.St} (h : Tn.okB t l = true) (i j : Nat) (hi : i < l.length) (hj : j < l.length) (hij : i < j) : l[i].dp < l[j].ar := by
  induction j with
  | zero => omega
  | succ j ih =>
    have hs := Tn.ok_step h (j + 1) hj
    rw [Tn.stepB_at l (j + 1) hj, Tn.gapB_pos l (j + 1) j hj rfl] at hs
    simp only [Bool.and_eq_true, decide_eq_true_eq] at hs
    by_cases e : i = j
    · subst e
      exact hs.2
    · have h1 := ih (by omega) (by omega)
      have h2 := (Tn.ok_stop h j (by omega)).2.2.1
      omega

theorem takes_pos {t : Tn.Hd} {l : List Tn.St} {x y : Int} (h : Tn.cutB t l x y = true) : 0 < Tn.takesV t l x y := by
  obtain ⟨i, j, hi, hj, hij, e1, e2, -⟩ := Tn.cut_is h
  rw [Tn.takes_yes hi hj h e1 e2]
  have := later (Tn.cut_ok h) i j hi hj hij
  omega

theorem cut_back {t : Tn.Hd} {l : List Tn.St} {x y : Int} (h : Tn.cutB t l x y = true) : Tn.cutB t l y x = false := by
  obtain ⟨i, j, hi, hj, hij, -, -, e1, e2, -⟩ := Tn.cut_is h
  unfold Tn.cutB
  rw [e1, e2, decide_eq_false (show ¬ ((j : Int) < (i : Int)) by omega), Bool.and_false, Bool.and_false]

theorem week {t : Tn.Hd} {l : List Tn.St} {d : Int} (h0 : 0 ≤ d) (h1 : d < 99990) : Tn.runsB t l (d + 7) = Tn.runsB t l d := by
  unfold Tn.runsB Tn.dayBit Tn.inB
  rw [show (d + 7) % 7 = d % 7 by omega, decide_eq_true (show 0 ≤ d + 7 ∧ d + 7 ≤ 99999 by omega), decide_eq_true (show 0 ≤ d ∧ d ≤ 99999 by omega)]


set_option maxRecDepth 100000 in
set_option maxHeartbeats 4000000 in
theorem walk (a0 : Option Addr) (len0 cap0 : Nat) (z0 : List Int) (w : World) (w0 : IsRow .u8 w a0 len0 cap0 z0)   :
    Calls Try.prog 3 #[.slice a0 len0 cap0] w fun e w' => e = .returned (.bool true) ∧ Below w.heap.size w w' := by
  by_cases hb : len0 ≤ 1048576
  · have B := Cur.bytes_of w a0 len0 cap0 z0 w0
    clear w0
    go_enter Try.func3, Try.ntmps3
    go_wp2_with fail
    refine (Cur.big_no a0 len0 cap0 _ hb).mono ?_
    rintro e w1 ⟨rfl, rfl⟩
    go_wp2_with fail
    refine (Tn.drawCut a0 len0 cap0 _ hb B).mono ?_
    rintro e w2 ⟨⟨h, l, va, vc, x, y, rfl, S2, hl5⟩, L2⟩
    have HIC : Hid (∀ a cap w, Tn.Stops w a l → _) := fun a cap w I => Tn.implCut_val h x y a l cap w (by unfold maxLen; omega) I
    have HSC : Hid (∀ a cap w, Tn.Stops w a l → _) := fun a cap w I => Tn.specCut_val h x y a l cap w (by unfold maxLen; omega) I
    have HIB : Hid (∀ a cap w, Tn.Stops w a l → _) := fun a cap w I => Tn.implCut_val h y x a l cap w (by unfold maxLen; omega) I
    have HIT : Hid (∀ a cap w, Tn.Stops w a l → _) := fun a cap w I => Tn.implTakes_val h x y a l cap w (by unfold maxLen; omega) I
    have HST : Hid (∀ a cap w, Tn.Stops w a l → _) := fun a cap w I => Tn.specTakes_val h x y a l cap w (by unfold maxLen; omega) I
    have HIO : Hid (∀ a cap w, Tn.Stops w a l → _) := fun a cap w I => Tn.implOk_val h a l cap w (by unfold maxLen; omega) I
    have HSO : Hid (∀ a cap w, Tn.Stops w a l → _) := fun a cap w I => Tn.specOk_val h a l cap w (by unfold maxLen; omega) I
    unfold Tn.cutV at HIC HSC HIB
    have HY : Hid (Tn.cutB h l x y = true → _) := fun h9 => Tn.cut_is h9
    have HP : Hid (Tn.cutB h l x y = true → 0 < Tn.takesV h l x y) := takes_pos
    have HBK : Hid (Tn.cutB h l x y = true → Tn.cutB h l y x = false) := cut_back
    have HNO : Hid (Tn.cutB h l x y = false → Tn.takesV h l x y = -1) := Tn.takes_no
    generalize Tn.cutA h l x y = cA at *
    generalize Tn.cutZ h l x y = cZ at *
    generalize Tn.cutB h l x y = cB at *
    generalize Tn.cutA h l y x = bA at *
    generalize Tn.cutZ h l y x = bZ at *
    generalize Tn.cutB h l y x = bB at *
    generalize Tn.takesV h l x y = tk at *
    generalize Tn.okB h l = ok at *
    have N2 := Pk.new_below w2 (Tn.trB h va l.length vc 26)
    have m2 := Pk.heap_new w2 (Tn.trB h va l.length vc 26)
    have K2 := Pk.join_below L2 N2
    have S2' := S2.on N2
    clear N2 L2 S2
    go_wp2_with fail
    refine (HIC.out _ _ _ S2').mono ?_
    rintro e w3 ⟨rfl, L3⟩
    have K3 := Pk.join_below K2 L3
    have m3 := Pk.kept L3 (Pk.lt_of m2) m2
    have S3 := S2'.on L3
    have c0 : w3.cell? ⟨w2.heap.size, 0, none⟩ = some (.int .i64 h.id) := Pk.cell_at m3 0
    have c1 : w3.cell? ⟨w2.heap.size, 1, none⟩ = some (.int .i64 h.dy) := Pk.cell_at m3 1
    have c2 : w3.cell? ⟨w2.heap.size, 2, none⟩ = some (.int .i64 h.co) := Pk.cell_at m3 2
    have c3 : w3.cell? ⟨w2.heap.size, 3, none⟩ = some (.int .i64 h.se) := Pk.cell_at m3 3
    have c4 : w3.cell? ⟨w2.heap.size, 4, none⟩ = some (.slice va l.length vc) := Pk.cell_at m3 4
    clear K2 m2 S2' L3 HIC
    go_wp2_with fail
    refine (HSC.out _ _ _ S3).mono ?_
    rintro e w4 ⟨rfl, L4⟩
    have K4 := Pk.join_below K3 L4
    have m4 := Pk.kept L4 (Pk.lt_of m3) m3
    have S4 := S3.on L4
    clear K3 m3 S3 L4 c0 c1 c2 c3 c4 HSC
    go_wp2_with fail
    refine (Tn.drawRuns a0 len0 cap0 _ hb (B.on K4)).mono ?_
    rintro e w5 ⟨⟨k, m, ua, uc, d, rfl, T5, hm5⟩, L5⟩
    have K5 := Pk.join_below K4 L5
    have m5 := Pk.kept L5 (Pk.lt_of m4) m4
    have S5 := S4.on L5
    clear K4 m4 S4 L5 B
    have HIR : Hid (∀ a cap w, Tn.Stops w a m → _) := fun a cap w I => Tn.implRuns_val k d a m cap w (by unfold maxLen; omega) I
    have HSR : Hid (∀ a cap w, Tn.Stops w a m → _) := fun a cap w I => Tn.specRuns_val k d a m cap w (by unfold maxLen; omega) I
    have HI7 : Hid (∀ a cap w, Tn.Stops w a m → _) := fun a cap w I => Tn.implRuns_val k (d + 7) a m cap w (by unfold maxLen; omega) I
    have HUO : Hid (∀ a cap w, Tn.Stops w a m → _) := fun a cap w I => Tn.specOk_val k a m cap w (by unfold maxLen; omega) I
    have HWK : Hid (0 ≤ d → d < 99990 → Tn.runsB k m (d + 7) = Tn.runsB k m d) := fun h1 h2 => week h1 h2
    generalize Tn.runsB k m (d + 7) = rn7 at *
    generalize Tn.runsB k m d = rn at *
    generalize Tn.okB k m = uo at *
    have N6 := Pk.new_below w5 (Tn.trB k ua m.length uc 26)
    have mB := Pk.heap_new w5 (Tn.trB k ua m.length uc 26)
    have mA := Pk.kept N6 (Pk.lt_of m5) m5
    have K6 := Pk.join_below K5 N6
    have SA := S5.on N6
    have SB := T5.on N6
    clear N6 K5 m5 S5 T5
    go_wp2
    generalize w5.alloc (Tn.trB k ua m.length uc 26) = W at *
    have c0 : W.cell? ⟨w2.heap.size, 0, none⟩ = some (.int .i64 h.id) := Pk.cell_at mA 0
    have c1 : W.cell? ⟨w2.heap.size, 1, none⟩ = some (.int .i64 h.dy) := Pk.cell_at mA 1
    have c2 : W.cell? ⟨w2.heap.size, 2, none⟩ = some (.int .i64 h.co) := Pk.cell_at mA 2
    have c3 : W.cell? ⟨w2.heap.size, 3, none⟩ = some (.int .i64 h.se) := Pk.cell_at mA 3
    have c4 : W.cell? ⟨w2.heap.size, 4, none⟩ = some (.slice va l.length vc) := Pk.cell_at mA 4
    have d0 : W.cell? ⟨w5.heap.size, 0, none⟩ = some (.int .i64 k.id) := Pk.cell_at mB 0
    have d1 : W.cell? ⟨w5.heap.size, 1, none⟩ = some (.int .i64 k.dy) := Pk.cell_at mB 1
    have d2 : W.cell? ⟨w5.heap.size, 2, none⟩ = some (.int .i64 k.co) := Pk.cell_at mB 2
    have d3 : W.cell? ⟨w5.heap.size, 3, none⟩ = some (.int .i64 k.se) := Pk.cell_at mB 3
    have d4 : W.cell? ⟨w5.heap.size, 4, none⟩ = some (.slice ua m.length uc) := Pk.cell_at mB 4
    have nb1 : (cB != cB) = false := by simp
    have nb2 : (ok != ok) = false := by simp
    have nb3 : (tk != tk) = false := by simp
    have nb4 : (rn != rn) = false := by simp
    go_cut [75] from 17 (fun t wc => t = .bool false ∧ Below W.heap.size W wc)
    case first =>
      go_region_held3 (fun w' => w'.cell? ⟨w2.heap.size, 0, none⟩ = some (.int .i64 h.id) ∧ w'.cell? ⟨w2.heap.size, 1, none⟩ = some (.int .i64 h.dy) ∧ w'.cell? ⟨w2.heap.size, 2, none⟩ = some (.int .i64 h.co) ∧ w'.cell? ⟨w2.heap.size, 3, none⟩ = some (.int .i64 h.se) ∧ w'.cell? ⟨w2.heap.size, 4, none⟩ = some (.slice va l.length vc) ∧ w'.cell? ⟨w5.heap.size, 0, none⟩ = some (.int .i64 k.id) ∧ w'.cell? ⟨w5.heap.size, 1, none⟩ = some (.int .i64 k.dy) ∧ w'.cell? ⟨w5.heap.size, 2, none⟩ = some (.int .i64 k.co) ∧ w'.cell? ⟨w5.heap.size, 3, none⟩ = some (.int .i64 k.se) ∧ w'.cell? ⟨w5.heap.size, 4, none⟩ = some (.slice ua m.length uc)) (go_keep) (first
        | (go_at_call 10; (with_reducible refine (HIO.out _ _ _ ?_).mono ?_); (first | exact SA | exact SA.on ((Below.refl _ _).drew)); rintro e x1 ⟨rfl, L1⟩; have K1 : Below W.heap.size W x1 := (by first | exact L1 | exact ((Below.refl _ _).drew).trans L1); have q1 := Pk.kept K1 (Pk.lt_of mA) mA; have c1_0 : x1.cell? ⟨w2.heap.size, 0, none⟩ = some (.int .i64 h.id) := Pk.cell_at q1 0; have c1_1 : x1.cell? ⟨w2.heap.size, 1, none⟩ = some (.int .i64 h.dy) := Pk.cell_at q1 1; have c1_2 : x1.cell? ⟨w2.heap.size, 2, none⟩ = some (.int .i64 h.co) := Pk.cell_at q1 2; have c1_3 : x1.cell? ⟨w2.heap.size, 3, none⟩ = some (.int .i64 h.se) := Pk.cell_at q1 3; have c1_4 : x1.cell? ⟨w2.heap.size, 4, none⟩ = some (.slice va l.length vc) := Pk.cell_at q1 4; have r1 := Pk.kept K1 (Pk.lt_of mB) mB; have d1_0 : x1.cell? ⟨w5.heap.size, 0, none⟩ = some (.int .i64 k.id) := Pk.cell_at r1 0; have d1_1 : x1.cell? ⟨w5.heap.size, 1, none⟩ = some (.int .i64 k.dy) := Pk.cell_at r1 1; have d1_2 : x1.cell? ⟨w5.heap.size, 2, none⟩ = some (.int .i64 k.co) := Pk.cell_at r1 2; have d1_3 : x1.cell? ⟨w5.heap.size, 3, none⟩ = some (.int .i64 k.se) := Pk.cell_at r1 3; have d1_4 : x1.cell? ⟨w5.heap.size, 4, none⟩ = some (.slice ua m.length uc) := Pk.cell_at r1 4)
        | (go_at_call 11; (with_reducible refine (HSO.out _ _ _ ?_).mono ?_); (exact SA.on K1); rintro e x2 ⟨rfl, L2⟩; have K2 : Below W.heap.size W x2 := (Pk.join_below K1 L2); have q2 := Pk.kept K2 (Pk.lt_of mA) mA; have c2_0 : x2.cell? ⟨w2.heap.size, 0, none⟩ = some (.int .i64 h.id) := Pk.cell_at q2 0; have c2_1 : x2.cell? ⟨w2.heap.size, 1, none⟩ = some (.int .i64 h.dy) := Pk.cell_at q2 1; have c2_2 : x2.cell? ⟨w2.heap.size, 2, none⟩ = some (.int .i64 h.co) := Pk.cell_at q2 2; have c2_3 : x2.cell? ⟨w2.heap.size, 3, none⟩ = some (.int .i64 h.se) := Pk.cell_at q2 3; have c2_4 : x2.cell? ⟨w2.heap.size, 4, none⟩ = some (.slice va l.length vc) := Pk.cell_at q2 4; have r2 := Pk.kept K2 (Pk.lt_of mB) mB; have d2_0 : x2.cell? ⟨w5.heap.size, 0, none⟩ = some (.int .i64 k.id) := Pk.cell_at r2 0; have d2_1 : x2.cell? ⟨w5.heap.size, 1, none⟩ = some (.int .i64 k.dy) := Pk.cell_at r2 1; have d2_2 : x2.cell? ⟨w5.heap.size, 2, none⟩ = some (.int .i64 k.co) := Pk.cell_at r2 2; have d2_3 : x2.cell? ⟨w5.heap.size, 3, none⟩ = some (.int .i64 k.se) := Pk.cell_at r2 3; have d2_4 : x2.cell? ⟨w5.heap.size, 4, none⟩ = some (.slice ua m.length uc) := Pk.cell_at r2 4)
        | (go_at_call 12; (with_reducible refine (HIT.out _ _ _ ?_).mono ?_); (exact SA.on K2); rintro e x3 ⟨rfl, L3⟩; have K3 : Below W.heap.size W x3 := (Pk.join_below K2 L3); have q3 := Pk.kept K3 (Pk.lt_of mA) mA; have c3_0 : x3.cell? ⟨w2.heap.size, 0, none⟩ = some (.int .i64 h.id) := Pk.cell_at q3 0; have c3_1 : x3.cell? ⟨w2.heap.size, 1, none⟩ = some (.int .i64 h.dy) := Pk.cell_at q3 1; have c3_2 : x3.cell? ⟨w2.heap.size, 2, none⟩ = some (.int .i64 h.co) := Pk.cell_at q3 2; have c3_3 : x3.cell? ⟨w2.heap.size, 3, none⟩ = some (.int .i64 h.se) := Pk.cell_at q3 3; have c3_4 : x3.cell? ⟨w2.heap.size, 4, none⟩ = some (.slice va l.length vc) := Pk.cell_at q3 4; have r3 := Pk.kept K3 (Pk.lt_of mB) mB; have d3_0 : x3.cell? ⟨w5.heap.size, 0, none⟩ = some (.int .i64 k.id) := Pk.cell_at r3 0; have d3_1 : x3.cell? ⟨w5.heap.size, 1, none⟩ = some (.int .i64 k.dy) := Pk.cell_at r3 1; have d3_2 : x3.cell? ⟨w5.heap.size, 2, none⟩ = some (.int .i64 k.co) := Pk.cell_at r3 2; have d3_3 : x3.cell? ⟨w5.heap.size, 3, none⟩ = some (.int .i64 k.se) := Pk.cell_at r3 3; have d3_4 : x3.cell? ⟨w5.heap.size, 4, none⟩ = some (.slice ua m.length uc) := Pk.cell_at r3 4)
        | (go_at_call 13; (with_reducible refine (HST.out _ _ _ ?_).mono ?_); (exact SA.on K3); rintro e x4 ⟨rfl, L4⟩; have K4 : Below W.heap.size W x4 := (Pk.join_below K3 L4); have q4 := Pk.kept K4 (Pk.lt_of mA) mA; have c4_0 : x4.cell? ⟨w2.heap.size, 0, none⟩ = some (.int .i64 h.id) := Pk.cell_at q4 0; have c4_1 : x4.cell? ⟨w2.heap.size, 1, none⟩ = some (.int .i64 h.dy) := Pk.cell_at q4 1; have c4_2 : x4.cell? ⟨w2.heap.size, 2, none⟩ = some (.int .i64 h.co) := Pk.cell_at q4 2; have c4_3 : x4.cell? ⟨w2.heap.size, 3, none⟩ = some (.int .i64 h.se) := Pk.cell_at q4 3; have c4_4 : x4.cell? ⟨w2.heap.size, 4, none⟩ = some (.slice va l.length vc) := Pk.cell_at q4 4; have r4 := Pk.kept K4 (Pk.lt_of mB) mB; have d4_0 : x4.cell? ⟨w5.heap.size, 0, none⟩ = some (.int .i64 k.id) := Pk.cell_at r4 0; have d4_1 : x4.cell? ⟨w5.heap.size, 1, none⟩ = some (.int .i64 k.dy) := Pk.cell_at r4 1; have d4_2 : x4.cell? ⟨w5.heap.size, 2, none⟩ = some (.int .i64 k.co) := Pk.cell_at r4 2; have d4_3 : x4.cell? ⟨w5.heap.size, 3, none⟩ = some (.int .i64 k.se) := Pk.cell_at r4 3; have d4_4 : x4.cell? ⟨w5.heap.size, 4, none⟩ = some (.slice ua m.length uc) := Pk.cell_at r4 4)
        | (go_at_call 14; (with_reducible refine (HIR.out _ _ _ ?_).mono ?_); (exact SB.on K4); rintro e x5 ⟨rfl, L5⟩; have K5 : Below W.heap.size W x5 := (Pk.join_below K4 L5); have q5 := Pk.kept K5 (Pk.lt_of mA) mA; have c5_0 : x5.cell? ⟨w2.heap.size, 0, none⟩ = some (.int .i64 h.id) := Pk.cell_at q5 0; have c5_1 : x5.cell? ⟨w2.heap.size, 1, none⟩ = some (.int .i64 h.dy) := Pk.cell_at q5 1; have c5_2 : x5.cell? ⟨w2.heap.size, 2, none⟩ = some (.int .i64 h.co) := Pk.cell_at q5 2; have c5_3 : x5.cell? ⟨w2.heap.size, 3, none⟩ = some (.int .i64 h.se) := Pk.cell_at q5 3; have c5_4 : x5.cell? ⟨w2.heap.size, 4, none⟩ = some (.slice va l.length vc) := Pk.cell_at q5 4; have r5 := Pk.kept K5 (Pk.lt_of mB) mB; have d5_0 : x5.cell? ⟨w5.heap.size, 0, none⟩ = some (.int .i64 k.id) := Pk.cell_at r5 0; have d5_1 : x5.cell? ⟨w5.heap.size, 1, none⟩ = some (.int .i64 k.dy) := Pk.cell_at r5 1; have d5_2 : x5.cell? ⟨w5.heap.size, 2, none⟩ = some (.int .i64 k.co) := Pk.cell_at r5 2; have d5_3 : x5.cell? ⟨w5.heap.size, 3, none⟩ = some (.int .i64 k.se) := Pk.cell_at r5 3; have d5_4 : x5.cell? ⟨w5.heap.size, 4, none⟩ = some (.slice ua m.length uc) := Pk.cell_at r5 4)
        | (go_at_call 15; (with_reducible refine (HSR.out _ _ _ ?_).mono ?_); (exact SB.on K5); rintro e x6 ⟨rfl, L6⟩; have K6 : Below W.heap.size W x6 := (Pk.join_below K5 L6); have q6 := Pk.kept K6 (Pk.lt_of mA) mA; have c6_0 : x6.cell? ⟨w2.heap.size, 0, none⟩ = some (.int .i64 h.id) := Pk.cell_at q6 0; have c6_1 : x6.cell? ⟨w2.heap.size, 1, none⟩ = some (.int .i64 h.dy) := Pk.cell_at q6 1; have c6_2 : x6.cell? ⟨w2.heap.size, 2, none⟩ = some (.int .i64 h.co) := Pk.cell_at q6 2; have c6_3 : x6.cell? ⟨w2.heap.size, 3, none⟩ = some (.int .i64 h.se) := Pk.cell_at q6 3; have c6_4 : x6.cell? ⟨w2.heap.size, 4, none⟩ = some (.slice va l.length vc) := Pk.cell_at q6 4; have r6 := Pk.kept K6 (Pk.lt_of mB) mB; have d6_0 : x6.cell? ⟨w5.heap.size, 0, none⟩ = some (.int .i64 k.id) := Pk.cell_at r6 0; have d6_1 : x6.cell? ⟨w5.heap.size, 1, none⟩ = some (.int .i64 k.dy) := Pk.cell_at r6 1; have d6_2 : x6.cell? ⟨w5.heap.size, 2, none⟩ = some (.int .i64 k.co) := Pk.cell_at r6 2; have d6_3 : x6.cell? ⟨w5.heap.size, 3, none⟩ = some (.int .i64 k.se) := Pk.cell_at r6 3; have d6_4 : x6.cell? ⟨w5.heap.size, 4, none⟩ = some (.slice ua m.length uc) := Pk.cell_at r6 4))
      all_goals
        go_wp2
        go_meet
        case rel => exact ⟨rfl, K6⟩
    case rest =>
      obtain ⟨rfl, LC⟩ := hcut
      obtain ⟨wq, hwq⟩ : ∃ wq, wq = wc := ⟨_, rfl⟩
      subst hwq
      have mA1 := Pk.kept LC (Pk.lt_of mA) mA
      have mB1 := Pk.kept LC (Pk.lt_of mB) mB
      have SA1 := SA.on LC
      have SB1 := SB.on LC
      have KC := Pk.join_below K6 LC
      clear mA mB SA SB K6 LC c0 c1 c2 c3 c4 d0 d1 d2 d3 d4 HIO HSO HST HSR nb1 nb2 nb3
      go_wp2
      have d0 : wq.cell? ⟨w5.heap.size, 0, none⟩ = some (.int .i64 k.id) := Pk.cell_at mB1 0
      have d1 : wq.cell? ⟨w5.heap.size, 1, none⟩ = some (.int .i64 k.dy) := Pk.cell_at mB1 1
      have d2 : wq.cell? ⟨w5.heap.size, 2, none⟩ = some (.int .i64 k.co) := Pk.cell_at mB1 2
      have d3 : wq.cell? ⟨w5.heap.size, 3, none⟩ = some (.int .i64 k.se) := Pk.cell_at mB1 3
      have d4 : wq.cell? ⟨w5.heap.size, 4, none⟩ = some (.slice ua m.length uc) := Pk.cell_at mB1 4
      go_cut [95] from 17 (fun t wd => t = .bool false ∧ Below wq.heap.size wq wd)
      case first =>
        cases uo
        · refine wp_region_any (by kernel_rfl) ?_
          try (change wpAny _ _ _ _ _ _ _ (World.drew _))
          refine wpAny_ready (rs := [0]) (by kernel_rfl) (by simp) ?_
          refine AllReady.cons rfl (fun K hK => ?_) AllReady.nil
          go_simp
          refine hK _ _ ?_
          clear hK K
          refine wpAny_ready (rs := [1]) (by kernel_rfl) (by simp) ?_
          refine AllReady.cons rfl (fun K hK => ?_) AllReady.nil
          go_simp
          go_wp2_with (go_at_call 11; (with_reducible refine (HUO.out _ _ _ ?_).mono ?_); (first | exact SB1 | exact SB1.on ((Below.refl _ _).drew)); rintro e x1 ⟨rfl, L1⟩; have J1 : Below wq.heap.size wq x1 := (by first | exact L1 | exact ((Below.refl _ _).drew).trans L1); have r1 := Pk.kept J1 (Pk.lt_of mB1) mB1; have d1_0 : x1.cell? ⟨w5.heap.size, 0, none⟩ = some (.int .i64 k.id) := Pk.cell_at r1 0; have d1_1 : x1.cell? ⟨w5.heap.size, 1, none⟩ = some (.int .i64 k.dy) := Pk.cell_at r1 1; have d1_2 : x1.cell? ⟨w5.heap.size, 2, none⟩ = some (.int .i64 k.co) := Pk.cell_at r1 2; have d1_3 : x1.cell? ⟨w5.heap.size, 3, none⟩ = some (.int .i64 k.se) := Pk.cell_at r1 3; have d1_4 : x1.cell? ⟨w5.heap.size, 4, none⟩ = some (.slice ua m.length uc) := Pk.cell_at r1 4)
          refine wpAny_take (i := 2) (v := .bool false) rfl (by kernel_rfl) (by kernel_rfl) (by kernel_rfl) (fun _ _ _ h => h) (Or.inl ⟨by kernel_rfl, fun w => by first | (go_simp; done) | rfl⟩) ?_
          simp only [Act.put, List.getElem_toArray, List.getElem_cons_succ, List.getElem_cons_zero, List.setIfInBounds_toArray, List.set_cons_succ, List.set_cons_zero]
          refine wpAny_take (i := 3) (v := undef) rfl (by kernel_rfl) (by kernel_rfl) (by kernel_rfl) (fun _ _ _ h => h) (Or.inr ⟨by kernel_rfl, rfl⟩) ?_
          simp only [Act.put, List.getElem_toArray, List.getElem_cons_succ, List.getElem_cons_zero, List.setIfInBounds_toArray, List.set_cons_succ, List.set_cons_zero]
          refine wpAny_take (i := 4) (v := undef) rfl (by kernel_rfl) (by kernel_rfl) (by kernel_rfl) (fun _ _ _ h => h) (Or.inr ⟨by kernel_rfl, rfl⟩) ?_
          simp only [Act.put, List.getElem_toArray, List.getElem_cons_succ, List.getElem_cons_zero, List.setIfInBounds_toArray, List.set_cons_succ, List.set_cons_zero]
          refine wpAny_take (i := 5) (v := .bool false) rfl (by kernel_rfl) (by kernel_rfl) (by kernel_rfl) (fun _ _ _ h => h) (Or.inl ⟨by kernel_rfl, fun w => by first | (go_simp; done) | rfl⟩) ?_
          simp only [Act.put, List.getElem_toArray, List.getElem_cons_succ, List.getElem_cons_zero, List.setIfInBounds_toArray, List.set_cons_succ, List.set_cons_zero]
          refine wpAny_take (i := 6) (v := .bool false) rfl (by kernel_rfl) (by kernel_rfl) (by kernel_rfl) (fun _ _ _ h => h) (Or.inl ⟨by kernel_rfl, fun w => by first | (go_simp; done) | rfl⟩) ?_
          simp only [Act.put, List.getElem_toArray, List.getElem_cons_succ, List.getElem_cons_zero, List.setIfInBounds_toArray, List.set_cons_succ, List.set_cons_zero]
          refine wpAny_take (i := 7) (v := undef) rfl (by kernel_rfl) (by kernel_rfl) (by kernel_rfl) (fun _ _ _ h => h) (Or.inr ⟨by kernel_rfl, rfl⟩) ?_
          simp only [Act.put, List.getElem_toArray, List.getElem_cons_succ, List.getElem_cons_zero, List.setIfInBounds_toArray, List.set_cons_succ, List.set_cons_zero]
          refine wpAny_take (i := 8) (v := undef) rfl (by kernel_rfl) (by kernel_rfl) (by kernel_rfl) (fun _ _ _ h => h) (Or.inr ⟨by kernel_rfl, rfl⟩) ?_
          simp only [Act.put, List.getElem_toArray, List.getElem_cons_succ, List.getElem_cons_zero, List.setIfInBounds_toArray, List.set_cons_succ, List.set_cons_zero]
          refine wpAny_take (i := 9) (v := .bool false) rfl (by kernel_rfl) (by kernel_rfl) (by kernel_rfl) (fun _ _ _ h => h) (Or.inl ⟨by kernel_rfl, fun w => by first | (go_simp; done) | rfl⟩) ?_
          simp only [Act.put, List.getElem_toArray, List.getElem_cons_succ, List.getElem_cons_zero, List.setIfInBounds_toArray, List.set_cons_succ, List.set_cons_zero]
          refine wpAny_take (i := 10) (v := .bool false) rfl (by kernel_rfl) (by kernel_rfl) (by kernel_rfl) (fun _ _ _ h => h) (Or.inl ⟨by kernel_rfl, fun w => by first | (go_simp; done) | rfl⟩) ?_
          simp only [Act.put, List.getElem_toArray, List.getElem_cons_succ, List.getElem_cons_zero, List.setIfInBounds_toArray, List.set_cons_succ, List.set_cons_zero]
          refine wpAny_take (i := 11) (v := undef) rfl (by kernel_rfl) (by kernel_rfl) (by kernel_rfl) (fun _ _ _ h => h) (Or.inr ⟨by kernel_rfl, rfl⟩) ?_
          simp only [Act.put, List.getElem_toArray, List.getElem_cons_succ, List.getElem_cons_zero, List.setIfInBounds_toArray, List.set_cons_succ, List.set_cons_zero]
          refine wpAny_take (i := 12) (v := undef) rfl (by kernel_rfl) (by kernel_rfl) (by kernel_rfl) (fun _ _ _ h => h) (Or.inr ⟨by kernel_rfl, rfl⟩) ?_
          simp only [Act.put, List.getElem_toArray, List.getElem_cons_succ, List.getElem_cons_zero, List.setIfInBounds_toArray, List.set_cons_succ, List.set_cons_zero]
          refine wpAny_take (i := 13) (v := undef) rfl (by kernel_rfl) (by kernel_rfl) (by kernel_rfl) (fun _ _ _ h => h) (Or.inr ⟨by kernel_rfl, rfl⟩) ?_
          simp only [Act.put, List.getElem_toArray, List.getElem_cons_succ, List.getElem_cons_zero, List.setIfInBounds_toArray, List.set_cons_succ, List.set_cons_zero]
          refine wpAny_take (i := 14) (v := undef) rfl (by kernel_rfl) (by kernel_rfl) (by kernel_rfl) (fun _ _ _ h => h) (Or.inr ⟨by kernel_rfl, rfl⟩) ?_
          simp only [Act.put, List.getElem_toArray, List.getElem_cons_succ, List.getElem_cons_zero, List.setIfInBounds_toArray, List.set_cons_succ, List.set_cons_zero]
          refine wpAny_take (i := 15) (v := undef) rfl (by kernel_rfl) (by kernel_rfl) (by kernel_rfl) (fun _ _ _ h => h) (Or.inr ⟨by kernel_rfl, rfl⟩) ?_
          simp only [Act.put, List.getElem_toArray, List.getElem_cons_succ, List.getElem_cons_zero, List.setIfInBounds_toArray, List.set_cons_succ, List.set_cons_zero]
          refine wpAny_take (i := 16) (v := undef) rfl (by kernel_rfl) (by kernel_rfl) (by kernel_rfl) (fun _ _ _ h => h) (Or.inr ⟨by kernel_rfl, rfl⟩) ?_
          simp only [Act.put, List.getElem_toArray, List.getElem_cons_succ, List.getElem_cons_zero, List.setIfInBounds_toArray, List.set_cons_succ, List.set_cons_zero]
          refine wpAny_take (i := 17) (v := undef) rfl (by kernel_rfl) (by kernel_rfl) (by kernel_rfl) (fun _ _ _ h => h) (Or.inr ⟨by kernel_rfl, rfl⟩) ?_
          simp only [Act.put, List.getElem_toArray, List.getElem_cons_succ, List.getElem_cons_zero, List.setIfInBounds_toArray, List.set_cons_succ, List.set_cons_zero]
          refine wpAny_take (i := 18) (v := undef) rfl (by kernel_rfl) (by kernel_rfl) (by kernel_rfl) (fun _ _ _ h => h) (Or.inr ⟨by kernel_rfl, rfl⟩) ?_
          simp only [Act.put, List.getElem_toArray, List.getElem_cons_succ, List.getElem_cons_zero, List.setIfInBounds_toArray, List.set_cons_succ, List.set_cons_zero]
          refine wpAny_take (i := 19) (v := .bool false) rfl (by kernel_rfl) (by kernel_rfl) (by kernel_rfl) (fun _ _ _ h => h) (Or.inl ⟨by kernel_rfl, fun w => by first | (go_simp; done) | rfl⟩) ?_
          simp only [Act.put, List.getElem_toArray, List.getElem_cons_succ, List.getElem_cons_zero, List.setIfInBounds_toArray, List.set_cons_succ, List.set_cons_zero]
          refine wpAny_done (by kernel_rfl) ?_ _
          go_wp2
          go_meet
          case rel => exact ⟨rfl, J1⟩
        by_cases h0 : 0 ≤ d
        case neg =>
          have g0 : decide ((0 : Int) ≤ d) = false := decide_eq_false h0
          refine wp_region_any (by kernel_rfl) ?_
          try (change wpAny _ _ _ _ _ _ _ (World.drew _))
          refine wpAny_ready (rs := [0]) (by kernel_rfl) (by simp) ?_
          refine AllReady.cons rfl (fun K hK => ?_) AllReady.nil
          go_simp
          refine hK _ _ ?_
          clear hK K
          refine wpAny_ready (rs := [1]) (by kernel_rfl) (by simp) ?_
          refine AllReady.cons rfl (fun K hK => ?_) AllReady.nil
          go_simp
          go_wp2_with (go_at_call 11; (with_reducible refine (HUO.out _ _ _ ?_).mono ?_); (first | exact SB1 | exact SB1.on ((Below.refl _ _).drew)); rintro e x1 ⟨rfl, L1⟩; have J1 : Below wq.heap.size wq x1 := (by first | exact L1 | exact ((Below.refl _ _).drew).trans L1); have r1 := Pk.kept J1 (Pk.lt_of mB1) mB1; have d1_0 : x1.cell? ⟨w5.heap.size, 0, none⟩ = some (.int .i64 k.id) := Pk.cell_at r1 0; have d1_1 : x1.cell? ⟨w5.heap.size, 1, none⟩ = some (.int .i64 k.dy) := Pk.cell_at r1 1; have d1_2 : x1.cell? ⟨w5.heap.size, 2, none⟩ = some (.int .i64 k.co) := Pk.cell_at r1 2; have d1_3 : x1.cell? ⟨w5.heap.size, 3, none⟩ = some (.int .i64 k.se) := Pk.cell_at r1 3; have d1_4 : x1.cell? ⟨w5.heap.size, 4, none⟩ = some (.slice ua m.length uc) := Pk.cell_at r1 4)
          refine wpAny_take (i := 2) (v := .bool true) rfl (by kernel_rfl) (by kernel_rfl) (by kernel_rfl) (fun _ _ _ h => h) (Or.inl ⟨by kernel_rfl, fun w => by first | (go_simp; done) | rfl⟩) ?_
          simp only [Act.put, List.getElem_toArray, List.getElem_cons_succ, List.getElem_cons_zero, List.setIfInBounds_toArray, List.set_cons_succ, List.set_cons_zero]
          refine wpAny_take (i := 3) (v := .int .i64 d) rfl (by kernel_rfl) (by kernel_rfl) (by kernel_rfl) (fun _ _ _ h => h) (Or.inl ⟨by kernel_rfl, fun w => by first | (go_simp; done) | rfl⟩) ?_
          simp only [Act.put, List.getElem_toArray, List.getElem_cons_succ, List.getElem_cons_zero, List.setIfInBounds_toArray, List.set_cons_succ, List.set_cons_zero]
          refine wpAny_take (i := 4) (v := .bool false) rfl (by kernel_rfl) (by kernel_rfl) (by kernel_rfl) (fun _ _ _ h => h) (Or.inl ⟨by kernel_rfl, fun w => by first | (go_simp; done) | rfl⟩) ?_
          simp only [Act.put, List.getElem_toArray, List.getElem_cons_succ, List.getElem_cons_zero, List.setIfInBounds_toArray, List.set_cons_succ, List.set_cons_zero]
          refine wpAny_take (i := 5) (v := .bool false) rfl (by kernel_rfl) (by kernel_rfl) (by kernel_rfl) (fun _ _ _ h => h) (Or.inl ⟨by kernel_rfl, fun w => by first | (go_simp; done) | rfl⟩) ?_
          simp only [Act.put, List.getElem_toArray, List.getElem_cons_succ, List.getElem_cons_zero, List.setIfInBounds_toArray, List.set_cons_succ, List.set_cons_zero]
          refine wpAny_take (i := 6) (v := .bool false) rfl (by kernel_rfl) (by kernel_rfl) (by kernel_rfl) (fun _ _ _ h => h) (Or.inl ⟨by kernel_rfl, fun w => by first | (go_simp; done) | rfl⟩) ?_
          simp only [Act.put, List.getElem_toArray, List.getElem_cons_succ, List.getElem_cons_zero, List.setIfInBounds_toArray, List.set_cons_succ, List.set_cons_zero]
          refine wpAny_take (i := 7) (v := undef) rfl (by kernel_rfl) (by kernel_rfl) (by kernel_rfl) (fun _ _ _ h => h) (Or.inr ⟨by kernel_rfl, rfl⟩) ?_
          simp only [Act.put, List.getElem_toArray, List.getElem_cons_succ, List.getElem_cons_zero, List.setIfInBounds_toArray, List.set_cons_succ, List.set_cons_zero]
          refine wpAny_take (i := 8) (v := undef) rfl (by kernel_rfl) (by kernel_rfl) (by kernel_rfl) (fun _ _ _ h => h) (Or.inr ⟨by kernel_rfl, rfl⟩) ?_
          simp only [Act.put, List.getElem_toArray, List.getElem_cons_succ, List.getElem_cons_zero, List.setIfInBounds_toArray, List.set_cons_succ, List.set_cons_zero]
          refine wpAny_take (i := 9) (v := .bool false) rfl (by kernel_rfl) (by kernel_rfl) (by kernel_rfl) (fun _ _ _ h => h) (Or.inl ⟨by kernel_rfl, fun w => by first | (go_simp; done) | rfl⟩) ?_
          simp only [Act.put, List.getElem_toArray, List.getElem_cons_succ, List.getElem_cons_zero, List.setIfInBounds_toArray, List.set_cons_succ, List.set_cons_zero]
          refine wpAny_take (i := 10) (v := .bool false) rfl (by kernel_rfl) (by kernel_rfl) (by kernel_rfl) (fun _ _ _ h => h) (Or.inl ⟨by kernel_rfl, fun w => by first | (go_simp; done) | rfl⟩) ?_
          simp only [Act.put, List.getElem_toArray, List.getElem_cons_succ, List.getElem_cons_zero, List.setIfInBounds_toArray, List.set_cons_succ, List.set_cons_zero]
          refine wpAny_take (i := 11) (v := undef) rfl (by kernel_rfl) (by kernel_rfl) (by kernel_rfl) (fun _ _ _ h => h) (Or.inr ⟨by kernel_rfl, rfl⟩) ?_
          simp only [Act.put, List.getElem_toArray, List.getElem_cons_succ, List.getElem_cons_zero, List.setIfInBounds_toArray, List.set_cons_succ, List.set_cons_zero]
          refine wpAny_take (i := 12) (v := undef) rfl (by kernel_rfl) (by kernel_rfl) (by kernel_rfl) (fun _ _ _ h => h) (Or.inr ⟨by kernel_rfl, rfl⟩) ?_
          simp only [Act.put, List.getElem_toArray, List.getElem_cons_succ, List.getElem_cons_zero, List.setIfInBounds_toArray, List.set_cons_succ, List.set_cons_zero]
          refine wpAny_take (i := 13) (v := undef) rfl (by kernel_rfl) (by kernel_rfl) (by kernel_rfl) (fun _ _ _ h => h) (Or.inr ⟨by kernel_rfl, rfl⟩) ?_
          simp only [Act.put, List.getElem_toArray, List.getElem_cons_succ, List.getElem_cons_zero, List.setIfInBounds_toArray, List.set_cons_succ, List.set_cons_zero]
          refine wpAny_take (i := 14) (v := undef) rfl (by kernel_rfl) (by kernel_rfl) (by kernel_rfl) (fun _ _ _ h => h) (Or.inr ⟨by kernel_rfl, rfl⟩) ?_
          simp only [Act.put, List.getElem_toArray, List.getElem_cons_succ, List.getElem_cons_zero, List.setIfInBounds_toArray, List.set_cons_succ, List.set_cons_zero]
          refine wpAny_take (i := 15) (v := undef) rfl (by kernel_rfl) (by kernel_rfl) (by kernel_rfl) (fun _ _ _ h => h) (Or.inr ⟨by kernel_rfl, rfl⟩) ?_
          simp only [Act.put, List.getElem_toArray, List.getElem_cons_succ, List.getElem_cons_zero, List.setIfInBounds_toArray, List.set_cons_succ, List.set_cons_zero]
          refine wpAny_take (i := 16) (v := undef) rfl (by kernel_rfl) (by kernel_rfl) (by kernel_rfl) (fun _ _ _ h => h) (Or.inr ⟨by kernel_rfl, rfl⟩) ?_
          simp only [Act.put, List.getElem_toArray, List.getElem_cons_succ, List.getElem_cons_zero, List.setIfInBounds_toArray, List.set_cons_succ, List.set_cons_zero]
          refine wpAny_take (i := 17) (v := undef) rfl (by kernel_rfl) (by kernel_rfl) (by kernel_rfl) (fun _ _ _ h => h) (Or.inr ⟨by kernel_rfl, rfl⟩) ?_
          simp only [Act.put, List.getElem_toArray, List.getElem_cons_succ, List.getElem_cons_zero, List.setIfInBounds_toArray, List.set_cons_succ, List.set_cons_zero]
          refine wpAny_take (i := 18) (v := undef) rfl (by kernel_rfl) (by kernel_rfl) (by kernel_rfl) (fun _ _ _ h => h) (Or.inr ⟨by kernel_rfl, rfl⟩) ?_
          simp only [Act.put, List.getElem_toArray, List.getElem_cons_succ, List.getElem_cons_zero, List.setIfInBounds_toArray, List.set_cons_succ, List.set_cons_zero]
          refine wpAny_take (i := 19) (v := .bool false) rfl (by kernel_rfl) (by kernel_rfl) (by kernel_rfl) (fun _ _ _ h => h) (Or.inl ⟨by kernel_rfl, fun w => by first | (go_simp; done) | rfl⟩) ?_
          simp only [Act.put, List.getElem_toArray, List.getElem_cons_succ, List.getElem_cons_zero, List.setIfInBounds_toArray, List.set_cons_succ, List.set_cons_zero]
          refine wpAny_done (by kernel_rfl) ?_ _
          go_wp2
          go_meet
          case rel => exact ⟨rfl, J1⟩
        by_cases h9 : d < 99990
        case neg =>
          have g0 : decide ((0 : Int) ≤ d) = true := decide_eq_true h0
          have g9 : decide (d < 99990) = false := decide_eq_false h9
          refine wp_region_any (by kernel_rfl) ?_
          try (change wpAny _ _ _ _ _ _ _ (World.drew _))
          refine wpAny_ready (rs := [0]) (by kernel_rfl) (by simp) ?_
          refine AllReady.cons rfl (fun K hK => ?_) AllReady.nil
          go_simp
          refine hK _ _ ?_
          clear hK K
          refine wpAny_ready (rs := [1]) (by kernel_rfl) (by simp) ?_
          refine AllReady.cons rfl (fun K hK => ?_) AllReady.nil
          go_simp
          go_wp2_with (go_at_call 11; (with_reducible refine (HUO.out _ _ _ ?_).mono ?_); (first | exact SB1 | exact SB1.on ((Below.refl _ _).drew)); rintro e x1 ⟨rfl, L1⟩; have J1 : Below wq.heap.size wq x1 := (by first | exact L1 | exact ((Below.refl _ _).drew).trans L1); have r1 := Pk.kept J1 (Pk.lt_of mB1) mB1; have d1_0 : x1.cell? ⟨w5.heap.size, 0, none⟩ = some (.int .i64 k.id) := Pk.cell_at r1 0; have d1_1 : x1.cell? ⟨w5.heap.size, 1, none⟩ = some (.int .i64 k.dy) := Pk.cell_at r1 1; have d1_2 : x1.cell? ⟨w5.heap.size, 2, none⟩ = some (.int .i64 k.co) := Pk.cell_at r1 2; have d1_3 : x1.cell? ⟨w5.heap.size, 3, none⟩ = some (.int .i64 k.se) := Pk.cell_at r1 3; have d1_4 : x1.cell? ⟨w5.heap.size, 4, none⟩ = some (.slice ua m.length uc) := Pk.cell_at r1 4)
          refine wpAny_take (i := 2) (v := .bool true) rfl (by kernel_rfl) (by kernel_rfl) (by kernel_rfl) (fun _ _ _ h => h) (Or.inl ⟨by kernel_rfl, fun w => by first | (go_simp; done) | rfl⟩) ?_
          simp only [Act.put, List.getElem_toArray, List.getElem_cons_succ, List.getElem_cons_zero, List.setIfInBounds_toArray, List.set_cons_succ, List.set_cons_zero]
          refine wpAny_take (i := 3) (v := .int .i64 d) rfl (by kernel_rfl) (by kernel_rfl) (by kernel_rfl) (fun _ _ _ h => h) (Or.inl ⟨by kernel_rfl, fun w => by first | (go_simp; done) | rfl⟩) ?_
          simp only [Act.put, List.getElem_toArray, List.getElem_cons_succ, List.getElem_cons_zero, List.setIfInBounds_toArray, List.set_cons_succ, List.set_cons_zero]
          refine wpAny_take (i := 4) (v := .bool true) rfl (by kernel_rfl) (by kernel_rfl) (by kernel_rfl) (fun _ _ _ h => h) (Or.inl ⟨by kernel_rfl, fun w => by first | (go_simp; done) | rfl⟩) ?_
          simp only [Act.put, List.getElem_toArray, List.getElem_cons_succ, List.getElem_cons_zero, List.setIfInBounds_toArray, List.set_cons_succ, List.set_cons_zero]
          refine wpAny_take (i := 5) (v := .bool true) rfl (by kernel_rfl) (by kernel_rfl) (by kernel_rfl) (fun _ _ _ h => h) (Or.inl ⟨by kernel_rfl, fun w => by first | (go_simp; done) | rfl⟩) ?_
          simp only [Act.put, List.getElem_toArray, List.getElem_cons_succ, List.getElem_cons_zero, List.setIfInBounds_toArray, List.set_cons_succ, List.set_cons_zero]
          refine wpAny_take (i := 6) (v := .bool true) rfl (by kernel_rfl) (by kernel_rfl) (by kernel_rfl) (fun _ _ _ h => h) (Or.inl ⟨by kernel_rfl, fun w => by first | (go_simp; done) | rfl⟩) ?_
          simp only [Act.put, List.getElem_toArray, List.getElem_cons_succ, List.getElem_cons_zero, List.setIfInBounds_toArray, List.set_cons_succ, List.set_cons_zero]
          refine wpAny_take (i := 7) (v := .int .i64 d) rfl (by kernel_rfl) (by kernel_rfl) (by kernel_rfl) (fun _ _ _ h => h) (Or.inl ⟨by kernel_rfl, fun w => by first | (go_simp; done) | rfl⟩) ?_
          simp only [Act.put, List.getElem_toArray, List.getElem_cons_succ, List.getElem_cons_zero, List.setIfInBounds_toArray, List.set_cons_succ, List.set_cons_zero]
          refine wpAny_take (i := 8) (v := .bool false) rfl (by kernel_rfl) (by kernel_rfl) (by kernel_rfl) (fun _ _ _ h => h) (Or.inl ⟨by kernel_rfl, fun w => by first | (go_simp; done) | rfl⟩) ?_
          simp only [Act.put, List.getElem_toArray, List.getElem_cons_succ, List.getElem_cons_zero, List.setIfInBounds_toArray, List.set_cons_succ, List.set_cons_zero]
          refine wpAny_take (i := 9) (v := .bool false) rfl (by kernel_rfl) (by kernel_rfl) (by kernel_rfl) (fun _ _ _ h => h) (Or.inl ⟨by kernel_rfl, fun w => by first | (go_simp; done) | rfl⟩) ?_
          simp only [Act.put, List.getElem_toArray, List.getElem_cons_succ, List.getElem_cons_zero, List.setIfInBounds_toArray, List.set_cons_succ, List.set_cons_zero]
          refine wpAny_take (i := 10) (v := .bool false) rfl (by kernel_rfl) (by kernel_rfl) (by kernel_rfl) (fun _ _ _ h => h) (Or.inl ⟨by kernel_rfl, fun w => by first | (go_simp; done) | rfl⟩) ?_
          simp only [Act.put, List.getElem_toArray, List.getElem_cons_succ, List.getElem_cons_zero, List.setIfInBounds_toArray, List.set_cons_succ, List.set_cons_zero]
          refine wpAny_take (i := 11) (v := undef) rfl (by kernel_rfl) (by kernel_rfl) (by kernel_rfl) (fun _ _ _ h => h) (Or.inr ⟨by kernel_rfl, rfl⟩) ?_
          simp only [Act.put, List.getElem_toArray, List.getElem_cons_succ, List.getElem_cons_zero, List.setIfInBounds_toArray, List.set_cons_succ, List.set_cons_zero]
          refine wpAny_take (i := 12) (v := undef) rfl (by kernel_rfl) (by kernel_rfl) (by kernel_rfl) (fun _ _ _ h => h) (Or.inr ⟨by kernel_rfl, rfl⟩) ?_
          simp only [Act.put, List.getElem_toArray, List.getElem_cons_succ, List.getElem_cons_zero, List.setIfInBounds_toArray, List.set_cons_succ, List.set_cons_zero]
          refine wpAny_take (i := 13) (v := undef) rfl (by kernel_rfl) (by kernel_rfl) (by kernel_rfl) (fun _ _ _ h => h) (Or.inr ⟨by kernel_rfl, rfl⟩) ?_
          simp only [Act.put, List.getElem_toArray, List.getElem_cons_succ, List.getElem_cons_zero, List.setIfInBounds_toArray, List.set_cons_succ, List.set_cons_zero]
          refine wpAny_take (i := 14) (v := undef) rfl (by kernel_rfl) (by kernel_rfl) (by kernel_rfl) (fun _ _ _ h => h) (Or.inr ⟨by kernel_rfl, rfl⟩) ?_
          simp only [Act.put, List.getElem_toArray, List.getElem_cons_succ, List.getElem_cons_zero, List.setIfInBounds_toArray, List.set_cons_succ, List.set_cons_zero]
          refine wpAny_take (i := 15) (v := undef) rfl (by kernel_rfl) (by kernel_rfl) (by kernel_rfl) (fun _ _ _ h => h) (Or.inr ⟨by kernel_rfl, rfl⟩) ?_
          simp only [Act.put, List.getElem_toArray, List.getElem_cons_succ, List.getElem_cons_zero, List.setIfInBounds_toArray, List.set_cons_succ, List.set_cons_zero]
          refine wpAny_take (i := 16) (v := undef) rfl (by kernel_rfl) (by kernel_rfl) (by kernel_rfl) (fun _ _ _ h => h) (Or.inr ⟨by kernel_rfl, rfl⟩) ?_
          simp only [Act.put, List.getElem_toArray, List.getElem_cons_succ, List.getElem_cons_zero, List.setIfInBounds_toArray, List.set_cons_succ, List.set_cons_zero]
          refine wpAny_take (i := 17) (v := undef) rfl (by kernel_rfl) (by kernel_rfl) (by kernel_rfl) (fun _ _ _ h => h) (Or.inr ⟨by kernel_rfl, rfl⟩) ?_
          simp only [Act.put, List.getElem_toArray, List.getElem_cons_succ, List.getElem_cons_zero, List.setIfInBounds_toArray, List.set_cons_succ, List.set_cons_zero]
          refine wpAny_take (i := 18) (v := undef) rfl (by kernel_rfl) (by kernel_rfl) (by kernel_rfl) (fun _ _ _ h => h) (Or.inr ⟨by kernel_rfl, rfl⟩) ?_
          simp only [Act.put, List.getElem_toArray, List.getElem_cons_succ, List.getElem_cons_zero, List.setIfInBounds_toArray, List.set_cons_succ, List.set_cons_zero]
          refine wpAny_take (i := 19) (v := .bool false) rfl (by kernel_rfl) (by kernel_rfl) (by kernel_rfl) (fun _ _ _ h => h) (Or.inl ⟨by kernel_rfl, fun w => by first | (go_simp; done) | rfl⟩) ?_
          simp only [Act.put, List.getElem_toArray, List.getElem_cons_succ, List.getElem_cons_zero, List.setIfInBounds_toArray, List.set_cons_succ, List.set_cons_zero]
          refine wpAny_done (by kernel_rfl) ?_ _
          go_wp2
          go_meet
          case rel => exact ⟨rfl, J1⟩
        obtain rfl := HWK.out h0 h9
        have g0 : decide ((0 : Int) ≤ d) = true := decide_eq_true h0
        have g9 : decide (d < 99990) = true := decide_eq_true h9
        have hw : IntKind.i64.wrap (d + 7) = d + 7 := by rw [IntKind.wrap_i64]; omega
        go_region_held3 (fun w' => w'.cell? ⟨w5.heap.size, 0, none⟩ = some (.int .i64 k.id) ∧ w'.cell? ⟨w5.heap.size, 1, none⟩ = some (.int .i64 k.dy) ∧ w'.cell? ⟨w5.heap.size, 2, none⟩ = some (.int .i64 k.co) ∧ w'.cell? ⟨w5.heap.size, 3, none⟩ = some (.int .i64 k.se) ∧ w'.cell? ⟨w5.heap.size, 4, none⟩ = some (.slice ua m.length uc)) (go_keep) (first
          | (go_at_call 11; (with_reducible refine (HUO.out _ _ _ ?_).mono ?_); (first | exact SB1 | exact SB1.on ((Below.refl _ _).drew)); rintro e x1 ⟨rfl, L1⟩; have J1 : Below wq.heap.size wq x1 := (by first | exact L1 | exact ((Below.refl _ _).drew).trans L1); have r1 := Pk.kept J1 (Pk.lt_of mB1) mB1; have d1_0 : x1.cell? ⟨w5.heap.size, 0, none⟩ = some (.int .i64 k.id) := Pk.cell_at r1 0; have d1_1 : x1.cell? ⟨w5.heap.size, 1, none⟩ = some (.int .i64 k.dy) := Pk.cell_at r1 1; have d1_2 : x1.cell? ⟨w5.heap.size, 2, none⟩ = some (.int .i64 k.co) := Pk.cell_at r1 2; have d1_3 : x1.cell? ⟨w5.heap.size, 3, none⟩ = some (.int .i64 k.se) := Pk.cell_at r1 3; have d1_4 : x1.cell? ⟨w5.heap.size, 4, none⟩ = some (.slice ua m.length uc) := Pk.cell_at r1 4)
          | (go_at_call 14; (with_reducible refine (HIR.out _ _ _ ?_).mono ?_); (exact SB1.on J1); rintro e x2 ⟨rfl, L2⟩; have J2 : Below wq.heap.size wq x2 := (Pk.join_below J1 L2); have r2 := Pk.kept J2 (Pk.lt_of mB1) mB1; have d2_0 : x2.cell? ⟨w5.heap.size, 0, none⟩ = some (.int .i64 k.id) := Pk.cell_at r2 0; have d2_1 : x2.cell? ⟨w5.heap.size, 1, none⟩ = some (.int .i64 k.dy) := Pk.cell_at r2 1; have d2_2 : x2.cell? ⟨w5.heap.size, 2, none⟩ = some (.int .i64 k.co) := Pk.cell_at r2 2; have d2_3 : x2.cell? ⟨w5.heap.size, 3, none⟩ = some (.int .i64 k.se) := Pk.cell_at r2 3; have d2_4 : x2.cell? ⟨w5.heap.size, 4, none⟩ = some (.slice ua m.length uc) := Pk.cell_at r2 4)
          | (go_at_call 14; (with_reducible refine (HI7.out _ _ _ ?_).mono ?_); (exact SB1.on J2); rintro e x3 ⟨rfl, L3⟩; have J3 : Below wq.heap.size wq x3 := (Pk.join_below J2 L3); have r3 := Pk.kept J3 (Pk.lt_of mB1) mB1; have d3_0 : x3.cell? ⟨w5.heap.size, 0, none⟩ = some (.int .i64 k.id) := Pk.cell_at r3 0; have d3_1 : x3.cell? ⟨w5.heap.size, 1, none⟩ = some (.int .i64 k.dy) := Pk.cell_at r3 1; have d3_2 : x3.cell? ⟨w5.heap.size, 2, none⟩ = some (.int .i64 k.co) := Pk.cell_at r3 2; have d3_3 : x3.cell? ⟨w5.heap.size, 3, none⟩ = some (.int .i64 k.se) := Pk.cell_at r3 3; have d3_4 : x3.cell? ⟨w5.heap.size, 4, none⟩ = some (.slice ua m.length uc) := Pk.cell_at r3 4))
        all_goals
          go_wp2
          go_meet
          case rel => exact ⟨rfl, J3⟩
      case rest =>
        obtain ⟨rfl, LD⟩ := hcut
        have mA2 := Pk.kept LD (Pk.lt_of mA1) mA1
        have SA2 := SA1.on LD
        have KD := Pk.join_below KC LD
        clear mA1 mB1 SA1 SB1 KC LD d0 d1 d2 d3 d4 HIR HI7 HUO HWK nb4
        have c0 : wc.cell? ⟨w2.heap.size, 0, none⟩ = some (.int .i64 h.id) := Pk.cell_at mA2 0
        have c1 : wc.cell? ⟨w2.heap.size, 1, none⟩ = some (.int .i64 h.dy) := Pk.cell_at mA2 1
        have c2 : wc.cell? ⟨w2.heap.size, 2, none⟩ = some (.int .i64 h.co) := Pk.cell_at mA2 2
        have c3 : wc.cell? ⟨w2.heap.size, 3, none⟩ = some (.int .i64 h.se) := Pk.cell_at mA2 3
        have c4 : wc.cell? ⟨w2.heap.size, 4, none⟩ = some (.slice va l.length vc) := Pk.cell_at mA2 4
        cases cB
        · obtain rfl := HNO.out rfl
          go_wp2_with fail
          refine (HIT.out _ _ _ SA2).mono ?_
          rintro e x1 ⟨rfl, L1⟩
          go_wp2
          go_ret
          exact ⟨rfl, Pk.join_below KD L1⟩
        obtain rfl : bB = false := HBK.out rfl
        have hp := HP.out rfl
        obtain ⟨i, j, hi, hj, hij, rfl, rfl, -, -, e1, e2⟩ := HY.out rfl
        have g1 : decide ((i : Int) < (j : Int)) = true := decide_eq_true (by omega)
        have g2 : decide ((0 : Int) < tk) = true := decide_eq_true hp
        have g3 : decide (i < j) = true := decide_eq_true hij
        go_wp2_with fail
        refine (HIB.out _ _ _ SA2).mono ?_
        rintro e x1 ⟨rfl, L1⟩
        have K1 := Pk.join_below KD L1
        have mA3 := Pk.kept L1 (Pk.lt_of mA2) mA2
        have SA3 := SA2.on L1
        clear c0 c1 c2 c3 c4 KD L1 mA2 SA2 HNO HBK HP HY
        have c0 : x1.cell? ⟨w2.heap.size, 0, none⟩ = some (.int .i64 h.id) := Pk.cell_at mA3 0
        have c1 : x1.cell? ⟨w2.heap.size, 1, none⟩ = some (.int .i64 h.dy) := Pk.cell_at mA3 1
        have c2 : x1.cell? ⟨w2.heap.size, 2, none⟩ = some (.int .i64 h.co) := Pk.cell_at mA3 2
        have c3 : x1.cell? ⟨w2.heap.size, 3, none⟩ = some (.int .i64 h.se) := Pk.cell_at mA3 3
        have c4 : x1.cell? ⟨w2.heap.size, 4, none⟩ = some (.slice va l.length vc) := Pk.cell_at mA3 4
        go_wp2_with fail
        refine (HIT.out _ _ _ SA3).mono ?_
        rintro e x2 ⟨rfl, L2⟩
        have K2 := Pk.join_below K1 L2
        have mA4 := Pk.kept L2 (Pk.lt_of mA3) mA3
        have SA4 := SA3.on L2
        clear c0 c1 c2 c3 c4 K1 L2 mA3 SA3
        obtain ⟨b, o, rfl, -, p0, -, -⟩ := SA4.at i hi
        obtain ⟨b', o', he, -, q0, -, -⟩ := SA4.at j hj
        simp only [Option.some.injEq, Addr.mk.injEq, and_true] at he
        obtain ⟨rfl, rfl⟩ := he
        rw [e1] at p0
        rw [e2] at q0
        have c4 : x2.cell? ⟨w2.heap.size, 4, none⟩ = some (.slice (some ⟨b, o, none⟩) l.length vc) := Pk.cell_at mA4 4
        have i1 : (i : Int) < (l.length : Int) := by omega
        have i2 : (j : Int) < (l.length : Int) := by omega
        clear e1 e2 mA4 SA4
        go_wp2
        go_ret
        exact ⟨rfl, K2⟩
  · clear w0
    go_enter Try.func3, Try.ntmps3
    go_wp2_with fail
    refine (Cur.big_yes a0 len0 cap0 _ hb).mono ?_
    rintro e w1 ⟨rfl, rfl⟩
    go_wp2
    go_ret
    exact ⟨rfl, Below.refl _ _⟩

set_option maxRecDepth 100000 in
theorem contract (H : Type) (enc : TypeId × Value → H) (W : World) (base : Nat) (args : Array Value) (ds gs : List (DataW H)) (before : List MemPlace)
    (hval : ∀ (j : Nat) t v, Try.f3.params[j]? = some t → args[j]? = some v → Value.okWide Try.prog W .any base t v)
    (hW : DataW.Whole enc Try.prog Try.f3.params.toList Rows.fnTrainsSpec.vars false W args.toList ds gs before) :
    Calls Try.prog 3 args W fun e W' => ∃ v, e = .returned v ∧ Rows.fnTrainsSpec.post enc Try.prog Try.f3 false true false false W args v W' := by
  have hW' := hW
  obtain ⟨p, q, hA0, hV, rfl, hfz, hnd⟩ := hW
  have hA : DataW.TrodAll enc Try.prog W 0 (fun _ => true) true Try.f3.params.toList args.toList ds p := hA0
  rw [Try.params3] at hA hval
  obtain ⟨v0, vs0, d0, ds0, p0, q0, hargs, rfl, rfl, h0, r0⟩ := trodAll_cons hA
  obtain ⟨rfl, rfl, rfl⟩ := trodAll_nil r0
  obtain rfl : args = #[v0] := by cases args; simp_all
  obtain ⟨rfl, rfl⟩ := trodVars_none hV
  have k0 := h0
  have lt0 : ∀ x ∈ p0, x.block < W.heap.size := by obtain ⟨m, hm⟩ := k0; exact DataW.trod_lt m _ _ _ hm
  obtain ⟨a0, len0, cap0, rfl⟩ := okWide_slice Try.underlying22 (hval 0 22 v0 rfl rfl)
  obtain ⟨z0, w0⟩ : ∃ zs, IsRow .u8 W a0 len0 cap0 zs := by
    obtain ⟨fuel, hf⟩ := h0
    rcases open_ints Try.underlying22 Try.underlying5 (by kernel_rfl) hf with ⟨hcs, _⟩ | ⟨x, l, c, zs, hcs, _, hl, hm, hz, _, hcell, hwz⟩
    · simp [Value.cells] at hcs
      obtain ⟨rfl, rfl, rfl⟩ := hcs
      exact ⟨[], .inl ⟨rfl, rfl, rfl, rfl⟩⟩
    · simp [Value.cells] at hcs
      obtain ⟨rfl, rfl, rfl⟩ := hcs
      exact ⟨zs, .inr ⟨_, rfl, hl, hm, by simpa using hz, hcell, hwz⟩⟩
  clear hA0
  refine (walk a0 len0 cap0 z0 W w0 ).mono fun e W' ⟨he, bel⟩ => ?_
  subst he
  exact ⟨_, rfl, _, _, _, [], _, [], hW', trodAll_mk1 (shut_bool Try.underlying4 _), (trodAll_cons_mk (Below.trod Errs.laidOut (by kernel_rfl) (of_decide_eq_true (by kernel_rfl)) k0 bel lt0) trodAll_mk0), rfl, bel.frame _, fun h => by cases h⟩

set_option maxRecDepth 100000 in
theorem lifted (os : Os) (started : os.Started) (H : Type) (enc : TypeId × Value → H) :
    ReturnsInHanded {} Try.checked os 3 .any (Rows.fnTrainsSpec.pre6 enc Try.prog Try.f3 Rows.fnTrainsRow.domain false) (Rows.fnTrainsSpec.post enc Try.prog Try.f3 false true false false) := by
  refine returnsInHanded_of_change (C := Try.checked) Errs.own started (by kernel_rfl) Try.func3
    (ChangeSpec.witness6 (enc := enc) (C := Try.checked) false ⟨#[], #[.slice none 0 0], []⟩ 8 (by kernel_rfl) (by kernel_rfl) (by kernel_rfl) (by kernel_rfl)) ?_
  intro W base args ds gs before hval hW _ _
  exact contract H enc W base args ds gs before hval hW

set_option maxRecDepth 100000 in
theorem over : Rows.fnTrainsRow.holds Try.pinned (OpenSpec.ofChange Rows.fnTrainsSpec) :=
  OpenClaim.holds_of_wide 3 Try.f3 rfl rfl rfl rfl rfl rfl rfl ⟨rfl, rfl, rfl, rfl, rfl⟩ rfl rfl rfl rfl rfl (by kernel_rfl) Try.func3 (by kernel_rfl)
    (of_decide_eq_true (by kernel_rfl)) (by unfold Func.isWrapper; first | (rw [if_pos (by decide +kernel)]; kernel_rfl) | (rw [if_neg (by decide +kernel)]; exact ⟨rfl, rfl⟩))
    (fun os started H enc _ => lifted os started H enc)
end Go.Proofs.Ytbjojljmgcnpnad.fnTrains
namespace Go.Proofs.Ytbjojljmgcnpnad
theorem FnTrains_holds : Rows.FnTrainsSaid := fnTrains.over
end Go.Proofs.Ytbjojljmgcnpnad

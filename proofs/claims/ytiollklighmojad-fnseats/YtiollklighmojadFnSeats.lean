/- For every code the law of seats answers true: the seats that are given, the first and the tightest, and how many are free, are as their model says, of a drawn list of holds and a drawn train; there is one just when some are free; taken, the list is right, there is one less and it cannot be taken again; given back, all is as before. No condition. -/
import Derived.Test.YtiollklighmojadErrs
import Derived.ShutString
import Derived.Lib.SmallJoins
import Derived.Test.YtiollklighmojadSeGive
import Derived.Test.YtiollklighmojadSeKeep
import Derived.Test.YtiollklighmojadSeRel
import Derived.Test.YtiollklighmojadCurSe7
import Derived.Test.YtiollklighmojadCurNum
namespace Go.Proofs.Ytiollklighmojad.fnSeats
open Go.ChangeShapes Go.WideShapes Go.ChangeAt Go.RowKit Go.Joins
open Go.ChangeMaps (open_string shut_string)
set_option linter.unusedVariables false
set_option linter.unusedSimpArgs false

def IsRow (k : IntKind) (w : World) (a : Option Addr) (len cap : Nat) (zs : List Int) : Prop :=
  (a = none ∧ len = 0 ∧ cap = 0 ∧ zs = []) ∨
  ∃ x, a = some x ∧ len ≤ cap ∧ cap ≤ maxLen ∧ zs.length = cap ∧ (∀ i, i < zs.length → w.cell? (x.add i) = some (.int k (zs.getD i 0))) ∧ ∀ n ∈ zs, (Lit.int k n).wf = true

set_option maxRecDepth 100000 in
set_option maxHeartbeats 8000000 in
theorem walk (a0 : Option Addr) (len0 cap0 : Nat) (z0 : List Int) (w : World) (w0 : IsRow .u8 w a0 len0 cap0 z0)  :
    Calls Try.prog 7 #[.slice a0 len0 cap0] w fun e w' => e = .returned (.bool true) ∧ Below w.heap.size w w' := by
  by_cases hb : len0 ≤ 1048576
  · have B := Cur.bytes_of w a0 len0 cap0 z0 w0
    clear w0
    go_enter Try.func7, Try.ntmps7
    go_wp2_with fail
    refine (Cur.big_no a0 len0 cap0 _ hb).mono ?_
    rintro e w1 ⟨rfl, rfl⟩
    go_wp2_with fail
    refine (Se.drawFreeSeat _ a0 len0 cap0 hb B).mono ?_
    rintro e w2 ⟨⟨l, g, vc, t, ls, ta, tc, day, x, y, rfl, I2, hw, hl, J2, hls⟩, L2⟩
    have N3 := Pk.new_below w2 (.cells #[.int .i64 t.id, .int .i64 t.dy, .int .i64 t.co, .int .i64 t.se, .slice ta ls.length tc] 26)
    have m3 := Pk.heap_new w2 (.cells #[.int .i64 t.id, .int .i64 t.dy, .int .i64 t.co, .int .i64 t.se, .slice ta ls.length tc] 26)
    have I3 := I2.on N3
    have J3 := J2.on N3
    have K3 := Pk.join_below L2 N3
    clear I2 J2 L2 N3 B
    have hws := hw.wfs
    have hlx : ls.length ≤ maxLen := by unfold maxLen; omega
    have HF1 : Hid (∀ W, Se.Holds W (some ⟨g, 0, none⟩) l → Tn.Stops W ta ls → _) := fun W h1 h2 => Se.implFirst_val (some ⟨g, 0, none⟩) l vc t ta ls tc day x y W (by omega) hlx h1 h2 hws
    have HB1 : Hid (∀ W, Se.Holds W (some ⟨g, 0, none⟩) l → Tn.Stops W ta ls → _) := fun W h1 h2 => Se.implBest_val (some ⟨g, 0, none⟩) l vc t ta ls tc day x y W (by omega) hlx h1 h2 hws
    have HC1 : Hid (∀ W, Se.Holds W (some ⟨g, 0, none⟩) l → Tn.Stops W ta ls → _) := fun W h1 h2 => Se.implCount_val (some ⟨g, 0, none⟩) l vc t ta ls tc day x y W (by omega) hlx h1 h2 hws
    have HF2 : Hid (∀ W, Se.Holds W (some ⟨g, 0, none⟩) l → Tn.Stops W ta ls → _) := fun W h1 h2 => Se.specFirst_val (some ⟨g, 0, none⟩) l vc t ta ls tc day x y W (by omega) hlx h1 h2 hws
    have HB2 : Hid (∀ W, Se.Holds W (some ⟨g, 0, none⟩) l → Tn.Stops W ta ls → _) := fun W h1 h2 => Se.specBest_val (some ⟨g, 0, none⟩) l vc t ta ls tc day x y W (by omega) hlx h1 h2 hws
    have HC2 : Hid (∀ W, Se.Holds W (some ⟨g, 0, none⟩) l → Tn.Stops W ta ls → _) := fun W h1 h2 => Se.specCount_val (some ⟨g, 0, none⟩) l vc t ta ls tc day x y W (by omega) hlx h1 h2 hws
    have HG : Hid (0 < (Se.resL l t ls day x y).length → Se.Given l t ls day x y (Se.bestP (Se.resL l t ls day x y) (Se.gapV l ls.length))) := fun h => Se.given h
    have hcp := Se.cnt_pos l t ls day x y
    have HCL : Hid (Se.cntV l t ls day x y ≤ 1800) := by
      show _ ≤ _
      have := Se.res_len l t ls day x y
      unfold Se.cntV
      split <;> omega
    generalize Se.bestP (Se.resL l t ls day x y) (Se.gapV l ls.length) = p at *
    generalize Se.firstC (Se.resL l t ls day x y) = fc at *
    generalize Se.firstS (Se.resL l t ls day x y) = fs at *
    by_cases hr : 0 < (Se.resL l t ls day x y).length
    · have hd : decide (0 < (Se.resL l t ls day x y).length) = true := decide_eq_true hr
      rw [hd] at HF1 HB1 HF2 HB2 hcp
      have GV := HG.out hr
      have HT : Hid (∀ W, Se.Holds W (some ⟨g, 0, none⟩) l → _) := fun W h1 => Se.specHolds_val (some ⟨g, 0, none⟩) l vc W (by unfold maxLen; omega) h1
      clear HG hr hd
      obtain ⟨P, hP⟩ : ∃ P, w2.heap.size = P := ⟨_, rfl⟩
      rw [hP] at m3
      generalize hn : Se.cntV l t ls day x y = nn at *
      have hn0 : decide (0 < nn) = true := hcp
      have b0 : (w2.alloc (.cells #[.int .i64 t.id, .int .i64 t.dy, .int .i64 t.co, .int .i64 t.se, .slice ta ls.length tc] 26)).cell? ⟨P, 0, none⟩ = some (.int .i64 t.id) := Pk.cell_at m3 0
      have b1 : (w2.alloc (.cells #[.int .i64 t.id, .int .i64 t.dy, .int .i64 t.co, .int .i64 t.se, .slice ta ls.length tc] 26)).cell? ⟨P, 1, none⟩ = some (.int .i64 t.dy) := Pk.cell_at m3 1
      have b2 : (w2.alloc (.cells #[.int .i64 t.id, .int .i64 t.dy, .int .i64 t.co, .int .i64 t.se, .slice ta ls.length tc] 26)).cell? ⟨P, 2, none⟩ = some (.int .i64 t.co) := Pk.cell_at m3 2
      have b3 : (w2.alloc (.cells #[.int .i64 t.id, .int .i64 t.dy, .int .i64 t.co, .int .i64 t.se, .slice ta ls.length tc] 26)).cell? ⟨P, 3, none⟩ = some (.int .i64 t.se) := Pk.cell_at m3 3
      have b4 : (w2.alloc (.cells #[.int .i64 t.id, .int .i64 t.dy, .int .i64 t.co, .int .i64 t.se, .slice ta ls.length tc] 26)).cell? ⟨P, 4, none⟩ = some (.slice ta ls.length tc) := Pk.cell_at m3 4
      go_wp2_with fail
      try rw [hP]
      with_reducible refine (HF1.out _ I3 J3).mono ?_
      generalize w2.alloc (.cells #[.int .i64 t.id, .int .i64 t.dy, .int .i64 t.co, .int .i64 t.se, .slice ta ls.length tc] 26) = w3 at *
      rintro e w4 ⟨rfl, L4⟩
      have m4 := Pk.kept L4 (Pk.lt_of m3) m3
      have I4 := I3.on L4
      have J4 := J3.on L4
      have K4 := Pk.join_below K3 L4
      clear m3 I3 J3 K3 L4 b0 b1 b2 b3 b4 hP HF1
      have b0 : w4.cell? ⟨P, 0, none⟩ = some (.int .i64 t.id) := Pk.cell_at m4 0
      have b1 : w4.cell? ⟨P, 1, none⟩ = some (.int .i64 t.dy) := Pk.cell_at m4 1
      have b2 : w4.cell? ⟨P, 2, none⟩ = some (.int .i64 t.co) := Pk.cell_at m4 2
      have b3 : w4.cell? ⟨P, 3, none⟩ = some (.int .i64 t.se) := Pk.cell_at m4 3
      have b4 : w4.cell? ⟨P, 4, none⟩ = some (.slice ta ls.length tc) := Pk.cell_at m4 4
      go_wp2_with fail
      with_reducible refine (HB1.out _ I4 J4).mono ?_
      rintro e w5 ⟨rfl, L5⟩
      have m5 := Pk.kept L5 (Pk.lt_of m4) m4
      have I5 := I4.on L5
      have J5 := J4.on L5
      have K5 := Pk.join_below K4 L5
      clear m4 I4 J4 K4 L5 b0 b1 b2 b3 b4
      have b0 : w5.cell? ⟨P, 0, none⟩ = some (.int .i64 t.id) := Pk.cell_at m5 0
      have b1 : w5.cell? ⟨P, 1, none⟩ = some (.int .i64 t.dy) := Pk.cell_at m5 1
      have b2 : w5.cell? ⟨P, 2, none⟩ = some (.int .i64 t.co) := Pk.cell_at m5 2
      have b3 : w5.cell? ⟨P, 3, none⟩ = some (.int .i64 t.se) := Pk.cell_at m5 3
      have b4 : w5.cell? ⟨P, 4, none⟩ = some (.slice ta ls.length tc) := Pk.cell_at m5 4
      go_wp2_with fail
      with_reducible refine (HC1.out _ I5 J5).mono ?_
      rintro e w6 ⟨rfl, L6⟩
      have m6 := Pk.kept L6 (Pk.lt_of m5) m5
      have I6 := I5.on L6
      have J6 := J5.on L6
      have K6 := Pk.join_below K5 L6
      clear m5 I5 J5 K5 L6 b0 b1 b2 b3 b4
      have b0 : w6.cell? ⟨P, 0, none⟩ = some (.int .i64 t.id) := Pk.cell_at m6 0
      have b1 : w6.cell? ⟨P, 1, none⟩ = some (.int .i64 t.dy) := Pk.cell_at m6 1
      have b2 : w6.cell? ⟨P, 2, none⟩ = some (.int .i64 t.co) := Pk.cell_at m6 2
      have b3 : w6.cell? ⟨P, 3, none⟩ = some (.int .i64 t.se) := Pk.cell_at m6 3
      have b4 : w6.cell? ⟨P, 4, none⟩ = some (.slice ta ls.length tc) := Pk.cell_at m6 4
      go_wp2_with fail
      with_reducible refine (HF2.out _ I6 J6).mono ?_
      rintro e w7 ⟨rfl, L7⟩
      have m7 := Pk.kept L7 (Pk.lt_of m6) m6
      have I7 := I6.on L7
      have J7 := J6.on L7
      have K7 := Pk.join_below K6 L7
      clear m6 I6 J6 K6 L7 b0 b1 b2 b3 b4
      have b0 : w7.cell? ⟨P, 0, none⟩ = some (.int .i64 t.id) := Pk.cell_at m7 0
      have b1 : w7.cell? ⟨P, 1, none⟩ = some (.int .i64 t.dy) := Pk.cell_at m7 1
      have b2 : w7.cell? ⟨P, 2, none⟩ = some (.int .i64 t.co) := Pk.cell_at m7 2
      have b3 : w7.cell? ⟨P, 3, none⟩ = some (.int .i64 t.se) := Pk.cell_at m7 3
      have b4 : w7.cell? ⟨P, 4, none⟩ = some (.slice ta ls.length tc) := Pk.cell_at m7 4
      go_wp2_with fail
      with_reducible refine (HB2.out _ I7 J7).mono ?_
      rintro e w8 ⟨rfl, L8⟩
      have m8 := Pk.kept L8 (Pk.lt_of m7) m7
      have I8 := I7.on L8
      have J8 := J7.on L8
      have K8 := Pk.join_below K7 L8
      clear m7 I7 J7 K7 L8 b0 b1 b2 b3 b4
      have b0 : w8.cell? ⟨P, 0, none⟩ = some (.int .i64 t.id) := Pk.cell_at m8 0
      have b1 : w8.cell? ⟨P, 1, none⟩ = some (.int .i64 t.dy) := Pk.cell_at m8 1
      have b2 : w8.cell? ⟨P, 2, none⟩ = some (.int .i64 t.co) := Pk.cell_at m8 2
      have b3 : w8.cell? ⟨P, 3, none⟩ = some (.int .i64 t.se) := Pk.cell_at m8 3
      have b4 : w8.cell? ⟨P, 4, none⟩ = some (.slice ta ls.length tc) := Pk.cell_at m8 4
      go_wp2_with fail
      with_reducible refine (HC2.out _ I8 J8).mono ?_
      rintro e w9 ⟨rfl, L9⟩
      have m9 := Pk.kept L9 (Pk.lt_of m8) m8
      have I9 := I8.on L9
      have J9 := J8.on L9
      have K9 := Pk.join_below K8 L9
      clear m8 I8 J8 K8 L9 b0 b1 b2 b3 b4
      have b0 : w9.cell? ⟨P, 0, none⟩ = some (.int .i64 t.id) := Pk.cell_at m9 0
      have b1 : w9.cell? ⟨P, 1, none⟩ = some (.int .i64 t.dy) := Pk.cell_at m9 1
      have b2 : w9.cell? ⟨P, 2, none⟩ = some (.int .i64 t.co) := Pk.cell_at m9 2
      have b3 : w9.cell? ⟨P, 3, none⟩ = some (.int .i64 t.se) := Pk.cell_at m9 3
      have b4 : w9.cell? ⟨P, 4, none⟩ = some (.slice ta ls.length tc) := Pk.cell_at m9 4
      have hnp : 0 < nn := of_decide_eq_true hn0
      have hnl : nn ≤ 1800 := HCL.out
      clear HCL HF2 HB1 HB2 HC2 hcp
      cases hh : Se.holdsB l
      · rw [hh] at HT
        go_wp2_with fail
        with_reducible refine (HT.out _ I9).mono ?_
        rintro e w10 ⟨rfl, L10⟩
        have m10 := Pk.kept L10 (Pk.lt_of m9) m9
        have I10 := I9.on L10
        have J10 := J9.on L10
        have K10 := Pk.join_below K9 L10
        clear m9 I9 J9 K9 L10 b0 b1 b2 b3 b4
        have b0 : w10.cell? ⟨P, 0, none⟩ = some (.int .i64 t.id) := Pk.cell_at m10 0
        have b1 : w10.cell? ⟨P, 1, none⟩ = some (.int .i64 t.dy) := Pk.cell_at m10 1
        have b2 : w10.cell? ⟨P, 2, none⟩ = some (.int .i64 t.co) := Pk.cell_at m10 2
        have b3 : w10.cell? ⟨P, 3, none⟩ = some (.int .i64 t.se) := Pk.cell_at m10 3
        have b4 : w10.cell? ⟨P, 4, none⟩ = some (.slice ta ls.length tc) := Pk.cell_at m10 4
        go_wp2
        go_ret
        exact ⟨rfl, K10⟩
      · rw [hh] at HT
        by_cases h4 : 400 ≤ l.length
        · have d4 : decide (400 ≤ (l.length : Int)) = true := decide_eq_true (by omega)
          have d4' : decide ((l.length : Int) ≥ 400) = true := decide_eq_true (by omega)
          go_wp2_with fail
          with_reducible refine (HT.out _ I9).mono ?_
          rintro e w10 ⟨rfl, L10⟩
          have m10 := Pk.kept L10 (Pk.lt_of m9) m9
          have I10 := I9.on L10
          have J10 := J9.on L10
          have K10 := Pk.join_below K9 L10
          clear m9 I9 J9 K9 L10 b0 b1 b2 b3 b4
          have b0 : w10.cell? ⟨P, 0, none⟩ = some (.int .i64 t.id) := Pk.cell_at m10 0
          have b1 : w10.cell? ⟨P, 1, none⟩ = some (.int .i64 t.dy) := Pk.cell_at m10 1
          have b2 : w10.cell? ⟨P, 2, none⟩ = some (.int .i64 t.co) := Pk.cell_at m10 2
          have b3 : w10.cell? ⟨P, 3, none⟩ = some (.int .i64 t.se) := Pk.cell_at m10 3
          have b4 : w10.cell? ⟨P, 4, none⟩ = some (.slice ta ls.length tc) := Pk.cell_at m10 4
          go_wp2
          go_ret
          exact ⟨rfl, K10⟩
        · have d4 : decide (400 ≤ (l.length : Int)) = false := decide_eq_false (by omega)
          have d4' : decide ((l.length : Int) ≥ 400) = false := decide_eq_false (by omega)
          go_wp2_with fail
          with_reducible refine (HT.out _ I9).mono ?_
          rintro e w10 ⟨rfl, L10⟩
          have m10 := Pk.kept L10 (Pk.lt_of m9) m9
          have I10 := I9.on L10
          have J10 := J9.on L10
          have K10 := Pk.join_below K9 L10
          clear m9 I9 J9 K9 L10 b0 b1 b2 b3 b4
          have b0 : w10.cell? ⟨P, 0, none⟩ = some (.int .i64 t.id) := Pk.cell_at m10 0
          have b1 : w10.cell? ⟨P, 1, none⟩ = some (.int .i64 t.dy) := Pk.cell_at m10 1
          have b2 : w10.cell? ⟨P, 2, none⟩ = some (.int .i64 t.co) := Pk.cell_at m10 2
          have b3 : w10.cell? ⟨P, 3, none⟩ = some (.int .i64 t.se) := Pk.cell_at m10 3
          have b4 : w10.cell? ⟨P, 4, none⟩ = some (.slice ta ls.length tc) := Pk.cell_at m10 4
          have N11 := Pk.new_below w10 (.cells #[.int .i64 t.id, .int .i64 day, .int .i64 p.co, .int .i64 p.se, .int .i64 x, .int .i64 y, .int .i64 777] 77)
          have h11 := Pk.heap_new w10 (.cells #[.int .i64 t.id, .int .i64 day, .int .i64 p.co, .int .i64 p.se, .int .i64 x, .int .i64 y, .int .i64 777] 77)
          have m11 := Pk.heap_old m10 (.cells #[.int .i64 t.id, .int .i64 day, .int .i64 p.co, .int .i64 p.se, .int .i64 x, .int .i64 y, .int .i64 777] 77)
          have I11 := I10.on N11
          have J11 := J10.on N11
          have K11 := Pk.join_below K10 N11
          obtain ⟨Q, hQ⟩ : ∃ Q, w10.heap.size = Q := ⟨_, rfl⟩
          rw [hQ] at h11
          have hpe : ({ p with od := 777 } : Se.Hl) = ⟨t.id, day, p.co, p.se, x, y, 777⟩ := by
            have h1 := GV.tr
            have h2 := GV.dy
            have h3 := GV.ba
            have h4 := GV.be
            obtain ⟨p1, p2, p3, p4, p5, p6, p7⟩ := p
            simp only at h1 h2 h3 h4
            rw [h1, h2, h3, h4]
          have T1 := GV.takes hh (by omega)
          have T2 := GV.again
          have T3 := GV.less
          have T4 := Se.rel_back (p := p) (fun q hq => (hw q hq).o7)
          have T5 := Se.held_one (p := p) (fun q hq => (hw q hq).o7)
          have hwp : Se.Wf { p with od := 777 } := by
            have h1 := (Se.mem_all GV.ask GV.mem).1
            exact ⟨h1.tr, h1.dy, h1.co, h1.se, h1.ba, h1.be, Se.wfI (by simp)⟩
          have hw2 : Se.Wfs (l ++ [{ p with od := 777 }]) := Se.wfs_snoc hws hwp
          rw [hpe] at T1 T2 T3 T4 T5 hwp hw2
          rw [hn] at T3
          have TK : Se.tkL l ⟨t.id, day, p.co, p.se, x, y, 777⟩ = l ++ [⟨t.id, day, p.co, p.se, x, y, 777⟩] := if_pos T1
          have HX1 : Hid (∀ W, Se.Holds W (some ⟨g, 0, none⟩) l → _) := fun W h1 => Se.implTake_val g 0 l vc ⟨t.id, day, p.co, p.se, x, y, 777⟩ W (by omega) h1 hws hwp
          rw [T1, TK] at HX1
          have hl2 : (l ++ [(⟨t.id, day, p.co, p.se, x, y, 777⟩ : Se.Hl)]).length = l.length + 1 := by simp
          have HL2 : Hid (∀ W a2 c2, Se.Holds W a2 (l ++ [⟨t.id, day, p.co, p.se, x, y, 777⟩]) → _) := fun W a2 c2 h1 => Se.implHolds_val a2 (l ++ [⟨t.id, day, p.co, p.se, x, y, 777⟩]) c2 W (by unfold maxLen; omega) h1 hw2
          rw [T1] at HL2
          have HC3 : Hid (∀ W a2 c2, Se.Holds W a2 (l ++ [⟨t.id, day, p.co, p.se, x, y, 777⟩]) → Tn.Stops W ta ls → _) := fun W a2 c2 h1 h2 => Se.implCount_val a2 (l ++ [⟨t.id, day, p.co, p.se, x, y, 777⟩]) c2 t ta ls tc day x y W (by omega) hlx h1 h2 hw2
          rw [T3] at HC3
          have HX2 : Hid (∀ W g2 c2, Se.Holds W (some ⟨g2, 0, none⟩) (l ++ [⟨t.id, day, p.co, p.se, x, y, 777⟩]) → _) := fun W g2 c2 h1 => Se.implTake_val g2 0 (l ++ [⟨t.id, day, p.co, p.se, x, y, 777⟩]) c2 ⟨t.id, day, p.co, p.se, x, y, 777⟩ W (by omega) h1 hw2 hwp
          rw [T2] at HX2
          have HR1 : Hid (∀ W a2 c2, Se.Holds W a2 (l ++ [⟨t.id, day, p.co, p.se, x, y, 777⟩]) → _) := fun W a2 c2 h1 => Se.implRelease_val a2 (l ++ [⟨t.id, day, p.co, p.se, x, y, 777⟩]) c2 777 W (by omega) h1
          rw [T4] at HR1
          have HH1 : Hid (∀ W a2 c2, Se.Holds W a2 (l ++ [⟨t.id, day, p.co, p.se, x, y, 777⟩]) → _) := fun W a2 c2 h1 => Se.implHeld_val a2 (l ++ [⟨t.id, day, p.co, p.se, x, y, 777⟩]) c2 777 W (by omega) h1
          rw [T5] at HH1
          have HC4 : Hid (∀ W a2 c2, Se.Holds W a2 l → Tn.Stops W ta ls → _) := fun W a2 c2 h1 h2 => Se.implCount_val a2 l c2 t ta ls tc day x y W (by omega) hlx h1 h2 hws
          rw [hn] at HC4
          have HL3 : Hid ((l ++ [(⟨t.id, day, p.co, p.se, x, y, 777⟩ : Se.Hl)]).length = l.length + 1) := hl2
          clear GV T1 T2 T3 T4 T5 TK hpe hwp hw2 hl2 hh h4 hn
          generalize l ++ [(⟨t.id, day, p.co, p.se, x, y, 777⟩ : Se.Hl)] = l2 at *
          have b0 : (w10.alloc (.cells #[.int .i64 t.id, .int .i64 day, .int .i64 p.co, .int .i64 p.se, .int .i64 x, .int .i64 y, .int .i64 777] 77)).cell? ⟨P, 0, none⟩ = some (.int .i64 t.id) := Pk.cell_at m11 0
          have b1 : (w10.alloc (.cells #[.int .i64 t.id, .int .i64 day, .int .i64 p.co, .int .i64 p.se, .int .i64 x, .int .i64 y, .int .i64 777] 77)).cell? ⟨P, 1, none⟩ = some (.int .i64 t.dy) := Pk.cell_at m11 1
          have b2 : (w10.alloc (.cells #[.int .i64 t.id, .int .i64 day, .int .i64 p.co, .int .i64 p.se, .int .i64 x, .int .i64 y, .int .i64 777] 77)).cell? ⟨P, 2, none⟩ = some (.int .i64 t.co) := Pk.cell_at m11 2
          have b3 : (w10.alloc (.cells #[.int .i64 t.id, .int .i64 day, .int .i64 p.co, .int .i64 p.se, .int .i64 x, .int .i64 y, .int .i64 777] 77)).cell? ⟨P, 3, none⟩ = some (.int .i64 t.se) := Pk.cell_at m11 3
          have b4 : (w10.alloc (.cells #[.int .i64 t.id, .int .i64 day, .int .i64 p.co, .int .i64 p.se, .int .i64 x, .int .i64 y, .int .i64 777] 77)).cell? ⟨P, 4, none⟩ = some (.slice ta ls.length tc) := Pk.cell_at m11 4
          have q0 : (w10.alloc (.cells #[.int .i64 t.id, .int .i64 day, .int .i64 p.co, .int .i64 p.se, .int .i64 x, .int .i64 y, .int .i64 777] 77)).cell? ⟨Q, 0, none⟩ = some (.int .i64 t.id) := Pk.cell_at h11 0
          have q1 : (w10.alloc (.cells #[.int .i64 t.id, .int .i64 day, .int .i64 p.co, .int .i64 p.se, .int .i64 x, .int .i64 y, .int .i64 777] 77)).cell? ⟨Q, 1, none⟩ = some (.int .i64 day) := Pk.cell_at h11 1
          have q2 : (w10.alloc (.cells #[.int .i64 t.id, .int .i64 day, .int .i64 p.co, .int .i64 p.se, .int .i64 x, .int .i64 y, .int .i64 777] 77)).cell? ⟨Q, 2, none⟩ = some (.int .i64 p.co) := Pk.cell_at h11 2
          have q3 : (w10.alloc (.cells #[.int .i64 t.id, .int .i64 day, .int .i64 p.co, .int .i64 p.se, .int .i64 x, .int .i64 y, .int .i64 777] 77)).cell? ⟨Q, 3, none⟩ = some (.int .i64 p.se) := Pk.cell_at h11 3
          have q4 : (w10.alloc (.cells #[.int .i64 t.id, .int .i64 day, .int .i64 p.co, .int .i64 p.se, .int .i64 x, .int .i64 y, .int .i64 777] 77)).cell? ⟨Q, 4, none⟩ = some (.int .i64 x) := Pk.cell_at h11 4
          have q5 : (w10.alloc (.cells #[.int .i64 t.id, .int .i64 day, .int .i64 p.co, .int .i64 p.se, .int .i64 x, .int .i64 y, .int .i64 777] 77)).cell? ⟨Q, 5, none⟩ = some (.int .i64 y) := Pk.cell_at h11 5
          have q6 : (w10.alloc (.cells #[.int .i64 t.id, .int .i64 day, .int .i64 p.co, .int .i64 p.se, .int .i64 x, .int .i64 y, .int .i64 777] 77)).cell? ⟨Q, 6, none⟩ = some (.int .i64 777) := Pk.cell_at h11 6
          clear m10 I10 J10 K10 N11
          go_wp2_with fail
          try rw [hQ]
          with_reducible refine (HX1.out _ I11).mono ?_
          generalize w10.alloc (.cells #[.int .i64 t.id, .int .i64 day, .int .i64 p.co, .int .i64 p.se, .int .i64 x, .int .i64 y, .int .i64 777] 77) = w11 at *
          rintro e w12 ⟨⟨v2, rfl, O2⟩, L12⟩
          obtain ⟨g2, c2, rfl, -, -, -, -⟩ := Se.own_cell O2 (by rw [HL3.out]; omega)
          obtain ⟨aa, cc, hv, E12⟩ := Se.own_holds O2
          simp only [Value.slice.injEq] at hv
          obtain ⟨rfl, -, rfl⟩ := hv
          clear O2 hQ
          have m12 := Pk.kept L12 (Pk.lt_of m11) m11
          have h12 := Pk.kept L12 (Pk.lt_of h11) h11
          have I12 := I11.on L12
          have J12 := J11.on L12
          have K12 := Pk.join_below K11 L12
          clear m11 h11 I11 J11 K11 L12 b0 b1 b2 b3 b4 q0 q1 q2 q3 q4 q5 q6
          have b0 : w12.cell? ⟨P, 0, none⟩ = some (.int .i64 t.id) := Pk.cell_at m12 0
          have b1 : w12.cell? ⟨P, 1, none⟩ = some (.int .i64 t.dy) := Pk.cell_at m12 1
          have b2 : w12.cell? ⟨P, 2, none⟩ = some (.int .i64 t.co) := Pk.cell_at m12 2
          have b3 : w12.cell? ⟨P, 3, none⟩ = some (.int .i64 t.se) := Pk.cell_at m12 3
          have b4 : w12.cell? ⟨P, 4, none⟩ = some (.slice ta ls.length tc) := Pk.cell_at m12 4
          have q0 : w12.cell? ⟨Q, 0, none⟩ = some (.int .i64 t.id) := Pk.cell_at h12 0
          have q1 : w12.cell? ⟨Q, 1, none⟩ = some (.int .i64 day) := Pk.cell_at h12 1
          have q2 : w12.cell? ⟨Q, 2, none⟩ = some (.int .i64 p.co) := Pk.cell_at h12 2
          have q3 : w12.cell? ⟨Q, 3, none⟩ = some (.int .i64 p.se) := Pk.cell_at h12 3
          have q4 : w12.cell? ⟨Q, 4, none⟩ = some (.int .i64 x) := Pk.cell_at h12 4
          have q5 : w12.cell? ⟨Q, 5, none⟩ = some (.int .i64 y) := Pk.cell_at h12 5
          have q6 : w12.cell? ⟨Q, 6, none⟩ = some (.int .i64 777) := Pk.cell_at h12 6
          go_wp2_with fail
          with_reducible refine (HL2.out _ _ _ E12).mono ?_
          rintro e w13 ⟨rfl, L13⟩
          have m13 := Pk.kept L13 (Pk.lt_of m12) m12
          have h13 := Pk.kept L13 (Pk.lt_of h12) h12
          have I13 := I12.on L13
          have E13 := E12.on L13
          have J13 := J12.on L13
          have K13 := Pk.join_below K12 L13
          clear m12 h12 I12 E12 J12 K12 L13 b0 b1 b2 b3 b4 q0 q1 q2 q3 q4 q5 q6
          have b0 : w13.cell? ⟨P, 0, none⟩ = some (.int .i64 t.id) := Pk.cell_at m13 0
          have b1 : w13.cell? ⟨P, 1, none⟩ = some (.int .i64 t.dy) := Pk.cell_at m13 1
          have b2 : w13.cell? ⟨P, 2, none⟩ = some (.int .i64 t.co) := Pk.cell_at m13 2
          have b3 : w13.cell? ⟨P, 3, none⟩ = some (.int .i64 t.se) := Pk.cell_at m13 3
          have b4 : w13.cell? ⟨P, 4, none⟩ = some (.slice ta ls.length tc) := Pk.cell_at m13 4
          have q0 : w13.cell? ⟨Q, 0, none⟩ = some (.int .i64 t.id) := Pk.cell_at h13 0
          have q1 : w13.cell? ⟨Q, 1, none⟩ = some (.int .i64 day) := Pk.cell_at h13 1
          have q2 : w13.cell? ⟨Q, 2, none⟩ = some (.int .i64 p.co) := Pk.cell_at h13 2
          have q3 : w13.cell? ⟨Q, 3, none⟩ = some (.int .i64 p.se) := Pk.cell_at h13 3
          have q4 : w13.cell? ⟨Q, 4, none⟩ = some (.int .i64 x) := Pk.cell_at h13 4
          have q5 : w13.cell? ⟨Q, 5, none⟩ = some (.int .i64 y) := Pk.cell_at h13 5
          have q6 : w13.cell? ⟨Q, 6, none⟩ = some (.int .i64 777) := Pk.cell_at h13 6
          go_wp2_with fail
          with_reducible refine (HC3.out _ _ _ E13 J13).mono ?_
          rintro e w14 ⟨rfl, L14⟩
          have m14 := Pk.kept L14 (Pk.lt_of m13) m13
          have h14 := Pk.kept L14 (Pk.lt_of h13) h13
          have I14 := I13.on L14
          have E14 := E13.on L14
          have J14 := J13.on L14
          have K14 := Pk.join_below K13 L14
          clear m13 h13 I13 E13 J13 K13 L14 b0 b1 b2 b3 b4 q0 q1 q2 q3 q4 q5 q6
          have b0 : w14.cell? ⟨P, 0, none⟩ = some (.int .i64 t.id) := Pk.cell_at m14 0
          have b1 : w14.cell? ⟨P, 1, none⟩ = some (.int .i64 t.dy) := Pk.cell_at m14 1
          have b2 : w14.cell? ⟨P, 2, none⟩ = some (.int .i64 t.co) := Pk.cell_at m14 2
          have b3 : w14.cell? ⟨P, 3, none⟩ = some (.int .i64 t.se) := Pk.cell_at m14 3
          have b4 : w14.cell? ⟨P, 4, none⟩ = some (.slice ta ls.length tc) := Pk.cell_at m14 4
          have q0 : w14.cell? ⟨Q, 0, none⟩ = some (.int .i64 t.id) := Pk.cell_at h14 0
          have q1 : w14.cell? ⟨Q, 1, none⟩ = some (.int .i64 day) := Pk.cell_at h14 1
          have q2 : w14.cell? ⟨Q, 2, none⟩ = some (.int .i64 p.co) := Pk.cell_at h14 2
          have q3 : w14.cell? ⟨Q, 3, none⟩ = some (.int .i64 p.se) := Pk.cell_at h14 3
          have q4 : w14.cell? ⟨Q, 4, none⟩ = some (.int .i64 x) := Pk.cell_at h14 4
          have q5 : w14.cell? ⟨Q, 5, none⟩ = some (.int .i64 y) := Pk.cell_at h14 5
          have q6 : w14.cell? ⟨Q, 6, none⟩ = some (.int .i64 777) := Pk.cell_at h14 6
          have hqn : ((nn - 1) == (nn - 1)) = true := by simp
          go_wp2_with fail
          with_reducible refine (HX2.out _ _ _ E14).mono ?_
          rintro e w15 ⟨⟨v3, rfl, -⟩, L15⟩
          have m15 := Pk.kept L15 (Pk.lt_of m14) m14
          have h15 := Pk.kept L15 (Pk.lt_of h14) h14
          have I15 := I14.on L15
          have E15 := E14.on L15
          have J15 := J14.on L15
          have K15 := Pk.join_below K14 L15
          clear m14 h14 I14 E14 J14 K14 L15 b0 b1 b2 b3 b4 q0 q1 q2 q3 q4 q5 q6
          have b0 : w15.cell? ⟨P, 0, none⟩ = some (.int .i64 t.id) := Pk.cell_at m15 0
          have b1 : w15.cell? ⟨P, 1, none⟩ = some (.int .i64 t.dy) := Pk.cell_at m15 1
          have b2 : w15.cell? ⟨P, 2, none⟩ = some (.int .i64 t.co) := Pk.cell_at m15 2
          have b3 : w15.cell? ⟨P, 3, none⟩ = some (.int .i64 t.se) := Pk.cell_at m15 3
          have b4 : w15.cell? ⟨P, 4, none⟩ = some (.slice ta ls.length tc) := Pk.cell_at m15 4
          have q0 : w15.cell? ⟨Q, 0, none⟩ = some (.int .i64 t.id) := Pk.cell_at h15 0
          have q1 : w15.cell? ⟨Q, 1, none⟩ = some (.int .i64 day) := Pk.cell_at h15 1
          have q2 : w15.cell? ⟨Q, 2, none⟩ = some (.int .i64 p.co) := Pk.cell_at h15 2
          have q3 : w15.cell? ⟨Q, 3, none⟩ = some (.int .i64 p.se) := Pk.cell_at h15 3
          have q4 : w15.cell? ⟨Q, 4, none⟩ = some (.int .i64 x) := Pk.cell_at h15 4
          have q5 : w15.cell? ⟨Q, 5, none⟩ = some (.int .i64 y) := Pk.cell_at h15 5
          have q6 : w15.cell? ⟨Q, 6, none⟩ = some (.int .i64 777) := Pk.cell_at h15 6
          go_wp2_with fail
          with_reducible refine (HR1.out _ _ _ E15).mono ?_
          rintro e w16 ⟨v4, rfl, O4, L16⟩
          have m16 := Pk.kept L16 (Pk.lt_of m15) m15
          have h16 := Pk.kept L16 (Pk.lt_of h15) h15
          have I16 := I15.on L16
          have E16 := E15.on L16
          have J16 := J15.on L16
          have K16 := Pk.join_below K15 L16
          obtain ⟨a4, c4, rfl, D16⟩ := Se.own_holds O4
          clear O4
          clear m15 h15 I15 E15 J15 K15 L16 b0 b1 b2 b3 b4 q0 q1 q2 q3 q4 q5 q6
          have b0 : w16.cell? ⟨P, 0, none⟩ = some (.int .i64 t.id) := Pk.cell_at m16 0
          have b1 : w16.cell? ⟨P, 1, none⟩ = some (.int .i64 t.dy) := Pk.cell_at m16 1
          have b2 : w16.cell? ⟨P, 2, none⟩ = some (.int .i64 t.co) := Pk.cell_at m16 2
          have b3 : w16.cell? ⟨P, 3, none⟩ = some (.int .i64 t.se) := Pk.cell_at m16 3
          have b4 : w16.cell? ⟨P, 4, none⟩ = some (.slice ta ls.length tc) := Pk.cell_at m16 4
          have q0 : w16.cell? ⟨Q, 0, none⟩ = some (.int .i64 t.id) := Pk.cell_at h16 0
          have q1 : w16.cell? ⟨Q, 1, none⟩ = some (.int .i64 day) := Pk.cell_at h16 1
          have q2 : w16.cell? ⟨Q, 2, none⟩ = some (.int .i64 p.co) := Pk.cell_at h16 2
          have q3 : w16.cell? ⟨Q, 3, none⟩ = some (.int .i64 p.se) := Pk.cell_at h16 3
          have q4 : w16.cell? ⟨Q, 4, none⟩ = some (.int .i64 x) := Pk.cell_at h16 4
          have q5 : w16.cell? ⟨Q, 5, none⟩ = some (.int .i64 y) := Pk.cell_at h16 5
          have q6 : w16.cell? ⟨Q, 6, none⟩ = some (.int .i64 777) := Pk.cell_at h16 6
          go_wp2_with fail
          with_reducible refine (HH1.out _ _ _ E16).mono ?_
          rintro e w17 ⟨v5, rfl, O5, L17⟩
          have m17 := Pk.kept L17 (Pk.lt_of m16) m16
          have h17 := Pk.kept L17 (Pk.lt_of h16) h16
          have I17 := I16.on L17
          have E17 := E16.on L17
          have D17 := D16.on L17
          have J17 := J16.on L17
          have K17 := Pk.join_below K16 L17
          obtain ⟨a5, c5, rfl, -⟩ := Pk.own_form O5
          clear O5
          clear m16 h16 I16 E16 D16 J16 K16 L17 b0 b1 b2 b3 b4 q0 q1 q2 q3 q4 q5 q6
          have b0 : w17.cell? ⟨P, 0, none⟩ = some (.int .i64 t.id) := Pk.cell_at m17 0
          have b1 : w17.cell? ⟨P, 1, none⟩ = some (.int .i64 t.dy) := Pk.cell_at m17 1
          have b2 : w17.cell? ⟨P, 2, none⟩ = some (.int .i64 t.co) := Pk.cell_at m17 2
          have b3 : w17.cell? ⟨P, 3, none⟩ = some (.int .i64 t.se) := Pk.cell_at m17 3
          have b4 : w17.cell? ⟨P, 4, none⟩ = some (.slice ta ls.length tc) := Pk.cell_at m17 4
          have q0 : w17.cell? ⟨Q, 0, none⟩ = some (.int .i64 t.id) := Pk.cell_at h17 0
          have q1 : w17.cell? ⟨Q, 1, none⟩ = some (.int .i64 day) := Pk.cell_at h17 1
          have q2 : w17.cell? ⟨Q, 2, none⟩ = some (.int .i64 p.co) := Pk.cell_at h17 2
          have q3 : w17.cell? ⟨Q, 3, none⟩ = some (.int .i64 p.se) := Pk.cell_at h17 3
          have q4 : w17.cell? ⟨Q, 4, none⟩ = some (.int .i64 x) := Pk.cell_at h17 4
          have q5 : w17.cell? ⟨Q, 5, none⟩ = some (.int .i64 y) := Pk.cell_at h17 5
          have q6 : w17.cell? ⟨Q, 6, none⟩ = some (.int .i64 777) := Pk.cell_at h17 6
          go_wp2_with fail
          with_reducible refine (HC4.out _ _ _ D17 J17).mono ?_
          rintro e w18 ⟨rfl, L18⟩
          have m18 := Pk.kept L18 (Pk.lt_of m17) m17
          have h18 := Pk.kept L18 (Pk.lt_of h17) h17
          have I18 := I17.on L18
          have E18 := E17.on L18
          have D18 := D17.on L18
          have J18 := J17.on L18
          have K18 := Pk.join_below K17 L18
          clear m17 h17 I17 E17 D17 J17 K17 L18 b0 b1 b2 b3 b4 q0 q1 q2 q3 q4 q5 q6
          have b0 : w18.cell? ⟨P, 0, none⟩ = some (.int .i64 t.id) := Pk.cell_at m18 0
          have b1 : w18.cell? ⟨P, 1, none⟩ = some (.int .i64 t.dy) := Pk.cell_at m18 1
          have b2 : w18.cell? ⟨P, 2, none⟩ = some (.int .i64 t.co) := Pk.cell_at m18 2
          have b3 : w18.cell? ⟨P, 3, none⟩ = some (.int .i64 t.se) := Pk.cell_at m18 3
          have b4 : w18.cell? ⟨P, 4, none⟩ = some (.slice ta ls.length tc) := Pk.cell_at m18 4
          have q0 : w18.cell? ⟨Q, 0, none⟩ = some (.int .i64 t.id) := Pk.cell_at h18 0
          have q1 : w18.cell? ⟨Q, 1, none⟩ = some (.int .i64 day) := Pk.cell_at h18 1
          have q2 : w18.cell? ⟨Q, 2, none⟩ = some (.int .i64 p.co) := Pk.cell_at h18 2
          have q3 : w18.cell? ⟨Q, 3, none⟩ = some (.int .i64 p.se) := Pk.cell_at h18 3
          have q4 : w18.cell? ⟨Q, 4, none⟩ = some (.int .i64 x) := Pk.cell_at h18 4
          have q5 : w18.cell? ⟨Q, 5, none⟩ = some (.int .i64 y) := Pk.cell_at h18 5
          have q6 : w18.cell? ⟨Q, 6, none⟩ = some (.int .i64 777) := Pk.cell_at h18 6
          go_wp2
          go_ret
          exact ⟨rfl, K18⟩
    · have hd : decide (0 < (Se.resL l t ls day x y).length) = false := decide_eq_false hr
      rw [hd] at HF1 HB1 HF2 HB2 hcp
      clear HG hr hd
      obtain ⟨P, hP⟩ : ∃ P, w2.heap.size = P := ⟨_, rfl⟩
      rw [hP] at m3
      generalize hn : Se.cntV l t ls day x y = nn at *
      have hn0 : decide (0 < nn) = false := hcp
      have b0 : (w2.alloc (.cells #[.int .i64 t.id, .int .i64 t.dy, .int .i64 t.co, .int .i64 t.se, .slice ta ls.length tc] 26)).cell? ⟨P, 0, none⟩ = some (.int .i64 t.id) := Pk.cell_at m3 0
      have b1 : (w2.alloc (.cells #[.int .i64 t.id, .int .i64 t.dy, .int .i64 t.co, .int .i64 t.se, .slice ta ls.length tc] 26)).cell? ⟨P, 1, none⟩ = some (.int .i64 t.dy) := Pk.cell_at m3 1
      have b2 : (w2.alloc (.cells #[.int .i64 t.id, .int .i64 t.dy, .int .i64 t.co, .int .i64 t.se, .slice ta ls.length tc] 26)).cell? ⟨P, 2, none⟩ = some (.int .i64 t.co) := Pk.cell_at m3 2
      have b3 : (w2.alloc (.cells #[.int .i64 t.id, .int .i64 t.dy, .int .i64 t.co, .int .i64 t.se, .slice ta ls.length tc] 26)).cell? ⟨P, 3, none⟩ = some (.int .i64 t.se) := Pk.cell_at m3 3
      have b4 : (w2.alloc (.cells #[.int .i64 t.id, .int .i64 t.dy, .int .i64 t.co, .int .i64 t.se, .slice ta ls.length tc] 26)).cell? ⟨P, 4, none⟩ = some (.slice ta ls.length tc) := Pk.cell_at m3 4
      go_wp2_with fail
      try rw [hP]
      with_reducible refine (HF1.out _ I3 J3).mono ?_
      generalize w2.alloc (.cells #[.int .i64 t.id, .int .i64 t.dy, .int .i64 t.co, .int .i64 t.se, .slice ta ls.length tc] 26) = w3 at *
      rintro e w4 ⟨rfl, L4⟩
      have m4 := Pk.kept L4 (Pk.lt_of m3) m3
      have I4 := I3.on L4
      have J4 := J3.on L4
      have K4 := Pk.join_below K3 L4
      clear m3 I3 J3 K3 L4 b0 b1 b2 b3 b4 hP HF1
      have b0 : w4.cell? ⟨P, 0, none⟩ = some (.int .i64 t.id) := Pk.cell_at m4 0
      have b1 : w4.cell? ⟨P, 1, none⟩ = some (.int .i64 t.dy) := Pk.cell_at m4 1
      have b2 : w4.cell? ⟨P, 2, none⟩ = some (.int .i64 t.co) := Pk.cell_at m4 2
      have b3 : w4.cell? ⟨P, 3, none⟩ = some (.int .i64 t.se) := Pk.cell_at m4 3
      have b4 : w4.cell? ⟨P, 4, none⟩ = some (.slice ta ls.length tc) := Pk.cell_at m4 4
      go_wp2_with fail
      with_reducible refine (HB1.out _ I4 J4).mono ?_
      rintro e w5 ⟨rfl, L5⟩
      have m5 := Pk.kept L5 (Pk.lt_of m4) m4
      have I5 := I4.on L5
      have J5 := J4.on L5
      have K5 := Pk.join_below K4 L5
      clear m4 I4 J4 K4 L5 b0 b1 b2 b3 b4
      have b0 : w5.cell? ⟨P, 0, none⟩ = some (.int .i64 t.id) := Pk.cell_at m5 0
      have b1 : w5.cell? ⟨P, 1, none⟩ = some (.int .i64 t.dy) := Pk.cell_at m5 1
      have b2 : w5.cell? ⟨P, 2, none⟩ = some (.int .i64 t.co) := Pk.cell_at m5 2
      have b3 : w5.cell? ⟨P, 3, none⟩ = some (.int .i64 t.se) := Pk.cell_at m5 3
      have b4 : w5.cell? ⟨P, 4, none⟩ = some (.slice ta ls.length tc) := Pk.cell_at m5 4
      go_wp2_with fail
      with_reducible refine (HC1.out _ I5 J5).mono ?_
      rintro e w6 ⟨rfl, L6⟩
      have m6 := Pk.kept L6 (Pk.lt_of m5) m5
      have I6 := I5.on L6
      have J6 := J5.on L6
      have K6 := Pk.join_below K5 L6
      clear m5 I5 J5 K5 L6 b0 b1 b2 b3 b4
      have b0 : w6.cell? ⟨P, 0, none⟩ = some (.int .i64 t.id) := Pk.cell_at m6 0
      have b1 : w6.cell? ⟨P, 1, none⟩ = some (.int .i64 t.dy) := Pk.cell_at m6 1
      have b2 : w6.cell? ⟨P, 2, none⟩ = some (.int .i64 t.co) := Pk.cell_at m6 2
      have b3 : w6.cell? ⟨P, 3, none⟩ = some (.int .i64 t.se) := Pk.cell_at m6 3
      have b4 : w6.cell? ⟨P, 4, none⟩ = some (.slice ta ls.length tc) := Pk.cell_at m6 4
      go_wp2_with fail
      with_reducible refine (HF2.out _ I6 J6).mono ?_
      rintro e w7 ⟨rfl, L7⟩
      have m7 := Pk.kept L7 (Pk.lt_of m6) m6
      have I7 := I6.on L7
      have J7 := J6.on L7
      have K7 := Pk.join_below K6 L7
      clear m6 I6 J6 K6 L7 b0 b1 b2 b3 b4
      have b0 : w7.cell? ⟨P, 0, none⟩ = some (.int .i64 t.id) := Pk.cell_at m7 0
      have b1 : w7.cell? ⟨P, 1, none⟩ = some (.int .i64 t.dy) := Pk.cell_at m7 1
      have b2 : w7.cell? ⟨P, 2, none⟩ = some (.int .i64 t.co) := Pk.cell_at m7 2
      have b3 : w7.cell? ⟨P, 3, none⟩ = some (.int .i64 t.se) := Pk.cell_at m7 3
      have b4 : w7.cell? ⟨P, 4, none⟩ = some (.slice ta ls.length tc) := Pk.cell_at m7 4
      go_wp2_with fail
      with_reducible refine (HB2.out _ I7 J7).mono ?_
      rintro e w8 ⟨rfl, L8⟩
      have m8 := Pk.kept L8 (Pk.lt_of m7) m7
      have I8 := I7.on L8
      have J8 := J7.on L8
      have K8 := Pk.join_below K7 L8
      clear m7 I7 J7 K7 L8 b0 b1 b2 b3 b4
      have b0 : w8.cell? ⟨P, 0, none⟩ = some (.int .i64 t.id) := Pk.cell_at m8 0
      have b1 : w8.cell? ⟨P, 1, none⟩ = some (.int .i64 t.dy) := Pk.cell_at m8 1
      have b2 : w8.cell? ⟨P, 2, none⟩ = some (.int .i64 t.co) := Pk.cell_at m8 2
      have b3 : w8.cell? ⟨P, 3, none⟩ = some (.int .i64 t.se) := Pk.cell_at m8 3
      have b4 : w8.cell? ⟨P, 4, none⟩ = some (.slice ta ls.length tc) := Pk.cell_at m8 4
      go_wp2_with fail
      with_reducible refine (HC2.out _ I8 J8).mono ?_
      rintro e w9 ⟨rfl, L9⟩
      have m9 := Pk.kept L9 (Pk.lt_of m8) m8
      have I9 := I8.on L9
      have J9 := J8.on L9
      have K9 := Pk.join_below K8 L9
      clear m8 I8 J8 K8 L9 b0 b1 b2 b3 b4
      have b0 : w9.cell? ⟨P, 0, none⟩ = some (.int .i64 t.id) := Pk.cell_at m9 0
      have b1 : w9.cell? ⟨P, 1, none⟩ = some (.int .i64 t.dy) := Pk.cell_at m9 1
      have b2 : w9.cell? ⟨P, 2, none⟩ = some (.int .i64 t.co) := Pk.cell_at m9 2
      have b3 : w9.cell? ⟨P, 3, none⟩ = some (.int .i64 t.se) := Pk.cell_at m9 3
      have b4 : w9.cell? ⟨P, 4, none⟩ = some (.slice ta ls.length tc) := Pk.cell_at m9 4
      go_wp2
      go_ret
      exact ⟨rfl, K9⟩
  · clear w0
    go_enter Try.func7, Try.ntmps7
    go_wp2_with fail
    refine (Cur.big_yes a0 len0 cap0 _ hb).mono ?_
    rintro e w1 ⟨rfl, rfl⟩
    go_wp2
    go_ret
    exact ⟨rfl, Below.refl _ _⟩

set_option maxRecDepth 100000 in
theorem contract (H : Type) (enc : TypeId × Value → H) (W : World) (base : Nat) (args : Array Value) (ds gs : List (DataW H)) (before : List MemPlace)
    (hval : ∀ (j : Nat) t v, Try.f7.params[j]? = some t → args[j]? = some v → Value.okWide Try.prog W .any base t v)
    (hW : DataW.Whole enc Try.prog Try.f7.params.toList Rows.fnSeatsSpec.vars false W args.toList ds gs before) :
    Calls Try.prog 7 args W fun e W' => ∃ v, e = .returned v ∧ Rows.fnSeatsSpec.post enc Try.prog Try.f7 false true false false W args v W' := by
  have hW' := hW
  obtain ⟨p, q, hA0, hV, rfl, hfz, hnd⟩ := hW
  have hA : DataW.TrodAll enc Try.prog W 0 (fun _ => true) true Try.f7.params.toList args.toList ds p := hA0
  rw [Try.params7] at hA hval
  obtain ⟨v0, vs0, d0, ds0, p0, q0, hargs, rfl, rfl, h0, r0⟩ := trodAll_cons hA
  obtain ⟨rfl, rfl, rfl⟩ := trodAll_nil r0
  obtain rfl : args = #[v0] := by cases args; simp_all
  obtain ⟨rfl, rfl⟩ := trodVars_none hV
  have k0 := h0
  have lt0 : ∀ x ∈ p0, x.block < W.heap.size := by obtain ⟨m, hm⟩ := k0; exact DataW.trod_lt m _ _ _ hm
  obtain ⟨a0, len0, cap0, rfl⟩ := okWide_slice Try.underlying22 (hval 0 22 v0 rfl rfl)
  obtain ⟨z0, w0⟩ : ∃ zs, IsRow .u8 W a0 len0 cap0 zs := by
    obtain ⟨fuel, hf⟩ := h0
    rcases open_ints Try.underlying22 Try.underlying5 (by kernel_rfl) hf with ⟨hcs, _⟩ | ⟨x, l, c, zs, hcs, _, hl, hm, hz, _, hcell, hwz⟩
    · simp [Value.cells] at hcs
      obtain ⟨rfl, rfl, rfl⟩ := hcs
      exact ⟨[], .inl ⟨rfl, rfl, rfl, rfl⟩⟩
    · simp [Value.cells] at hcs
      obtain ⟨rfl, rfl, rfl⟩ := hcs
      exact ⟨zs, .inr ⟨_, rfl, hl, hm, by simpa using hz, hcell, hwz⟩⟩
  clear hA0
  refine (walk a0 len0 cap0 z0 W w0 ).mono fun e W' ⟨he, bel⟩ => ?_
  subst he
  exact ⟨_, rfl, _, _, _, [], _, [], hW', trodAll_mk1 (shut_bool Try.underlying4 _), (trodAll_cons_mk (Below.trod Errs.laidOut (by kernel_rfl) (of_decide_eq_true (by kernel_rfl)) k0 bel lt0) trodAll_mk0), rfl, bel.frame _, fun h => by cases h⟩

set_option maxRecDepth 100000 in
theorem lifted (os : Os) (started : os.Started) (H : Type) (enc : TypeId × Value → H) :
    ReturnsInHanded {} Try.checked os 7 .any (Rows.fnSeatsSpec.pre6 enc Try.prog Try.f7 Rows.fnSeatsRow.domain false) (Rows.fnSeatsSpec.post enc Try.prog Try.f7 false true false false) := by
  refine returnsInHanded_of_change (C := Try.checked) Errs.own started (by kernel_rfl) Try.func7
    (ChangeSpec.witness6 (enc := enc) (C := Try.checked) false ⟨#[], #[.slice none 0 0], []⟩ 8 (by kernel_rfl) (by kernel_rfl) (by kernel_rfl) (by kernel_rfl)) ?_
  intro W base args ds gs before hval hW _ _
  exact contract H enc W base args ds gs before hval hW

set_option maxRecDepth 100000 in
theorem over : Rows.fnSeatsRow.holds Try.pinned (OpenSpec.ofChange Rows.fnSeatsSpec) :=
  OpenClaim.holds_of_wide 7 Try.f7 rfl rfl rfl rfl rfl rfl rfl ⟨rfl, rfl, rfl, rfl, rfl⟩ rfl rfl rfl rfl rfl (by kernel_rfl) Try.func7 (by kernel_rfl)
    (of_decide_eq_true (by kernel_rfl)) (by unfold Func.isWrapper; first | (rw [if_pos (by decide +kernel)]; kernel_rfl) | (rw [if_neg (by decide +kernel)]; exact ⟨rfl, rfl⟩))
    (fun os started H enc _ => lifted os started H enc)
end Go.Proofs.Ytiollklighmojad.fnSeats
namespace Go.Proofs.Ytiollklighmojad
theorem FnSeats_holds : Rows.FnSeatsSaid := fnSeats.over
end Go.Proofs.Ytiollklighmojad

/- Contract of OfficeOk of the model. -/
import Derived.Test.YtmoinacceildcaaGreatDoorOfOk
import Derived.BigQuiet
namespace Go.Proofs.YtmoinacceildcaaGreatDoor
namespace Of
open Go.ChangeShapes Go.WideShapes Go.ChangeAt Go.RowKit Go.Joins
open Pk (new_below join_below cell_at heap_new frozen_at lt_of kept heap_old info_of Room)
set_option linter.unusedSimpArgs false
set_option linter.unusedVariables false

open Se (inB in_is in_not)
open Pk (Drawn)

set_option maxRecDepth 100000 in
set_option maxHeartbeats 8000000 in
theorem specOffice_val (x : Pl) (o : Offc) (w : World) (hl : Lim o) (hz : Small o) (I : In w x o) :
    Calls Tryz.prog 34 #[ofV x o] w fun e w' => e = .returned (.bool (offB o)) ∧ Below w.heap.size w w' := by
  have HL : Hid (Lim o) := hl
  have hto : o.to.length ≤ 1048576 := hz.2.2.2.2
  have hho : o.ho.length ≤ 1048576 := hz.2.2.1
  have hod : o.od.length ≤ 1048576 := by have := hz.2.2.2.1; unfold Od.bulk at this; omega
  clear hl hz
  have N := new_below w (ofB x o 28)
  have m := heap_new w (ofB x o 28)
  cases h0 : Tn.linesB o.ln
  · have hR : offB o = false := by unfold offB; rw [h0]; simp
    rw [hR]
    clear hR
    go_enter Tryz.func34, Tryz.ntmps34
    go_wp2_with fail
    refine (Tn.specLines_val x.a0 o.ln x.c0 _ HL.out.ln HL.out.st (I.ln.on N)).mono ?_
    rw [h0]
    rintro e v0 ⟨rfl, L0⟩
    have m0 := kept L0 (lt_of m) m
    have N0 := join_below N L0
    clear L0 m
    have c1 : v0.cell? ⟨w.heap.size, 1, none⟩ = some (.slice x.a1 o.ta.length x.c1) := cell_at m0 1
    have c2 : v0.cell? ⟨w.heap.size, 2, none⟩ = some (.slice x.a2 o.ho.length x.c2) := cell_at m0 2
    have c3 : v0.cell? ⟨w.heap.size, 3, none⟩ = some (.slice x.a3 o.od.length x.c3) := cell_at m0 3
    have c4 : v0.cell? ⟨w.heap.size, 4, none⟩ = some (.slice x.a4 o.to.length x.c4) := cell_at m0 4
    go_wp2
    go_ret
    exact ⟨rfl, N0⟩
  · skip
    cases h1 : Tf.tarB o.ta
    · have hR : offB o = false := by unfold offB; rw [h0, h1]; simp
      rw [hR]
      clear hR
      go_enter Tryz.func34, Tryz.ntmps34
      go_wp2_with fail
      refine (Tn.specLines_val x.a0 o.ln x.c0 _ HL.out.ln HL.out.st (I.ln.on N)).mono ?_
      rw [h0]
      rintro e v0 ⟨rfl, L0⟩
      have m0 := kept L0 (lt_of m) m
      have N0 := join_below N L0
      clear L0 m
      have c1 : v0.cell? ⟨w.heap.size, 1, none⟩ = some (.slice x.a1 o.ta.length x.c1) := cell_at m0 1
      have c2 : v0.cell? ⟨w.heap.size, 2, none⟩ = some (.slice x.a2 o.ho.length x.c2) := cell_at m0 2
      have c3 : v0.cell? ⟨w.heap.size, 3, none⟩ = some (.slice x.a3 o.od.length x.c3) := cell_at m0 3
      have c4 : v0.cell? ⟨w.heap.size, 4, none⟩ = some (.slice x.a4 o.to.length x.c4) := cell_at m0 4
      go_wp2_with fail
      refine (Tf.specTariff_val x.a1 o.ta x.c1 _ HL.out.ta (I.ta.on N0)).mono ?_
      rw [h1]
      rintro e v1 ⟨rfl, L1⟩
      have m1 := kept L1 (lt_of m0) m0
      have N1 := join_below N0 L1
      clear L1 m0 c1 c2 c3 c4
      have c2 : v1.cell? ⟨w.heap.size, 2, none⟩ = some (.slice x.a2 o.ho.length x.c2) := cell_at m1 2
      have c3 : v1.cell? ⟨w.heap.size, 3, none⟩ = some (.slice x.a3 o.od.length x.c3) := cell_at m1 3
      have c4 : v1.cell? ⟨w.heap.size, 4, none⟩ = some (.slice x.a4 o.to.length x.c4) := cell_at m1 4
      go_wp2
      go_ret
      exact ⟨rfl, N1⟩
    · skip
      cases h2 : Se.holdsB o.ho
      · have hR : offB o = false := by unfold offB; rw [h0, h1, h2]; simp
        rw [hR]
        clear hR
        go_enter Tryz.func34, Tryz.ntmps34
        go_wp2_with fail
        refine (Tn.specLines_val x.a0 o.ln x.c0 _ HL.out.ln HL.out.st (I.ln.on N)).mono ?_
        rw [h0]
        rintro e v0 ⟨rfl, L0⟩
        have m0 := kept L0 (lt_of m) m
        have N0 := join_below N L0
        clear L0 m
        have c1 : v0.cell? ⟨w.heap.size, 1, none⟩ = some (.slice x.a1 o.ta.length x.c1) := cell_at m0 1
        have c2 : v0.cell? ⟨w.heap.size, 2, none⟩ = some (.slice x.a2 o.ho.length x.c2) := cell_at m0 2
        have c3 : v0.cell? ⟨w.heap.size, 3, none⟩ = some (.slice x.a3 o.od.length x.c3) := cell_at m0 3
        have c4 : v0.cell? ⟨w.heap.size, 4, none⟩ = some (.slice x.a4 o.to.length x.c4) := cell_at m0 4
        go_wp2_with fail
        refine (Tf.specTariff_val x.a1 o.ta x.c1 _ HL.out.ta (I.ta.on N0)).mono ?_
        rw [h1]
        rintro e v1 ⟨rfl, L1⟩
        have m1 := kept L1 (lt_of m0) m0
        have N1 := join_below N0 L1
        clear L1 m0 c1 c2 c3 c4
        have c2 : v1.cell? ⟨w.heap.size, 2, none⟩ = some (.slice x.a2 o.ho.length x.c2) := cell_at m1 2
        have c3 : v1.cell? ⟨w.heap.size, 3, none⟩ = some (.slice x.a3 o.od.length x.c3) := cell_at m1 3
        have c4 : v1.cell? ⟨w.heap.size, 4, none⟩ = some (.slice x.a4 o.to.length x.c4) := cell_at m1 4
        go_wp2_with fail
        refine (Se.specHolds_val x.a2 o.ho x.c2 _ HL.out.ho (I.ho.on N1)).mono ?_
        rw [h2]
        rintro e v2 ⟨rfl, L2⟩
        have m2 := kept L2 (lt_of m1) m1
        have N2 := join_below N1 L2
        clear L2 m1 c2 c3 c4
        have c3 : v2.cell? ⟨w.heap.size, 3, none⟩ = some (.slice x.a3 o.od.length x.c3) := cell_at m2 3
        have c4 : v2.cell? ⟨w.heap.size, 4, none⟩ = some (.slice x.a4 o.to.length x.c4) := cell_at m2 4
        go_wp2
        go_ret
        exact ⟨rfl, N2⟩
      · skip
        by_cases b1 : 100 < o.od.length
        · have hR : offB o = false := by unfold offB idsOk; rw [show decide ((o.od.length : Int) ≤ 100) = false from decide_eq_false (by omega)]; simp
          have d1 : decide (100 < (o.od.length : Int)) = true := decide_eq_true (by omega)
          rw [hR]
          clear hR b1
          go_enter Tryz.func34, Tryz.ntmps34
          go_wp2_with fail
          refine (Tn.specLines_val x.a0 o.ln x.c0 _ HL.out.ln HL.out.st (I.ln.on N)).mono ?_
          rw [h0]
          rintro e v0 ⟨rfl, L0⟩
          have m0 := kept L0 (lt_of m) m
          have N0 := join_below N L0
          clear L0 m
          have c1 : v0.cell? ⟨w.heap.size, 1, none⟩ = some (.slice x.a1 o.ta.length x.c1) := cell_at m0 1
          have c2 : v0.cell? ⟨w.heap.size, 2, none⟩ = some (.slice x.a2 o.ho.length x.c2) := cell_at m0 2
          have c3 : v0.cell? ⟨w.heap.size, 3, none⟩ = some (.slice x.a3 o.od.length x.c3) := cell_at m0 3
          have c4 : v0.cell? ⟨w.heap.size, 4, none⟩ = some (.slice x.a4 o.to.length x.c4) := cell_at m0 4
          go_wp2_with fail
          refine (Tf.specTariff_val x.a1 o.ta x.c1 _ HL.out.ta (I.ta.on N0)).mono ?_
          rw [h1]
          rintro e v1 ⟨rfl, L1⟩
          have m1 := kept L1 (lt_of m0) m0
          have N1 := join_below N0 L1
          clear L1 m0 c1 c2 c3 c4
          have c2 : v1.cell? ⟨w.heap.size, 2, none⟩ = some (.slice x.a2 o.ho.length x.c2) := cell_at m1 2
          have c3 : v1.cell? ⟨w.heap.size, 3, none⟩ = some (.slice x.a3 o.od.length x.c3) := cell_at m1 3
          have c4 : v1.cell? ⟨w.heap.size, 4, none⟩ = some (.slice x.a4 o.to.length x.c4) := cell_at m1 4
          go_wp2_with fail
          refine (Se.specHolds_val x.a2 o.ho x.c2 _ HL.out.ho (I.ho.on N1)).mono ?_
          rw [h2]
          rintro e v2 ⟨rfl, L2⟩
          have m2 := kept L2 (lt_of m1) m1
          have N2 := join_below N1 L2
          clear L2 m1 c2 c3 c4
          have c3 : v2.cell? ⟨w.heap.size, 3, none⟩ = some (.slice x.a3 o.od.length x.c3) := cell_at m2 3
          have c4 : v2.cell? ⟨w.heap.size, 4, none⟩ = some (.slice x.a4 o.to.length x.c4) := cell_at m2 4
          go_wp2
          go_ret
          exact ⟨rfl, N2⟩
        by_cases b2 : 300 < o.to.length
        · have hR : offB o = false := by unfold offB toldOk; rw [show decide ((o.to.length : Int) ≤ 300) = false from decide_eq_false (by omega)]; simp
          have d1 : decide (100 < (o.od.length : Int)) = false := decide_eq_false (by omega)
          have d2 : decide (300 < (o.to.length : Int)) = true := decide_eq_true (by omega)
          rw [hR]
          clear hR b1 b2
          go_enter Tryz.func34, Tryz.ntmps34
          go_wp2_with fail
          refine (Tn.specLines_val x.a0 o.ln x.c0 _ HL.out.ln HL.out.st (I.ln.on N)).mono ?_
          rw [h0]
          rintro e v0 ⟨rfl, L0⟩
          have m0 := kept L0 (lt_of m) m
          have N0 := join_below N L0
          clear L0 m
          have c1 : v0.cell? ⟨w.heap.size, 1, none⟩ = some (.slice x.a1 o.ta.length x.c1) := cell_at m0 1
          have c2 : v0.cell? ⟨w.heap.size, 2, none⟩ = some (.slice x.a2 o.ho.length x.c2) := cell_at m0 2
          have c3 : v0.cell? ⟨w.heap.size, 3, none⟩ = some (.slice x.a3 o.od.length x.c3) := cell_at m0 3
          have c4 : v0.cell? ⟨w.heap.size, 4, none⟩ = some (.slice x.a4 o.to.length x.c4) := cell_at m0 4
          go_wp2_with fail
          refine (Tf.specTariff_val x.a1 o.ta x.c1 _ HL.out.ta (I.ta.on N0)).mono ?_
          rw [h1]
          rintro e v1 ⟨rfl, L1⟩
          have m1 := kept L1 (lt_of m0) m0
          have N1 := join_below N0 L1
          clear L1 m0 c1 c2 c3 c4
          have c2 : v1.cell? ⟨w.heap.size, 2, none⟩ = some (.slice x.a2 o.ho.length x.c2) := cell_at m1 2
          have c3 : v1.cell? ⟨w.heap.size, 3, none⟩ = some (.slice x.a3 o.od.length x.c3) := cell_at m1 3
          have c4 : v1.cell? ⟨w.heap.size, 4, none⟩ = some (.slice x.a4 o.to.length x.c4) := cell_at m1 4
          go_wp2_with fail
          refine (Se.specHolds_val x.a2 o.ho x.c2 _ HL.out.ho (I.ho.on N1)).mono ?_
          rw [h2]
          rintro e v2 ⟨rfl, L2⟩
          have m2 := kept L2 (lt_of m1) m1
          have N2 := join_below N1 L2
          clear L2 m1 c2 c3 c4
          have c3 : v2.cell? ⟨w.heap.size, 3, none⟩ = some (.slice x.a3 o.od.length x.c3) := cell_at m2 3
          have c4 : v2.cell? ⟨w.heap.size, 4, none⟩ = some (.slice x.a4 o.to.length x.c4) := cell_at m2 4
          go_wp2
          go_ret
          exact ⟨rfl, N2⟩
        have HR : Hid (offB o = (heldB o.ho o.od && idsB o.od && disB o.to)) := by
          show _ = _
          unfold offB idsOk toldOk
          rw [h0, h1, h2, show decide ((o.od.length : Int) ≤ 100) = true from decide_eq_true (by omega), show decide ((o.to.length : Int) ≤ 300) = true from decide_eq_true (by omega)]
          cases heldB o.ho o.od <;> cases idsB o.od <;> cases disB o.to <;> rfl
        have d1 : decide (100 < (o.od.length : Int)) = false := decide_eq_false (by omega)
        have d2 : decide (300 < (o.to.length : Int)) = false := decide_eq_false (by omega)
        clear b1 b2
        go_enter Tryz.func34, Tryz.ntmps34
        go_wp2_with fail
        refine (Tn.specLines_val x.a0 o.ln x.c0 _ HL.out.ln HL.out.st (I.ln.on N)).mono ?_
        rw [h0]
        rintro e v0 ⟨rfl, L0⟩
        have m0 := kept L0 (lt_of m) m
        have N0 := join_below N L0
        clear L0 m
        have c1 : v0.cell? ⟨w.heap.size, 1, none⟩ = some (.slice x.a1 o.ta.length x.c1) := cell_at m0 1
        have c2 : v0.cell? ⟨w.heap.size, 2, none⟩ = some (.slice x.a2 o.ho.length x.c2) := cell_at m0 2
        have c3 : v0.cell? ⟨w.heap.size, 3, none⟩ = some (.slice x.a3 o.od.length x.c3) := cell_at m0 3
        have c4 : v0.cell? ⟨w.heap.size, 4, none⟩ = some (.slice x.a4 o.to.length x.c4) := cell_at m0 4
        go_wp2_with fail
        refine (Tf.specTariff_val x.a1 o.ta x.c1 _ HL.out.ta (I.ta.on N0)).mono ?_
        rw [h1]
        rintro e v1 ⟨rfl, L1⟩
        have m1 := kept L1 (lt_of m0) m0
        have N1 := join_below N0 L1
        clear L1 m0 c1 c2 c3 c4
        have c2 : v1.cell? ⟨w.heap.size, 2, none⟩ = some (.slice x.a2 o.ho.length x.c2) := cell_at m1 2
        have c3 : v1.cell? ⟨w.heap.size, 3, none⟩ = some (.slice x.a3 o.od.length x.c3) := cell_at m1 3
        have c4 : v1.cell? ⟨w.heap.size, 4, none⟩ = some (.slice x.a4 o.to.length x.c4) := cell_at m1 4
        go_wp2_with fail
        refine (Se.specHolds_val x.a2 o.ho x.c2 _ HL.out.ho (I.ho.on N1)).mono ?_
        rw [h2]
        rintro e v2 ⟨rfl, L2⟩
        have m2 := kept L2 (lt_of m1) m1
        have N2 := join_below N1 L2
        clear L2 m1 c2 c3 c4
        have c3 : v2.cell? ⟨w.heap.size, 3, none⟩ = some (.slice x.a3 o.od.length x.c3) := cell_at m2 3
        have c4 : v2.cell? ⟨w.heap.size, 4, none⟩ = some (.slice x.a4 o.to.length x.c4) := cell_at m2 4
        have hlt := lt_of m2
        have I2 := I.ho.on N2
        have I3 := I.od.on N2
        have I4 := I.to.on N2
        have c2 : v2.cell? ⟨w.heap.size, 2, none⟩ = some (.slice x.a2 o.ho.length x.c2) := cell_at m2 2
        clear m2 h0 h1 h2 I
        go_wp2
        go_loopw [3] (fun i wr => ∃ k : Nat, k ≤ o.ho.length ∧ i = .int .i64 k ∧ v2 = wr ∧ Hid (∀ i (hi : i < o.ho.length), i < k → soldB o.od o.ho[i].od = true)) (fun i _ => o.ho.length - (intOf i).toNat)
        case atStart => exact ⟨0, by omega, rfl, rfl, fun i _ h => by omega⟩
        case round =>
          obtain ⟨k, hk, rfl, rfl, H⟩ := hrel
          by_cases hkn : k < o.ho.length
          · obtain ⟨b, u, ha, hlb, e0, e1, e2, e3, e4, e5, e6⟩ := I2.at k hkn
            have c2' : v2.cell? ⟨w.heap.size, 2, none⟩ = some (.slice (some ⟨b, u, none⟩) o.ho.length x.c2) := by rw [c2, ha]
            clear ha
            cases hb : inB o.ho[k].od 1 o.od.length
            · have HB : Hid (∀ w, _) := fun w => Se.ins_no o.ho[k].od 1 o.od.length w hb
              have HN : Hid (offB o = false) := by show _ = _; rw [HR.out, held_no hkn (sold_out hb)]; rfl
              clear hb H c2
              generalize o.ho[k] = p at *
              go_wp2_with fail
              refine (HB.out _).mono ?_
              rintro e w5 ⟨rfl, rfl⟩
              go_wp2
              go_ret
              exact ⟨ret_b HN.out, N2⟩
            · have HB : Hid (∀ w, _) := fun w => Se.ins_yes o.ho[k].od 1 o.od.length w hb
              obtain ⟨q, hq, hn, hs⟩ := sold_in hb
              obtain ⟨b', u', ai, ci, ha', hlb', g0, g1, g2, g3, g4, g6, g7, g8, g5, J⟩ := I3.at q hq
              have c3' : v2.cell? ⟨w.heap.size, 3, none⟩ = some (.slice (some ⟨b', u', none⟩) o.od.length x.c3) := by rw [c3, ha']
              clear ha'
              have hk1 : wrap64 ((q : Int) + 1 - 1) = (q : Int) := by rw [show (q : Int) + 1 - 1 = q by omega]; unfold wrap64; omega
              have hk2 : IntKind.i64.wrap ((q : Int) + 1 - 1) = (q : Int) := by rw [show (q : Int) + 1 - 1 = q by omega, IntKind.wrap_i64]; omega
              by_cases hst : o.od[q].h.st = 1
              · have hq1 : (o.od[q].h.st == 1) = true := by simpa using hst
                have HN : Hid (∀ i (hi : i < o.ho.length), i < k + 1 → soldB o.od o.ho[i].od = true) := by
                  intro i hi hik
                  by_cases e : i = k
                  · subst e; rw [hs]; exact decide_eq_true hst
                  · exact H.out i hi (by omega)
                clear hb H c2 c3 hs hst
                rw [hn] at e6 HB
                generalize o.ho[k] = p at *
                generalize o.od[q].l.length = m' at *
                generalize o.od[q].h = p' at *
                go_wp2_with fail
                refine (HB.out _).mono ?_
                rintro e w5 ⟨rfl, rfl⟩
                go_wp2
                go_roundw
                case rel => exact ⟨k + 1, by omega, by go_num, by first | rfl | trivial, HN⟩
                case measure => simp [intOf]; omega
              · have hq1 : (o.od[q].h.st == 1) = false := by simpa using hst
                have HN : Hid (offB o = false) := by show _ = _; rw [HR.out, held_no hkn (by rw [hs]; exact decide_eq_false hst)]; rfl
                clear hb H c2 c3 hs hst
                rw [hn] at e6 HB
                generalize o.ho[k] = p at *
                generalize o.od[q].l.length = m' at *
                generalize o.od[q].h = p' at *
                go_wp2_with fail
                refine (HB.out _).mono ?_
                rintro e w5 ⟨rfl, rfl⟩
                go_wp2
                go_ret
                exact ⟨ret_b HN.out, N2⟩
          · obtain rfl : k = o.ho.length := by omega
            have HH : Hid (heldB o.ho o.od = true) := held_yes fun i hi => H.out i hi hi
            clear H
            go_wp2
            go_loopw [5] (fun i wr => ∃ k : Nat, k ≤ o.od.length ∧ i = .int .i64 k ∧ v2 = wr ∧ Hid (∀ i, i < k → (o.od.getD i od0).h.id = (i : Int) + 1)) (fun i _ => o.od.length - (intOf i).toNat)
            case atStart => exact ⟨0, by omega, rfl, rfl, fun i h => by omega⟩
            case round =>
              obtain ⟨k, hk, rfl, rfl, H⟩ := hrel
              by_cases hkn : k < o.od.length
              · obtain ⟨b', u', ai, ci, ha', hlb', g0, g1, g2, g3, g4, g6, g7, g8, g5, J⟩ := I3.at k hkn
                have c3' : v2.cell? ⟨w.heap.size, 3, none⟩ = some (.slice (some ⟨b', u', none⟩) o.od.length x.c3) := by rw [c3, ha']
                clear ha'
                have hg := getD_at o.od k hkn
                by_cases he : o.od[k].h.id = (k : Int) + 1
                · have HS : Hid (∀ i, i < k + 1 → (o.od.getD i od0).h.id = (i : Int) + 1) := by
                    intro i hi
                    by_cases e : i = k
                    · subst e; rw [hg]; exact he
                    · exact H.out i (by omega)
                  have hq : (o.od[k].h.id == (k : Int) + 1) = true := by simpa using he
                  clear he H hg c3
                  generalize o.od[k].l.length = m' at *
                  generalize o.od[k].h = p' at *
                  go_wp2
                  go_roundw
                  case rel => exact ⟨k + 1, by omega, by go_num, by first | rfl | trivial, HS⟩
                  case measure => simp [intOf]; omega
                · have HS : Hid (offB o = false) := by show _ = _; rw [HR.out, ids_no hkn (by rw [hg]; exact he)]; simp
                  have hq : (o.od[k].h.id == (k : Int) + 1) = false := by simpa using he
                  clear he H hg c3
                  generalize o.od[k].l.length = m' at *
                  generalize o.od[k].h = p' at *
                  go_wp2
                  go_ret
                  exact ⟨ret_b HS.out, N2⟩
              · obtain rfl : k = o.od.length := by omega
                have HI : Hid (idsB o.od = true) := ids_yes H.out
                clear H
                go_wp2
                go_loopw [6] (fun i wr => ∃ k : Nat, k ≤ o.to.length ∧ i = .int .i64 k ∧ Drawn v2 wr ∧ Hid (Dis o.to k)) (fun i _ => o.to.length - (intOf i).toNat)
                case atStart => exact ⟨0, by omega, rfl, Drawn.refl _, fun i j h => by omega⟩
                case round =>
                  obtain ⟨k, hk, rfl, D, H⟩ := hrel
                  have D2 := D.below v2.heap.size
                  have c4' : wr.cell? ⟨w.heap.size, 4, none⟩ = some (.slice x.a4 o.to.length x.c4) := by rw [D2.cell (p := ⟨w.heap.size, 4, none⟩) hlt]; exact c4
                  by_cases hkn : k < o.to.length
                  · obtain ⟨b', u', ha', hlb', g0, g1, g2, g3⟩ := I4.at k hkn
                    have HA : Hid (x.a4 = some ⟨b', u', none⟩) := ha'
                    clear ha'
                    go_wp2
                    go_loopw [7] (fun j wr => ∃ q : Nat, q ≤ k ∧ j = .int .i64 q ∧ Drawn v2 wr ∧ Hid (∀ j, j < q → rqAt o.to k ≠ rqAt o.to j)) (fun j _ => k - (intOf j).toNat)
                    case atStart => exact ⟨0, by omega, rfl, D, fun j h => by omega⟩
                    case round =>
                      obtain ⟨q, hq, rfl, DD, HQ⟩ := hrel
                      have D3 := DD.below v2.heap.size
                      have c4q : wr.cell? ⟨w.heap.size, 4, none⟩ = some (.slice (some ⟨b', u', none⟩) o.to.length x.c4) := by rw [D3.cell (p := ⟨w.heap.size, 4, none⟩) hlt, c4, HA.out]
                      by_cases hqk : q < k
                      · obtain ⟨b2, u2, ha2, hlb2, f0, f1, f2, f3⟩ := I4.at q (by omega)
                        have hbb : b2 = b' ∧ u2 = u' := by
                          rw [HA.out] at ha2
                          simp only [Option.some.injEq, Addr.mk.injEq, and_true] at ha2
                          exact ⟨ha2.1.symm, ha2.2.symm⟩
                        obtain ⟨rfl, rfl⟩ := hbb
                        clear ha2
                        have r1 : wr.cell? ⟨b2, u2 + k * 4, none⟩ = some (.int .i64 (rqAt o.to k)) := by rw [D3.cell (p := ⟨b2, u2 + k * 4, none⟩) hlb', rq_at _ k hkn]; exact g0
                        have r2 : wr.cell? ⟨b2, u2 + q * 4, none⟩ = some (.int .i64 (rqAt o.to q)) := by rw [D3.cell (p := ⟨b2, u2 + q * 4, none⟩) hlb', rq_at _ q (by omega)]; exact f0
                        have hql : q < o.to.length := by omega
                        by_cases he : rqAt o.to k = rqAt o.to q
                        · have HS : Hid (offB o = false) := by show _ = _; rw [HR.out, dis_two hkn hqk he]; simp
                          have hq1 : (rqAt o.to k == rqAt o.to q) = true := by simpa using he
                          clear he H HQ c4' g0 g1 g2 g3 f0 f1 f2 f3
                          generalize rqAt o.to k = z1 at *
                          generalize rqAt o.to q = z2 at *
                          go_wp2
                          go_quiet (fail)
                          have L8 : Below w.heap.size w (wr.drewN nq) := join_below N2 ((DD.more nq).below _)
                          go_wp2
                          go_ret
                          exact ⟨ret_b HS.out, L8⟩
                        · have HS : Hid (∀ j, j < q + 1 → rqAt o.to k ≠ rqAt o.to j) := by
                            intro j hj
                            by_cases e : j = q
                            · subst e; exact he
                            · exact HQ.out j (by omega)
                          have hq1 : (rqAt o.to k == rqAt o.to q) = false := by simpa using he
                          clear he HQ c4' g0 g1 g2 g3 f0 f1 f2 f3
                          generalize rqAt o.to q = z2 at *
                          generalize hz1 : rqAt o.to k = z1 at *
                          clear hz1
                          go_wp2
                          go_quiet (fail)
                          have D8 := DD.more nq
                          go_wp2
                          go_roundw
                          case rel => exact ⟨q + 1, by omega, by go_num, D8, HS⟩
                          case measure => simp [intOf]; omega
                      · obtain rfl : q = k := by omega
                        have HS : Hid (Dis o.to (q + 1)) := by
                          intro i j hi hj
                          by_cases e : i = q
                          · subst e; exact HQ.out j hj
                          · exact H.out i j (by omega) hj
                        clear H HQ
                        go_wp2
                        go_roundw
                        case rel => exact ⟨q + 1, by omega, by go_num, DD, HS⟩
                        case measure => simp [intOf]; omega
                  · obtain rfl : k = o.to.length := by omega
                    have HS : Hid (offB o = true) := by show _ = _; rw [HR.out, HH.out, HI.out, dis_yes H.out]; rfl
                    have L8 := join_below N2 D2
                    clear H
                    go_wp2
                    go_ret
                    exact ⟨ret_b HS.out, L8⟩

end Of
end Go.Proofs.YtmoinacceildcaaGreatDoor

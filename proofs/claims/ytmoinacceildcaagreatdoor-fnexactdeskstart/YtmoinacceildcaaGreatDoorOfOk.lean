/- Contract of OfficeOk of the program. -/
import Derived.Test.YtmoinacceildcaaGreatDoorOfSold
import Derived.Test.YtmoinacceildcaaGreatDoorTnLinesS
import Derived.Test.YtmoinacceildcaaGreatDoorTfOkS
import Derived.Test.YtmoinacceildcaaGreatDoorSeFree
namespace Go.Proofs.YtmoinacceildcaaGreatDoor
namespace Of
open Go.ChangeShapes Go.WideShapes Go.ChangeAt Go.RowKit Go.Joins
open Pk (new_below join_below cell_at heap_new frozen_at lt_of kept heap_old info_of Room)
set_option linter.unusedSimpArgs false
set_option linter.unusedVariables false

open Se (inB in_is in_not)

/-- Whether all holds are of orders that are sold. -/
def heldB (l : List Se.Hl) (d : List Od.Oo) : Bool := l.all fun h => soldB d h.od

theorem held_no {l : List Se.Hl} {d : List Od.Oo} {k : Nat} (hk : k < l.length) (h : soldB d l[k].od = false) : heldB l d = false := by
  cases e : heldB l d
  · rfl
  · exfalso
    unfold heldB at e
    rw [List.all_eq_true] at e
    rw [e _ (List.getElem_mem hk)] at h
    cases h

theorem held_yes {l : List Se.Hl} {d : List Od.Oo} (h : ∀ i (hi : i < l.length), soldB d l[i].od = true) : heldB l d = true := by
  unfold heldB
  rw [List.all_eq_true]
  intro x hx
  obtain ⟨i, hi, rfl⟩ := List.mem_iff_getElem.1 hx
  exact h i hi

/-- Whether an office is right. -/
def offB (o : Offc) : Bool := Tn.linesB o.ln && Tf.tarB o.ta && Se.holdsB o.ho && idsOk o.od && toldOk o.to && heldB o.ho o.od

set_option maxRecDepth 100000 in
set_option maxHeartbeats 4000000 in
theorem implOffice_val (x : Pl) (o : Offc) (w : World) (hl : Lim o) (hz : Small o) (I : In w x o) :
    Calls Tryz.prog 44 #[ofV x o] w fun e w' => e = .returned (.bool (offB o)) ∧ Below w.heap.size w w' := by
  have HL : Hid (Lim o) := hl
  have HZ : Hid (o.to.length ≤ 1048576) := hz.2.2.2.2
  have hho : o.ho.length ≤ 1048576 := hz.2.2.1
  clear hl hz
  have N := new_below w (ofB x o 28)
  have m := heap_new w (ofB x o 28)
  cases h0 : Tn.linesB o.ln
  · have hR : offB o = false := by unfold offB; rw [h0]; simp
    rw [hR]
    clear hR
    go_enter Tryz.func44, Tryz.ntmps44
    go_wp2_with fail
    refine (Tn.implLines_val x.a0 o.ln x.c0 _ HL.out.ln HL.out.st (I.ln.on N)).mono ?_
    rw [h0]
    rintro e v0 ⟨rfl, L0⟩
    have m0 := kept L0 (lt_of m) m
    have N0 := join_below N L0
    clear L0 m
    have c1 : v0.cell? ⟨w.heap.size, 1, none⟩ = some (.slice x.a1 o.ta.length x.c1) := cell_at m0 1
    have c2 : v0.cell? ⟨w.heap.size, 2, none⟩ = some (.slice x.a2 o.ho.length x.c2) := cell_at m0 2
    have c3 : v0.cell? ⟨w.heap.size, 3, none⟩ = some (.slice x.a3 o.od.length x.c3) := cell_at m0 3
    have c4 : v0.cell? ⟨w.heap.size, 4, none⟩ = some (.slice x.a4 o.to.length x.c4) := cell_at m0 4
    go_wp2
    go_ret
    exact ⟨rfl, N0⟩
  · skip
    cases h1 : Tf.tarB o.ta
    · have hR : offB o = false := by unfold offB; rw [h0, h1]; simp
      rw [hR]
      clear hR
      go_enter Tryz.func44, Tryz.ntmps44
      go_wp2_with fail
      refine (Tn.implLines_val x.a0 o.ln x.c0 _ HL.out.ln HL.out.st (I.ln.on N)).mono ?_
      rw [h0]
      rintro e v0 ⟨rfl, L0⟩
      have m0 := kept L0 (lt_of m) m
      have N0 := join_below N L0
      clear L0 m
      have c1 : v0.cell? ⟨w.heap.size, 1, none⟩ = some (.slice x.a1 o.ta.length x.c1) := cell_at m0 1
      have c2 : v0.cell? ⟨w.heap.size, 2, none⟩ = some (.slice x.a2 o.ho.length x.c2) := cell_at m0 2
      have c3 : v0.cell? ⟨w.heap.size, 3, none⟩ = some (.slice x.a3 o.od.length x.c3) := cell_at m0 3
      have c4 : v0.cell? ⟨w.heap.size, 4, none⟩ = some (.slice x.a4 o.to.length x.c4) := cell_at m0 4
      go_wp2_with fail
      refine (Tf.implTariff_val x.a1 o.ta x.c1 _ HL.out.ta (I.ta.on N0)).mono ?_
      rw [h1]
      rintro e v1 ⟨rfl, L1⟩
      have m1 := kept L1 (lt_of m0) m0
      have N1 := join_below N0 L1
      clear L1 m0 c1 c2 c3 c4
      have c2 : v1.cell? ⟨w.heap.size, 2, none⟩ = some (.slice x.a2 o.ho.length x.c2) := cell_at m1 2
      have c3 : v1.cell? ⟨w.heap.size, 3, none⟩ = some (.slice x.a3 o.od.length x.c3) := cell_at m1 3
      have c4 : v1.cell? ⟨w.heap.size, 4, none⟩ = some (.slice x.a4 o.to.length x.c4) := cell_at m1 4
      go_wp2
      go_ret
      exact ⟨rfl, N1⟩
    · skip
      cases h2 : Se.holdsB o.ho
      · have hR : offB o = false := by unfold offB; rw [h0, h1, h2]; simp
        rw [hR]
        clear hR
        go_enter Tryz.func44, Tryz.ntmps44
        go_wp2_with fail
        refine (Tn.implLines_val x.a0 o.ln x.c0 _ HL.out.ln HL.out.st (I.ln.on N)).mono ?_
        rw [h0]
        rintro e v0 ⟨rfl, L0⟩
        have m0 := kept L0 (lt_of m) m
        have N0 := join_below N L0
        clear L0 m
        have c1 : v0.cell? ⟨w.heap.size, 1, none⟩ = some (.slice x.a1 o.ta.length x.c1) := cell_at m0 1
        have c2 : v0.cell? ⟨w.heap.size, 2, none⟩ = some (.slice x.a2 o.ho.length x.c2) := cell_at m0 2
        have c3 : v0.cell? ⟨w.heap.size, 3, none⟩ = some (.slice x.a3 o.od.length x.c3) := cell_at m0 3
        have c4 : v0.cell? ⟨w.heap.size, 4, none⟩ = some (.slice x.a4 o.to.length x.c4) := cell_at m0 4
        go_wp2_with fail
        refine (Tf.implTariff_val x.a1 o.ta x.c1 _ HL.out.ta (I.ta.on N0)).mono ?_
        rw [h1]
        rintro e v1 ⟨rfl, L1⟩
        have m1 := kept L1 (lt_of m0) m0
        have N1 := join_below N0 L1
        clear L1 m0 c1 c2 c3 c4
        have c2 : v1.cell? ⟨w.heap.size, 2, none⟩ = some (.slice x.a2 o.ho.length x.c2) := cell_at m1 2
        have c3 : v1.cell? ⟨w.heap.size, 3, none⟩ = some (.slice x.a3 o.od.length x.c3) := cell_at m1 3
        have c4 : v1.cell? ⟨w.heap.size, 4, none⟩ = some (.slice x.a4 o.to.length x.c4) := cell_at m1 4
        go_wp2_with fail
        refine (Se.implHolds_val x.a2 o.ho x.c2 _ HL.out.ho (I.ho.on N1) HL.out.hw).mono ?_
        rw [h2]
        rintro e v2 ⟨rfl, L2⟩
        have m2 := kept L2 (lt_of m1) m1
        have N2 := join_below N1 L2
        clear L2 m1 c2 c3 c4
        have c3 : v2.cell? ⟨w.heap.size, 3, none⟩ = some (.slice x.a3 o.od.length x.c3) := cell_at m2 3
        have c4 : v2.cell? ⟨w.heap.size, 4, none⟩ = some (.slice x.a4 o.to.length x.c4) := cell_at m2 4
        go_wp2
        go_ret
        exact ⟨rfl, N2⟩
      · skip
        cases h3 : idsOk o.od
        · have hR : offB o = false := by unfold offB; rw [h0, h1, h2, h3]; simp
          rw [hR]
          clear hR
          go_enter Tryz.func44, Tryz.ntmps44
          go_wp2_with fail
          refine (Tn.implLines_val x.a0 o.ln x.c0 _ HL.out.ln HL.out.st (I.ln.on N)).mono ?_
          rw [h0]
          rintro e v0 ⟨rfl, L0⟩
          have m0 := kept L0 (lt_of m) m
          have N0 := join_below N L0
          clear L0 m
          have c1 : v0.cell? ⟨w.heap.size, 1, none⟩ = some (.slice x.a1 o.ta.length x.c1) := cell_at m0 1
          have c2 : v0.cell? ⟨w.heap.size, 2, none⟩ = some (.slice x.a2 o.ho.length x.c2) := cell_at m0 2
          have c3 : v0.cell? ⟨w.heap.size, 3, none⟩ = some (.slice x.a3 o.od.length x.c3) := cell_at m0 3
          have c4 : v0.cell? ⟨w.heap.size, 4, none⟩ = some (.slice x.a4 o.to.length x.c4) := cell_at m0 4
          go_wp2_with fail
          refine (Tf.implTariff_val x.a1 o.ta x.c1 _ HL.out.ta (I.ta.on N0)).mono ?_
          rw [h1]
          rintro e v1 ⟨rfl, L1⟩
          have m1 := kept L1 (lt_of m0) m0
          have N1 := join_below N0 L1
          clear L1 m0 c1 c2 c3 c4
          have c2 : v1.cell? ⟨w.heap.size, 2, none⟩ = some (.slice x.a2 o.ho.length x.c2) := cell_at m1 2
          have c3 : v1.cell? ⟨w.heap.size, 3, none⟩ = some (.slice x.a3 o.od.length x.c3) := cell_at m1 3
          have c4 : v1.cell? ⟨w.heap.size, 4, none⟩ = some (.slice x.a4 o.to.length x.c4) := cell_at m1 4
          go_wp2_with fail
          refine (Se.implHolds_val x.a2 o.ho x.c2 _ HL.out.ho (I.ho.on N1) HL.out.hw).mono ?_
          rw [h2]
          rintro e v2 ⟨rfl, L2⟩
          have m2 := kept L2 (lt_of m1) m1
          have N2 := join_below N1 L2
          clear L2 m1 c2 c3 c4
          have c3 : v2.cell? ⟨w.heap.size, 3, none⟩ = some (.slice x.a3 o.od.length x.c3) := cell_at m2 3
          have c4 : v2.cell? ⟨w.heap.size, 4, none⟩ = some (.slice x.a4 o.to.length x.c4) := cell_at m2 4
          go_wp2_with fail
          refine (ordersOk_val x.a3 o.od x.c3 _ HL.out.od (I.od.on N2)).mono ?_
          rw [h3]
          rintro e v3 ⟨rfl, L3⟩
          have m3 := kept L3 (lt_of m2) m2
          have N3 := join_below N2 L3
          clear L3 m2 c3 c4
          have c4 : v3.cell? ⟨w.heap.size, 4, none⟩ = some (.slice x.a4 o.to.length x.c4) := cell_at m3 4
          go_wp2
          go_ret
          exact ⟨rfl, N3⟩
        · skip
          cases h4 : toldOk o.to
          · have hR : offB o = false := by unfold offB; rw [h0, h1, h2, h3, h4]; simp
            rw [hR]
            clear hR
            go_enter Tryz.func44, Tryz.ntmps44
            go_wp2_with fail
            refine (Tn.implLines_val x.a0 o.ln x.c0 _ HL.out.ln HL.out.st (I.ln.on N)).mono ?_
            rw [h0]
            rintro e v0 ⟨rfl, L0⟩
            have m0 := kept L0 (lt_of m) m
            have N0 := join_below N L0
            clear L0 m
            have c1 : v0.cell? ⟨w.heap.size, 1, none⟩ = some (.slice x.a1 o.ta.length x.c1) := cell_at m0 1
            have c2 : v0.cell? ⟨w.heap.size, 2, none⟩ = some (.slice x.a2 o.ho.length x.c2) := cell_at m0 2
            have c3 : v0.cell? ⟨w.heap.size, 3, none⟩ = some (.slice x.a3 o.od.length x.c3) := cell_at m0 3
            have c4 : v0.cell? ⟨w.heap.size, 4, none⟩ = some (.slice x.a4 o.to.length x.c4) := cell_at m0 4
            go_wp2_with fail
            refine (Tf.implTariff_val x.a1 o.ta x.c1 _ HL.out.ta (I.ta.on N0)).mono ?_
            rw [h1]
            rintro e v1 ⟨rfl, L1⟩
            have m1 := kept L1 (lt_of m0) m0
            have N1 := join_below N0 L1
            clear L1 m0 c1 c2 c3 c4
            have c2 : v1.cell? ⟨w.heap.size, 2, none⟩ = some (.slice x.a2 o.ho.length x.c2) := cell_at m1 2
            have c3 : v1.cell? ⟨w.heap.size, 3, none⟩ = some (.slice x.a3 o.od.length x.c3) := cell_at m1 3
            have c4 : v1.cell? ⟨w.heap.size, 4, none⟩ = some (.slice x.a4 o.to.length x.c4) := cell_at m1 4
            go_wp2_with fail
            refine (Se.implHolds_val x.a2 o.ho x.c2 _ HL.out.ho (I.ho.on N1) HL.out.hw).mono ?_
            rw [h2]
            rintro e v2 ⟨rfl, L2⟩
            have m2 := kept L2 (lt_of m1) m1
            have N2 := join_below N1 L2
            clear L2 m1 c2 c3 c4
            have c3 : v2.cell? ⟨w.heap.size, 3, none⟩ = some (.slice x.a3 o.od.length x.c3) := cell_at m2 3
            have c4 : v2.cell? ⟨w.heap.size, 4, none⟩ = some (.slice x.a4 o.to.length x.c4) := cell_at m2 4
            go_wp2_with fail
            refine (ordersOk_val x.a3 o.od x.c3 _ HL.out.od (I.od.on N2)).mono ?_
            rw [h3]
            rintro e v3 ⟨rfl, L3⟩
            have m3 := kept L3 (lt_of m2) m2
            have N3 := join_below N2 L3
            clear L3 m2 c3 c4
            have c4 : v3.cell? ⟨w.heap.size, 4, none⟩ = some (.slice x.a4 o.to.length x.c4) := cell_at m3 4
            go_wp2_with fail
            refine (toldOk_val x.a4 o.to x.c4 _ HZ.out (I.to.on N3) HL.out.tw).mono ?_
            rw [h4]
            rintro e v4 ⟨rfl, L4⟩
            have m4 := kept L4 (lt_of m3) m3
            have N4 := join_below N3 L4
            clear L4 m3 c4
            have c2 : v4.cell? ⟨w.heap.size, 2, none⟩ = some (.slice x.a2 o.ho.length x.c2) := cell_at m4 2
            have c3 : v4.cell? ⟨w.heap.size, 3, none⟩ = some (.slice x.a3 o.od.length x.c3) := cell_at m4 3
            have c4 : v4.cell? ⟨w.heap.size, 4, none⟩ = some (.slice x.a4 o.to.length x.c4) := cell_at m4 4
            go_wp2
            go_ret
            exact ⟨rfl, N4⟩
          · have hR : offB o = heldB o.ho o.od := by unfold offB; rw [h0, h1, h2, h3, h4]; simp
            rw [hR]
            clear hR
            go_enter Tryz.func44, Tryz.ntmps44
            go_wp2_with fail
            refine (Tn.implLines_val x.a0 o.ln x.c0 _ HL.out.ln HL.out.st (I.ln.on N)).mono ?_
            rw [h0]
            rintro e v0 ⟨rfl, L0⟩
            have m0 := kept L0 (lt_of m) m
            have N0 := join_below N L0
            clear L0 m
            have c1 : v0.cell? ⟨w.heap.size, 1, none⟩ = some (.slice x.a1 o.ta.length x.c1) := cell_at m0 1
            have c2 : v0.cell? ⟨w.heap.size, 2, none⟩ = some (.slice x.a2 o.ho.length x.c2) := cell_at m0 2
            have c3 : v0.cell? ⟨w.heap.size, 3, none⟩ = some (.slice x.a3 o.od.length x.c3) := cell_at m0 3
            have c4 : v0.cell? ⟨w.heap.size, 4, none⟩ = some (.slice x.a4 o.to.length x.c4) := cell_at m0 4
            go_wp2_with fail
            refine (Tf.implTariff_val x.a1 o.ta x.c1 _ HL.out.ta (I.ta.on N0)).mono ?_
            rw [h1]
            rintro e v1 ⟨rfl, L1⟩
            have m1 := kept L1 (lt_of m0) m0
            have N1 := join_below N0 L1
            clear L1 m0 c1 c2 c3 c4
            have c2 : v1.cell? ⟨w.heap.size, 2, none⟩ = some (.slice x.a2 o.ho.length x.c2) := cell_at m1 2
            have c3 : v1.cell? ⟨w.heap.size, 3, none⟩ = some (.slice x.a3 o.od.length x.c3) := cell_at m1 3
            have c4 : v1.cell? ⟨w.heap.size, 4, none⟩ = some (.slice x.a4 o.to.length x.c4) := cell_at m1 4
            go_wp2_with fail
            refine (Se.implHolds_val x.a2 o.ho x.c2 _ HL.out.ho (I.ho.on N1) HL.out.hw).mono ?_
            rw [h2]
            rintro e v2 ⟨rfl, L2⟩
            have m2 := kept L2 (lt_of m1) m1
            have N2 := join_below N1 L2
            clear L2 m1 c2 c3 c4
            have c3 : v2.cell? ⟨w.heap.size, 3, none⟩ = some (.slice x.a3 o.od.length x.c3) := cell_at m2 3
            have c4 : v2.cell? ⟨w.heap.size, 4, none⟩ = some (.slice x.a4 o.to.length x.c4) := cell_at m2 4
            go_wp2_with fail
            refine (ordersOk_val x.a3 o.od x.c3 _ HL.out.od (I.od.on N2)).mono ?_
            rw [h3]
            rintro e v3 ⟨rfl, L3⟩
            have m3 := kept L3 (lt_of m2) m2
            have N3 := join_below N2 L3
            clear L3 m2 c3 c4
            have c4 : v3.cell? ⟨w.heap.size, 4, none⟩ = some (.slice x.a4 o.to.length x.c4) := cell_at m3 4
            go_wp2_with fail
            refine (toldOk_val x.a4 o.to x.c4 _ HZ.out (I.to.on N3) HL.out.tw).mono ?_
            rw [h4]
            rintro e v4 ⟨rfl, L4⟩
            have m4 := kept L4 (lt_of m3) m3
            have N4 := join_below N3 L4
            clear L4 m3 c4
            have c2 : v4.cell? ⟨w.heap.size, 2, none⟩ = some (.slice x.a2 o.ho.length x.c2) := cell_at m4 2
            have c3 : v4.cell? ⟨w.heap.size, 3, none⟩ = some (.slice x.a3 o.od.length x.c3) := cell_at m4 3
            have c4 : v4.cell? ⟨w.heap.size, 4, none⟩ = some (.slice x.a4 o.to.length x.c4) := cell_at m4 4
            have hlt := lt_of m4
            have I2 := I.ho.on N4
            have I3 := I.od.on N4
            clear m4 c4 h0 h1 h2 h3 h4
            go_wp2
            go_loopw [38] (fun i wr => ∃ k : Nat, k ≤ o.ho.length ∧ i = .int .i64 k ∧ Below v4.heap.size v4 wr ∧ Hid (∀ i (hi : i < o.ho.length), i < k → soldB o.od o.ho[i].od = true)) (fun i _ => o.ho.length - (intOf i).toNat)
            case atStart => exact ⟨0, by omega, rfl, Below.refl _ _, fun i _ h => by omega⟩
            case round =>
              obtain ⟨k, hk, rfl, L, H⟩ := hrel
              by_cases hkn : k < o.ho.length
              · obtain ⟨b, u, ha, hlb, e0, e1, e2, e3, e4, e5, e6⟩ := (I2.on L).at k hkn
                have NB := new_below wr (.cells #[.int .i64 o.ho[k].tr, .int .i64 o.ho[k].dy, .int .i64 o.ho[k].co, .int .i64 o.ho[k].se, .int .i64 o.ho[k].ba, .int .i64 o.ho[k].be, .int .i64 o.ho[k].od] 98)
                have xb := heap_new wr (.cells #[.int .i64 o.ho[k].tr, .int .i64 o.ho[k].dy, .int .i64 o.ho[k].co, .int .i64 o.ho[k].se, .int .i64 o.ho[k].ba, .int .i64 o.ho[k].be, .int .i64 o.ho[k].od] 98)
                have L1 := join_below L NB
                have d3 : (wr.alloc (.cells #[.int .i64 o.ho[k].tr, .int .i64 o.ho[k].dy, .int .i64 o.ho[k].co, .int .i64 o.ho[k].se, .int .i64 o.ho[k].ba, .int .i64 o.ho[k].be, .int .i64 o.ho[k].od] 98)).cell? ⟨w.heap.size, 3, none⟩ = some (.slice x.a3 o.od.length x.c3) := by rw [L1.cell (p := ⟨w.heap.size, 3, none⟩) hlt]; exact c3
                have d6 : (wr.alloc (.cells #[.int .i64 o.ho[k].tr, .int .i64 o.ho[k].dy, .int .i64 o.ho[k].co, .int .i64 o.ho[k].se, .int .i64 o.ho[k].ba, .int .i64 o.ho[k].be, .int .i64 o.ho[k].od] 98)).cell? ⟨wr.heap.size, 6, none⟩ = some (.int .i64 o.ho[k].od) := cell_at xb 6
                have HS : Hid (∀ W, Od.Orders W x.a3 o.od → _) := fun W h => soldOrder_val x.a3 o.od x.c3 o.ho[k].od W HL.out.od h
                have J1 := I3.on L1
                clear NB xb c2 c3
                cases hs : soldB o.od o.ho[k].od
                · have HR : Hid (heldB o.ho o.od = false) := held_no hkn hs
                  rw [hs] at HS
                  clear hs H L
                  rw [ha] at *
                  generalize o.ho[k] = p at *
                  go_wp2_with fail
                  refine (HS.out _ J1).mono ?_
                  rintro e w5 ⟨⟨t5, b5, n5, q5, rfl⟩, L5⟩
                  have L6 := join_below L1 L5
                  have L7 := join_below N4 (join_below L6 (new_below w5 (Od.odB t5 b5 n5 q5 101)))
                  clear L1 L5 L6 d3 d6 J1 HS
                  go_wp2
                  go_ret
                  exact ⟨ret_b HR.out, L7⟩
                · have HR : Hid (∀ i (hi : i < o.ho.length), i < k + 1 → soldB o.od o.ho[i].od = true) := by
                    intro i hi hik
                    by_cases e : i = k
                    · subst e; exact hs
                    · exact H.out i hi (by omega)
                  rw [hs] at HS
                  clear hs H L
                  rw [ha] at *
                  generalize o.ho[k] = p at *
                  go_wp2_with fail
                  refine (HS.out _ J1).mono ?_
                  rintro e w5 ⟨⟨t5, b5, n5, q5, rfl⟩, L5⟩
                  have L6 := join_below L1 L5
                  have L7 := join_below L6 (new_below w5 (Od.odB t5 b5 n5 q5 101))
                  clear L1 L5 L6 d3 d6 J1 HS
                  go_wp2
                  go_roundw
                  case rel => exact ⟨k + 1, by omega, by go_num, L7, HR⟩
                  case measure => simp [intOf]; omega
              · obtain rfl : k = o.ho.length := by omega
                have HR : Hid (heldB o.ho o.od = true) := held_yes fun i hi => H.out i hi hi
                clear H
                have L2 := join_below N4 L
                go_wp2
                go_ret
                exact ⟨ret_b HR.out, L2⟩

end Of
end Go.Proofs.YtmoinacceildcaaGreatDoor

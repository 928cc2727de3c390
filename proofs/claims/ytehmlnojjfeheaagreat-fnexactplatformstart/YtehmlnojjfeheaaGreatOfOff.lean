/- Offices: their size, two of them held against each other, one that came in. -/
import Derived.Test.YtehmlnojjfeheaaGreatTnTrains2
import Derived.Test.YtehmlnojjfeheaaGreatTfOpen
import Derived.Test.YtehmlnojjfeheaaGreatSeOpen
import Derived.Test.YtehmlnojjfeheaaGreatOfRepOpen
import Derived.Test.YtehmlnojjfeheaaGreatOfOrds2
namespace Go.Proofs.YtehmlnojjfeheaaGreat
namespace Of
open Go.ChangeShapes Go.WideShapes Go.ChangeAt Go.RowKit Go.Joins
open Pk (new_below join_below cell_at heap_new frozen_at lt_of kept heap_old info_of Room)
set_option linter.unusedSimpArgs false
set_option linter.unusedVariables false

/-- An office. -/
structure Offc where
  ln : List Tn.Tr
  ta : List Tf.Ed
  ho : List Se.Hl
  od : List Od.Oo
  to : List Rp.Rr
  td : Int

/-- Where its lists lie, and their room. -/
structure Pl where
  a0 : Option Addr
  a1 : Option Addr
  a2 : Option Addr
  a3 : Option Addr
  a4 : Option Addr
  c0 : Nat
  c1 : Nat
  c2 : Nat
  c3 : Nat
  c4 : Nat

/-- It as a value. -/
abbrev ofV (x : Pl) (o : Offc) : Value := .agg #[.slice x.a0 o.ln.length x.c0, .slice x.a1 o.ta.length x.c1, .slice x.a2 o.ho.length x.c2, .slice x.a3 o.od.length x.c3, .slice x.a4 o.to.length x.c4, .int .i64 o.td]

/-- It in a block of its own. -/
abbrev ofB (x : Pl) (o : Offc) (ty : TypeId) : Obj := .cells #[.slice x.a0 o.ln.length x.c0, .slice x.a1 o.ta.length x.c1, .slice x.a2 o.ho.length x.c2, .slice x.a3 o.od.length x.c3, .slice x.a4 o.to.length x.c4, .int .i64 o.td] ty

/-- Its lists, as they came in. -/
structure InA (w : World) (x : Pl) (o : Offc) : Prop where
  ln : Tn.TrainsA w x.a0 o.ln
  ta : Tf.Edges w x.a1 o.ta
  ho : Se.Holds w x.a2 o.ho
  od : Od.Orders w x.a3 o.od
  to : Rp.Replys w x.a4 o.to

/-- Its lists, none of whose stops are nil. -/
structure In (w : World) (x : Pl) (o : Offc) : Prop where
  ln : Tn.Trains w x.a0 o.ln
  ta : Tf.Edges w x.a1 o.ta
  ho : Se.Holds w x.a2 o.ho
  od : Od.Orders w x.a3 o.od
  to : Rp.Replys w x.a4 o.to

theorem InA.on {w w1 : World} {x : Pl} {o : Offc} (h : InA w x o) (L : Below w.heap.size w w1) : InA w1 x o := ⟨h.ln.on L, h.ta.on L, h.ho.on L, h.od.on L, h.to.on L⟩

theorem In.on {w w1 : World} {x : Pl} {o : Offc} (h : In w x o) (L : Below w.heap.size w w1) : In w1 x o := ⟨h.ln.on L, h.ta.on L, h.ho.on L, h.od.on L, h.to.on L⟩

/-- None of its lists is longer than a list can be; its numbers are such as an int holds. -/
structure Lim (o : Offc) : Prop where
  ln : o.ln.length ≤ maxLen
  st : ∀ i (h : i < o.ln.length), o.ln[i].l.length ≤ maxLen
  ta : o.ta.length ≤ maxLen
  ho : o.ho.length ≤ maxLen
  hw : Se.Wfs o.ho
  od : o.od.length ≤ maxLen
  os : ∀ i (h : i < o.od.length), o.od[i].h.nm.size ≤ maxLen ∧ o.od[i].l.length ≤ maxLen
  ow : ∀ t ∈ o.od, Od.Wf t
  to : o.to.length ≤ maxLen
  tw : Rp.Wfs o.to
  td : (Lit.int .i64 o.td).wf = true

set_option maxHeartbeats 2000000 in
theorem szOffice_yes (x : Pl) (o : Offc) (w : World) (I : InA w x o) (h : 0 ≤ 1048576 - (Tn.bulk o.ln : Int) - (o.ta.length : Int) - (o.ho.length : Int) - (Od.bulk o.od : Int) - (o.to.length : Int)) :
    Calls Tryz.prog 4 #[ofV x o, .int .i64 1048576] w fun e w' => e = .returned (.int .i64 (1048576 - (Tn.bulk o.ln : Int) - (o.ta.length : Int) - (o.ho.length : Int) - (Od.bulk o.od : Int) - (o.to.length : Int))) ∧ Below w.heap.size w w' := by
  obtain ⟨I0, I1, I2, I3, I4⟩ := I
  have HB : Hid (Tn.bulk o.ln ≤ 1048576) := by show _ ≤ _; omega
  have hd0 : decide (1048576 - (Tn.bulk o.ln : Int) < 0) = false := decide_eq_false (by omega)
  have hd1 : decide (1048576 - (Tn.bulk o.ln : Int) - (o.ta.length : Int) < 0) = false := decide_eq_false (by omega)
  have hd2 : decide (1048576 - (Tn.bulk o.ln : Int) - (o.ta.length : Int) - (o.ho.length : Int) < 0) = false := decide_eq_false (by omega)
  have hd3 : decide (1048576 - (Tn.bulk o.ln : Int) - (o.ta.length : Int) - (o.ho.length : Int) - (Od.bulk o.od : Int) < 0) = false := decide_eq_false (by omega)
  have hd4 : decide (1048576 - (Tn.bulk o.ln : Int) - (o.ta.length : Int) - (o.ho.length : Int) - (Od.bulk o.od : Int) - (o.to.length : Int) < 0) = false := decide_eq_false (by omega)
  have N := new_below w (ofB x o 28)
  have m := heap_new w (ofB x o 28)
  go_enter Tryz.func4, Tryz.ntmps4
  go_wp2_with fail
  refine (Tn.szTrainS_yes x.a0 o.ln x.c0 _ HB.out (I0.on N)).mono ?_
  rintro e v0 ⟨rfl, L0⟩
  have m0 := kept L0 (lt_of m) m
  have K0 := join_below N L0
  have c1 : v0.cell? ⟨w.heap.size, 1, none⟩ = some (.slice x.a1 o.ta.length x.c1) := cell_at m0 1
  have c2 : v0.cell? ⟨w.heap.size, 2, none⟩ = some (.slice x.a2 o.ho.length x.c2) := cell_at m0 2
  have c3 : v0.cell? ⟨w.heap.size, 3, none⟩ = some (.slice x.a3 o.od.length x.c3) := cell_at m0 3
  go_wp2_with fail
  refine (Tf.szEdgeS_yes x.a1 o.ta.length x.c1 _ _ (by omega) (by omega)).mono ?_
  rintro e v1 ⟨rfl, rfl⟩
  go_wp2_with fail
  refine (Se.szHoldS_yes x.a2 o.ho.length x.c2 _ _ (by omega) (by omega)).mono ?_
  rintro e v2 ⟨rfl, rfl⟩
  go_wp2_with fail
  refine (Od.szOrderS_yes x.a3 o.od x.c3 _ _ (by omega) (by omega) (I3.on K0)).mono ?_
  rintro e v3 ⟨rfl, L3⟩
  have m3 := kept L3 (lt_of m0) m0
  have K3 := join_below K0 L3
  have c4 : v3.cell? ⟨w.heap.size, 4, none⟩ = some (.slice x.a4 o.to.length x.c4) := cell_at m3 4
  go_wp2_with fail
  refine (Rp.szReplyS_yes x.a4 o.to.length x.c4 _ _ (by omega) (by omega)).mono ?_
  rintro e v4 ⟨rfl, rfl⟩
  go_wp2
  go_ret
  exact ⟨rfl, K3⟩

set_option maxHeartbeats 2000000 in
theorem szOffice_no0 (x : Pl) (o : Offc) (w : World) (I : InA w x o) (Hl : Lim o) (h : ¬ Tn.bulk o.ln ≤ 1048576) :
    Calls Tryz.prog 4 #[ofV x o, .int .i64 1048576] w fun e w' => e = .returned (.int .i64 (-1)) ∧ Below w.heap.size w w' := by
  obtain ⟨I0, I1, I2, I3, I4⟩ := I
  have HM : Hid (_ ∧ _ ∧ _) := ⟨Hl.ln, Hl.st, h⟩
  have N := new_below w (ofB x o 28)
  have m := heap_new w (ofB x o 28)
  clear Hl h
  go_enter Tryz.func4, Tryz.ntmps4
  go_wp2_with fail
  refine (Tn.szTrainS_no x.a0 o.ln x.c0 _ HM.out.1 HM.out.2.1 HM.out.2.2 (I0.on N)).mono ?_
  rintro e v0 ⟨rfl, L0⟩
  have KE := join_below N L0
  go_wp2
  go_ret
  exact ⟨rfl, KE⟩

set_option maxHeartbeats 2000000 in
theorem szOffice_no1 (x : Pl) (o : Offc) (w : World) (I : InA w x o) (Hl : Lim o) (hy : 0 ≤ 1048576 - (Tn.bulk o.ln : Int)) (h : ¬ 0 ≤ 1048576 - (Tn.bulk o.ln : Int) - (o.ta.length : Int)) :
    Calls Tryz.prog 4 #[ofV x o, .int .i64 1048576] w fun e w' => e = .returned (.int .i64 (-1)) ∧ Below w.heap.size w w' := by
  obtain ⟨I0, I1, I2, I3, I4⟩ := I
  have HM : Hid (o.ta.length ≤ maxLen) := Hl.ta
  have HB : Hid (Tn.bulk o.ln ≤ 1048576) := by show _ ≤ _; omega
  have hd0 : decide (1048576 - (Tn.bulk o.ln : Int) < 0) = false := decide_eq_false (by omega)
  have N := new_below w (ofB x o 28)
  have m := heap_new w (ofB x o 28)
  clear Hl
  go_enter Tryz.func4, Tryz.ntmps4
  go_wp2_with fail
  refine (Tn.szTrainS_yes x.a0 o.ln x.c0 _ HB.out (I0.on N)).mono ?_
  rintro e v0 ⟨rfl, L0⟩
  have m0 := kept L0 (lt_of m) m
  have K0 := join_below N L0
  have c1 : v0.cell? ⟨w.heap.size, 1, none⟩ = some (.slice x.a1 o.ta.length x.c1) := cell_at m0 1
  have c2 : v0.cell? ⟨w.heap.size, 2, none⟩ = some (.slice x.a2 o.ho.length x.c2) := cell_at m0 2
  have c3 : v0.cell? ⟨w.heap.size, 3, none⟩ = some (.slice x.a3 o.od.length x.c3) := cell_at m0 3
  go_wp2_with fail
  refine (Tf.szEdgeS_no x.a1 o.ta.length x.c1 _ _ (by omega) (by omega) HM.out (by omega)).mono ?_
  rintro e v1 ⟨rfl, rfl⟩
  have KE := K0
  go_wp2
  go_ret
  exact ⟨rfl, KE⟩

set_option maxHeartbeats 2000000 in
theorem szOffice_no2 (x : Pl) (o : Offc) (w : World) (I : InA w x o) (Hl : Lim o) (hy : 0 ≤ 1048576 - (Tn.bulk o.ln : Int) - (o.ta.length : Int)) (h : ¬ 0 ≤ 1048576 - (Tn.bulk o.ln : Int) - (o.ta.length : Int) - (o.ho.length : Int)) :
    Calls Tryz.prog 4 #[ofV x o, .int .i64 1048576] w fun e w' => e = .returned (.int .i64 (-1)) ∧ Below w.heap.size w w' := by
  obtain ⟨I0, I1, I2, I3, I4⟩ := I
  have HM : Hid (o.ho.length ≤ maxLen) := Hl.ho
  have HB : Hid (Tn.bulk o.ln ≤ 1048576) := by show _ ≤ _; omega
  have hd0 : decide (1048576 - (Tn.bulk o.ln : Int) < 0) = false := decide_eq_false (by omega)
  have hd1 : decide (1048576 - (Tn.bulk o.ln : Int) - (o.ta.length : Int) < 0) = false := decide_eq_false (by omega)
  have N := new_below w (ofB x o 28)
  have m := heap_new w (ofB x o 28)
  clear Hl
  go_enter Tryz.func4, Tryz.ntmps4
  go_wp2_with fail
  refine (Tn.szTrainS_yes x.a0 o.ln x.c0 _ HB.out (I0.on N)).mono ?_
  rintro e v0 ⟨rfl, L0⟩
  have m0 := kept L0 (lt_of m) m
  have K0 := join_below N L0
  have c1 : v0.cell? ⟨w.heap.size, 1, none⟩ = some (.slice x.a1 o.ta.length x.c1) := cell_at m0 1
  have c2 : v0.cell? ⟨w.heap.size, 2, none⟩ = some (.slice x.a2 o.ho.length x.c2) := cell_at m0 2
  have c3 : v0.cell? ⟨w.heap.size, 3, none⟩ = some (.slice x.a3 o.od.length x.c3) := cell_at m0 3
  go_wp2_with fail
  refine (Tf.szEdgeS_yes x.a1 o.ta.length x.c1 _ _ (by omega) (by omega)).mono ?_
  rintro e v1 ⟨rfl, rfl⟩
  go_wp2_with fail
  refine (Se.szHoldS_no x.a2 o.ho.length x.c2 _ _ (by omega) (by omega) HM.out (by omega)).mono ?_
  rintro e v2 ⟨rfl, rfl⟩
  have KE := K0
  go_wp2
  go_ret
  exact ⟨rfl, KE⟩

set_option maxHeartbeats 2000000 in
theorem szOffice_no3 (x : Pl) (o : Offc) (w : World) (I : InA w x o) (Hl : Lim o) (hy : 0 ≤ 1048576 - (Tn.bulk o.ln : Int) - (o.ta.length : Int) - (o.ho.length : Int)) (h : ¬ 0 ≤ 1048576 - (Tn.bulk o.ln : Int) - (o.ta.length : Int) - (o.ho.length : Int) - (Od.bulk o.od : Int)) :
    Calls Tryz.prog 4 #[ofV x o, .int .i64 1048576] w fun e w' => e = .returned (.int .i64 (-1)) ∧ Below w.heap.size w w' := by
  obtain ⟨I0, I1, I2, I3, I4⟩ := I
  have HM : Hid (_ ∧ _) := ⟨Hl.od, Hl.os⟩
  have HB : Hid (Tn.bulk o.ln ≤ 1048576) := by show _ ≤ _; omega
  have hd0 : decide (1048576 - (Tn.bulk o.ln : Int) < 0) = false := decide_eq_false (by omega)
  have hd1 : decide (1048576 - (Tn.bulk o.ln : Int) - (o.ta.length : Int) < 0) = false := decide_eq_false (by omega)
  have hd2 : decide (1048576 - (Tn.bulk o.ln : Int) - (o.ta.length : Int) - (o.ho.length : Int) < 0) = false := decide_eq_false (by omega)
  have N := new_below w (ofB x o 28)
  have m := heap_new w (ofB x o 28)
  clear Hl
  go_enter Tryz.func4, Tryz.ntmps4
  go_wp2_with fail
  refine (Tn.szTrainS_yes x.a0 o.ln x.c0 _ HB.out (I0.on N)).mono ?_
  rintro e v0 ⟨rfl, L0⟩
  have m0 := kept L0 (lt_of m) m
  have K0 := join_below N L0
  have c1 : v0.cell? ⟨w.heap.size, 1, none⟩ = some (.slice x.a1 o.ta.length x.c1) := cell_at m0 1
  have c2 : v0.cell? ⟨w.heap.size, 2, none⟩ = some (.slice x.a2 o.ho.length x.c2) := cell_at m0 2
  have c3 : v0.cell? ⟨w.heap.size, 3, none⟩ = some (.slice x.a3 o.od.length x.c3) := cell_at m0 3
  go_wp2_with fail
  refine (Tf.szEdgeS_yes x.a1 o.ta.length x.c1 _ _ (by omega) (by omega)).mono ?_
  rintro e v1 ⟨rfl, rfl⟩
  go_wp2_with fail
  refine (Se.szHoldS_yes x.a2 o.ho.length x.c2 _ _ (by omega) (by omega)).mono ?_
  rintro e v2 ⟨rfl, rfl⟩
  go_wp2_with fail
  refine (Od.szOrderS_no x.a3 o.od x.c3 _ _ (by omega) (by omega) HM.out.1 HM.out.2 (by omega) (I3.on K0)).mono ?_
  rintro e v3 ⟨rfl, L3⟩
  have KE := join_below K0 L3
  go_wp2
  go_ret
  exact ⟨rfl, KE⟩

set_option maxHeartbeats 2000000 in
theorem szOffice_no4 (x : Pl) (o : Offc) (w : World) (I : InA w x o) (Hl : Lim o) (hy : 0 ≤ 1048576 - (Tn.bulk o.ln : Int) - (o.ta.length : Int) - (o.ho.length : Int) - (Od.bulk o.od : Int)) (h : ¬ 0 ≤ 1048576 - (Tn.bulk o.ln : Int) - (o.ta.length : Int) - (o.ho.length : Int) - (Od.bulk o.od : Int) - (o.to.length : Int)) :
    Calls Tryz.prog 4 #[ofV x o, .int .i64 1048576] w fun e w' => e = .returned (.int .i64 (-1)) ∧ Below w.heap.size w w' := by
  obtain ⟨I0, I1, I2, I3, I4⟩ := I
  have HM : Hid (o.to.length ≤ maxLen) := Hl.to
  have HB : Hid (Tn.bulk o.ln ≤ 1048576) := by show _ ≤ _; omega
  have hd0 : decide (1048576 - (Tn.bulk o.ln : Int) < 0) = false := decide_eq_false (by omega)
  have hd1 : decide (1048576 - (Tn.bulk o.ln : Int) - (o.ta.length : Int) < 0) = false := decide_eq_false (by omega)
  have hd2 : decide (1048576 - (Tn.bulk o.ln : Int) - (o.ta.length : Int) - (o.ho.length : Int) < 0) = false := decide_eq_false (by omega)
  have hd3 : decide (1048576 - (Tn.bulk o.ln : Int) - (o.ta.length : Int) - (o.ho.length : Int) - (Od.bulk o.od : Int) < 0) = false := decide_eq_false (by omega)
  have N := new_below w (ofB x o 28)
  have m := heap_new w (ofB x o 28)
  clear Hl
  go_enter Tryz.func4, Tryz.ntmps4
  go_wp2_with fail
  refine (Tn.szTrainS_yes x.a0 o.ln x.c0 _ HB.out (I0.on N)).mono ?_
  rintro e v0 ⟨rfl, L0⟩
  have m0 := kept L0 (lt_of m) m
  have K0 := join_below N L0
  have c1 : v0.cell? ⟨w.heap.size, 1, none⟩ = some (.slice x.a1 o.ta.length x.c1) := cell_at m0 1
  have c2 : v0.cell? ⟨w.heap.size, 2, none⟩ = some (.slice x.a2 o.ho.length x.c2) := cell_at m0 2
  have c3 : v0.cell? ⟨w.heap.size, 3, none⟩ = some (.slice x.a3 o.od.length x.c3) := cell_at m0 3
  go_wp2_with fail
  refine (Tf.szEdgeS_yes x.a1 o.ta.length x.c1 _ _ (by omega) (by omega)).mono ?_
  rintro e v1 ⟨rfl, rfl⟩
  go_wp2_with fail
  refine (Se.szHoldS_yes x.a2 o.ho.length x.c2 _ _ (by omega) (by omega)).mono ?_
  rintro e v2 ⟨rfl, rfl⟩
  go_wp2_with fail
  refine (Od.szOrderS_yes x.a3 o.od x.c3 _ _ (by omega) (by omega) (I3.on K0)).mono ?_
  rintro e v3 ⟨rfl, L3⟩
  have m3 := kept L3 (lt_of m0) m0
  have K3 := join_below K0 L3
  have c4 : v3.cell? ⟨w.heap.size, 4, none⟩ = some (.slice x.a4 o.to.length x.c4) := cell_at m3 4
  go_wp2_with fail
  refine (Rp.szReplyS_no x.a4 o.to.length x.c4 _ _ (by omega) (by omega) HM.out (by omega)).mono ?_
  rintro e v4 ⟨rfl, rfl⟩
  have KE := K3
  go_wp2
  go_ret
  exact ⟨rfl, KE⟩

theorem szOffice_no (x : Pl) (o : Offc) (w : World) (I : InA w x o) (Hl : Lim o) (h : ¬ 0 ≤ 1048576 - (Tn.bulk o.ln : Int) - (o.ta.length : Int) - (o.ho.length : Int) - (Od.bulk o.od : Int) - (o.to.length : Int)) :
    Calls Tryz.prog 4 #[ofV x o, .int .i64 1048576] w fun e w' => e = .returned (.int .i64 (-1)) ∧ Below w.heap.size w w' := by
  by_cases h0 : Tn.bulk o.ln ≤ 1048576
  · by_cases h1 : 0 ≤ 1048576 - (Tn.bulk o.ln : Int) - (o.ta.length : Int)
    · by_cases h2 : 0 ≤ 1048576 - (Tn.bulk o.ln : Int) - (o.ta.length : Int) - (o.ho.length : Int)
      · by_cases h3 : 0 ≤ 1048576 - (Tn.bulk o.ln : Int) - (o.ta.length : Int) - (o.ho.length : Int) - (Od.bulk o.od : Int)
        · exact szOffice_no4 x o w I Hl h3 h
        · exact szOffice_no3 x o w I Hl h2 h3
      · exact szOffice_no2 x o w I Hl h1 h2
    · exact szOffice_no1 x o w I Hl (by omega) h1
  · exact szOffice_no0 x o w I Hl h0

/-- None of its lists is too great for the law. -/
def Small (o : Offc) : Prop := Tn.bulk o.ln ≤ 1048576 ∧ o.ta.length ≤ 1048576 ∧ o.ho.length ≤ 1048576 ∧ Od.bulk o.od ≤ 1048576 ∧ o.to.length ≤ 1048576

theorem small_of {o : Offc} (h : 0 ≤ 1048576 - (Tn.bulk o.ln : Int) - (o.ta.length : Int) - (o.ho.length : Int) - (Od.bulk o.od : Int) - (o.to.length : Int)) : Small o := by
  unfold Small
  omega

set_option maxHeartbeats 2000000 in
theorem eqOffice_same (x y : Pl) (o : Offc) (w : World) (hz : Small o) (I : In w x o) (J : In w y o) :
    Calls Tryz.prog 9 #[ofV x o, ofV y o] w fun e w' => e = .returned (.bool true) ∧ Below w.heap.size w w' := by
  have HZ : Hid (_ ∧ _ ∧ _ ∧ _ ∧ _) := hz
  have N := join_below (new_below w (ofB x o 36)) (new_below _ (ofB y o 36))
  have m := heap_old (heap_new w (ofB x o 36)) (ofB y o 36)
  have n := heap_new (w.alloc (ofB x o 36)) (ofB y o 36)
  have e1 : (w.alloc (ofB x o 36)).heap.size = w.heap.size + 1 := Array.size_push ..
  rw [e1] at n
  clear hz e1
  go_enter Tryz.func9, Tryz.ntmps9
  go_wp2_with fail
  refine Od.named fun W hW => ?_
  rw [← hW] at N m n
  clear hW
  refine (Tn.eqTrainS_same x.a0 y.a0 o.ln x.c0 y.c0 _ HZ.out.1 (I.ln.on N) (J.ln.on N)).mono ?_
  rintro e v0 ⟨rfl, L0⟩
  have m0 := kept L0 (lt_of m) m
  have n0 := kept L0 (lt_of n) n
  have N0 := join_below N L0
  clear m n N L0
  have c1 : v0.cell? ⟨w.heap.size, 1, none⟩ = some (.slice x.a1 o.ta.length x.c1) := cell_at m0 1
  have d1 : v0.cell? ⟨w.heap.size + 1, 1, none⟩ = some (.slice y.a1 o.ta.length y.c1) := cell_at n0 1
  go_wp2_with fail
  refine (Tf.eqEdgeS_same x.a1 y.a1 o.ta x.c1 y.c1 _ HZ.out.2.1 (I.ta.on N0) (J.ta.on N0)).mono ?_
  rintro e v1 ⟨rfl, L1⟩
  have m1 := kept L1 (lt_of m0) m0
  have n1 := kept L1 (lt_of n0) n0
  have N1 := join_below N0 L1
  clear m0 n0 N0 L1 c1 d1
  have c2 : v1.cell? ⟨w.heap.size, 2, none⟩ = some (.slice x.a2 o.ho.length x.c2) := cell_at m1 2
  have d2 : v1.cell? ⟨w.heap.size + 1, 2, none⟩ = some (.slice y.a2 o.ho.length y.c2) := cell_at n1 2
  go_wp2_with fail
  refine (Se.eqHoldS_same x.a2 y.a2 o.ho x.c2 y.c2 _ HZ.out.2.2.1 (I.ho.on N1) (J.ho.on N1)).mono ?_
  rintro e v2 ⟨rfl, L2⟩
  have m2 := kept L2 (lt_of m1) m1
  have n2 := kept L2 (lt_of n1) n1
  have N2 := join_below N1 L2
  clear m1 n1 N1 L2 c2 d2
  have c3 : v2.cell? ⟨w.heap.size, 3, none⟩ = some (.slice x.a3 o.od.length x.c3) := cell_at m2 3
  have d3 : v2.cell? ⟨w.heap.size + 1, 3, none⟩ = some (.slice y.a3 o.od.length y.c3) := cell_at n2 3
  go_wp2_with fail
  refine (Od.eqOrderS_same x.a3 y.a3 o.od x.c3 y.c3 _ HZ.out.2.2.2.1 (I.od.on N2) (J.od.on N2)).mono ?_
  rintro e v3 ⟨rfl, L3⟩
  have m3 := kept L3 (lt_of m2) m2
  have n3 := kept L3 (lt_of n2) n2
  have N3 := join_below N2 L3
  clear m2 n2 N2 L3 c3 d3
  have c4 : v3.cell? ⟨w.heap.size, 4, none⟩ = some (.slice x.a4 o.to.length x.c4) := cell_at m3 4
  have d4 : v3.cell? ⟨w.heap.size + 1, 4, none⟩ = some (.slice y.a4 o.to.length y.c4) := cell_at n3 4
  go_wp2_with fail
  refine (Rp.eqReplyS_same x.a4 y.a4 o.to x.c4 y.c4 _ HZ.out.2.2.2.2 (I.to.on N3) (J.to.on N3)).mono ?_
  rintro e v4 ⟨rfl, L4⟩
  have m4 := kept L4 (lt_of m3) m3
  have n4 := kept L4 (lt_of n3) n3
  have N4 := join_below N3 L4
  clear m3 n3 N3 L4 c4 d4
  have c5 : v4.cell? ⟨w.heap.size, 5, none⟩ = some (.int .i64 o.td) := cell_at m4 5
  have d5 : v4.cell? ⟨w.heap.size + 1, 5, none⟩ = some (.int .i64 o.td) := cell_at n4 5
  go_wp2
  go_ret
  exact ⟨rfl, N4⟩

set_option maxRecDepth 100000 in
theorem of_open {H : Type} {enc : TypeId × Value → H} {W : World} {base b0 : Nat} {r : Reach} {spare : Nat → Bool} {held : Bool} {v : Value} {d : DataW H} {p : List MemPlace}
    (hv : Value.okWide Tryz.prog W r b0 28 v) (h : DataW.Trod enc Tryz.prog W base spare held 28 v d p) :
    ∃ (x : Pl) (o : Offc), v = ofV x o ∧ InA W x o ∧ Lim o := by
  obtain ⟨cs, rfl, hsz⟩ := okWide_struct Tryz.underlying28 hv
  obtain ⟨fuel, hf⟩ := h
  obtain ⟨xs, n, -, -, hl, hxl, hf⟩ := DataW.trod_struct Tryz.underlying28 hf
  obtain ⟨cs⟩ := cs
  have hl6 : cs.length = 6 := by simpa [Value.cells] using hl.trans (by kernel_rfl : _ = 6)
  have c1 : Tryz.prog.cellsOf 3 = 1 := by kernel_rfl
  have t0 : Tryz.prog.cellsOf 22 = 1 := by kernel_rfl
  have t1 : Tryz.prog.cellsOf 23 = 1 := by kernel_rfl
  have t2 : Tryz.prog.cellsOf 24 = 1 := by kernel_rfl
  have t3 : Tryz.prog.cellsOf 25 = 1 := by kernel_rfl
  have t4 : Tryz.prog.cellsOf 26 = 1 := by kernel_rfl
  match xs, hxl, cs, hl6 with
  | [y0, y1, y2, y3, y4, y5], _, [v0, v1, v2, v3, v4, v5], _ =>
    have h0 := hf 0 _ rfl
    have h1 := hf 1 _ rfl
    have h2 := hf 2 _ rfl
    have h3 := hf 3 _ rfl
    have h4 := hf 4 _ rfl
    have h5 := hf 5 _ rfl
    simp [Value.cells, c1, t0, t1, t2, t3, t4] at h0 h1 h2 h3 h4 h5
    obtain ⟨a0, k0, z0, e0, q0⟩ := Tn.trains_open h0
    obtain ⟨a1, k1, z1, e1, q1⟩ := Tf.edges_open h1
    obtain ⟨a2, k2, z2, e2, q2⟩ := Se.holds_open h2
    obtain ⟨a3, k3, z3, e3, q3⟩ := Od.orders_open h3
    obtain ⟨a4, k4, z4, e4, q4⟩ := Rp.replies_open h4
    obtain ⟨a5, e5, -, w5⟩ := DataW.trod_int Tryz.underlying3 h5
    simp at e0 e1 e2 e3 e4 e5
    refine ⟨⟨a0, a1, a2, a3, a4, k0, k1, k2, k3, k4⟩, ⟨z0, z1, z2, z3, z4, a5⟩, ?_, ⟨q0.2.2, q1.2, q2.2.1, q3.2.1, q4.2.1⟩, ⟨q0.1, q0.2.1, q1.1, q2.1, q2.2.2, q3.1, ?_, q3.2.2, q4.1, q4.2.2, w5⟩⟩
    · rw [e0, e1, e2, e3, e4, e5]
    · intro i hi
      have := q3.2.2 _ (List.getElem_mem hi)
      exact ⟨this.nm, this.le⟩

end Of
end Go.Proofs.YtehmlnojjfeheaaGreat

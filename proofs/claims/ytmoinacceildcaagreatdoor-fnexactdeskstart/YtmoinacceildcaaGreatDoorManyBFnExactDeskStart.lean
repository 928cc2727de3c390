/- Texts laid into one, in their order: DkAny, DkEq, DkMark. -/
import Derived.Test.YtmoinacceildcaaGreatDoorManyAFnExactDeskStart
import Derived.Test.YtmoinacceildcaaGreatDoorOfOff
import Derived.Test.YtmoinacceildcaaGreatDoorDkPlat
/- DeskStart of the program and of its model, whatever the day. -/
namespace Go.Proofs.YtmoinacceildcaaGreatDoor
namespace Dk
open Go.ChangeShapes Go.WideShapes Go.ChangeAt Go.RowKit
open Pk (new_below join_below cell_at heap_new frozen_at lt_of kept heap_old info_of Room own_form)
open Of (Kp put6 put6_below St Et Lw opened_val closed_val copyS_val nil_row edges_cells snap snap_len snap_get snap_one snap_at own_g et_mk h_set h_other Offc Pl ofV In)
open Tn (Tr Trains)
open Tf (Ed Edges)
set_option linter.unusedSimpArgs false
set_option linter.unusedVariables false

open Of (Kh Lm offB Lim Small startB)

def oT (td : Int) : List Tr := if startB dT dE td = true then dT else []
def oE (td : Int) : List Ed := if startB dT dE td = true then dE else []
def oD (td : Int) : Int := if startB dT dE td = true then td else 0
def oH (td : Int) : Hn.Hnd := if startB dT dE td = true then dH else Hn.zeroO

theorem dH_nil : dH.ol.length = 0 ∧ dH.sl.length = 0 := by
  have h := Hn.start_ol (Hn.startB 1 240169 10007 205555 (Num.keyI 240169 10007 205555 7) 80) 1 240169 10007 205555 (Num.keyI 240169 10007 205555 7) 80
  unfold dH
  rw [h.1, h.2]
  exact ⟨rfl, rfl⟩

theorem o_bd (td : Int) : (oT td).length ≤ 40 ∧ (∀ i (h : i < (oT td).length), (oT td)[i].l.length ≤ 20) ∧ (oE td).length ≤ 1048576 ∧ Small ⟨oT td, oE td, [], [], [], oD td⟩ ∧ (oH td).ol = [] ∧ (oH td).sl = [] := by
  unfold oT oE oD oH
  by_cases h : startB dT dE td = true
  · rw [if_pos h, if_pos h, if_pos h, if_pos h]
    refine ⟨by decide, fun i hi => ?_, by decide, ⟨show Tn.bulk dT ≤ 1048576 by decide, show dE.length ≤ 1048576 by decide, show 0 ≤ 1048576 by decide, show Od.bulk [] ≤ 1048576 by decide, show 0 ≤ 1048576 by decide⟩, List.length_eq_zero_iff.1 dH_nil.1, List.length_eq_zero_iff.1 dH_nil.2⟩
    match i, hi with
    | 0, _ => show 3 ≤ 20; omega
    | 1, _ => show 2 ≤ 20; omega
  · rw [if_neg h, if_neg h, if_neg h, if_neg h]
    exact ⟨by simp, fun i hi => by simp at hi, by simp, ⟨show Tn.bulk [] ≤ 1048576 by decide, show 0 ≤ 1048576 by decide, show 0 ≤ 1048576 by decide, show Od.bulk [] ≤ 1048576 by decide, show 0 ≤ 1048576 by decide⟩, rfl, rfl⟩

theorem implDesk_val (td : Int) (wtd : (Lit.int .i64 td).wf = true) (w : World) (E1 : Errs.ErrAt 0 w) (E2 : Errs.ErrAt 1 w) :
    Calls Tryz.prog 5 #[.int .i64 td] w fun e w' => ∃ a2 c2 a3 c3 b2 d2 b3 d3 mid hi, e = .returned (.tuple #[.agg #[.slice a2 (oT td).length c2, .slice a3 (oE td).length c3, .slice none 0 0, .slice none 0 0, .slice none 0 0, .int .i64 (oD td), .slice b2 (oT td).length d2, .slice b3 (oE td).length d3, .slice none 0 0, .slice none 0 0, .slice none 0 0, .int .i64 (oD td), .string ⟨#[]⟩, .int .i64 0, .int .i64 (oH td).dv, .int .i64 (oH td).p, .int .i64 (oH td).q, .int .i64 (oH td).g, .int .i64 (oH td).op, .int .i64 (oH td).is, .int .i64 (oH td).ve, .slice none 0 0, .slice none 0 0, .int .i64 0, .slice none 0 0, .slice none 0 0], .bool (startB dT dE td)]) ∧ Sp w' w.heap.size mid a2 a3 (oT td) (oE td) ∧ Sp w' mid hi b2 b3 (oT td) (oE td) ∧ Below w.heap.size w w' := by
  cases h : startB dT dE td
  · refine (implDesk_no td wtd w h).mono ?_
    rintro e w' ⟨rfl, L⟩
    unfold oT oE oD oH
    rw [h]
    exact ⟨none, 0, none, 0, none, 0, none, 0, w.heap.size, w.heap.size, rfl, ⟨w.heap.size, fun _ => 0, fun _ => 0, Nat.le_refl _, Nat.le_refl _, L.size, Or.inl rfl, Or.inl rfl, fun g hg => by cases hg⟩, ⟨w.heap.size, fun _ => 0, fun _ => 0, Nat.le_refl _, Nat.le_refl _, L.size, Or.inl rfl, Or.inl rfl, fun g hg => by cases hg⟩, L⟩
  · refine (implDesk_yes td wtd w E1 E2 h).mono ?_
    rintro e w' ⟨a2, c2, a3, c3, b2, d2, b3, d3, mid, rfl, S1, ⟨hi, S2⟩, L⟩
    unfold oT oE oD oH
    rw [h, if_pos rfl, if_pos rfl, if_pos rfl, if_pos rfl]
    exact ⟨a2, c2, a3, c3, b2, d2, b3, d3, mid, hi, by rw [dH_nil.1, dH_nil.2], S1, S2, L⟩

theorem specDesk_val (td : Int) (wtd : (Lit.int .i64 td).wf = true) (w : World) :
    Calls Tryz.prog 4 #[.int .i64 td] w fun e w' => ∃ x y : Pl, e = .returned (.tuple #[.agg #[.slice x.a0 (oT td).length x.c0, .slice x.a1 (oE td).length x.c1, .slice x.a2 0 x.c2, .slice x.a3 0 x.c3, .slice x.a4 0 x.c4, .int .i64 (oD td), .slice y.a0 (oT td).length y.c0, .slice y.a1 (oE td).length y.c1, .slice y.a2 0 y.c2, .slice y.a3 0 y.c3, .slice y.a4 0 y.c4, .int .i64 (oD td), .string ⟨#[]⟩, .int .i64 0, .int .i64 (oH td).dv, .int .i64 (oH td).p, .int .i64 (oH td).q, .int .i64 (oH td).g, .int .i64 (oH td).op, .int .i64 (oH td).is, .int .i64 (oH td).ve, .slice none 0 0, .slice none 0 0, .int .i64 0, .slice none 0 0, .slice none 0 0], .bool (startB dT dE td)]) ∧ InK w.heap.size w' x ⟨oT td, oE td, [], [], [], oD td⟩ ∧ InK w.heap.size w' y ⟨oT td, oE td, [], [], [], oD td⟩ ∧ Below w.heap.size w w' := by
  cases h : startB dT dE td
  · refine (specDesk_no td wtd w h).mono ?_
    rintro e w' ⟨rfl, L⟩
    unfold oT oE oD oH
    rw [h]
    exact ⟨⟨none, none, none, none, none, 0, 0, 0, 0, 0⟩, ⟨none, none, none, none, none, 0, 0, 0, 0, 0⟩, rfl, fun W k => ⟨Or.inl rfl, Or.inl rfl, Or.inl rfl, Or.inl rfl, Or.inl rfl⟩, fun W k => ⟨Or.inl rfl, Or.inl rfl, Or.inl rfl, Or.inl rfl, Or.inl rfl⟩, L⟩
  · refine (specDesk_yes td wtd w h).mono ?_
    rintro e w' ⟨x, y, rfl, S1, S2, L⟩
    unfold oT oE oD oH
    rw [h, if_pos rfl, if_pos rfl, if_pos rfl, if_pos rfl]
    exact ⟨x, y, by rw [dH_nil.1, dH_nil.2], S1, S2, L⟩

end Dk
end Go.Proofs.YtmoinacceildcaaGreatDoor

/- Two booths that begin alike are told alike. -/
namespace Go.Proofs.YtmoinacceildcaaGreatDoor
namespace Dk
open Go.ChangeShapes Go.WideShapes Go.ChangeAt Go.RowKit
open Pk (new_below join_below cell_at heap_new frozen_at lt_of kept heap_old info_of Room own_form)
open Of (Offc Pl ofV In Small)
open Tn (Tr Trains)
open Tf (Ed Edges)
set_option linter.unusedSimpArgs false
set_option linter.unusedVariables false

theorem two_blocks2 (w : World) (a b : Obj) : ((w.alloc a).alloc b).heap[w.heap.size]? = some a ∧ ((w.alloc a).alloc b).heap[w.heap.size + 1]? = some b := by
  have e1 : (w.alloc a).heap.size = w.heap.size + 1 := Array.size_push ..
  refine ⟨heap_old (heap_new w a) b, ?_⟩
  rw [← e1]
  exact heap_new (w.alloc a) b

set_option maxRecDepth 100000 in
set_option maxHeartbeats 4000000 in
theorem eqCentre_zero (w : World) :
    Calls Tryz.prog 23 #[.agg #[.int .i64 0, .slice none 0 0, .slice none 0 0], .agg #[.int .i64 0, .slice none 0 0, .slice none 0 0]] w fun e w' => e = .returned (.bool true) ∧ Below w.heap.size w w' := by
  have N := join_below (new_below w (.cells #[.int .i64 0, .slice none 0 0, .slice none 0 0] 38)) (new_below _ (.cells #[.int .i64 0, .slice none 0 0, .slice none 0 0] 38))
  obtain ⟨k0, k1⟩ := two_blocks2 w (.cells #[.int .i64 0, .slice none 0 0, .slice none 0 0] 38) (.cells #[.int .i64 0, .slice none 0 0, .slice none 0 0] 38)
  have HI : Hid (∀ W : World, _) := fun W => Hn.eqIntS_same none none [] 0 0 W (by simp) (Or.inl rfl) (Or.inl rfl)
  have HC : Hid (∀ W : World, _) := fun W => Hn.eqControlS_same none none [] 0 0 W (by simp) (Or.inl rfl) (Or.inl rfl)
  simp only [List.length_nil] at HI HC
  go_enter Tryz.func23, Tryz.ntmps23
  have c1 : ((w.alloc (.cells #[.int .i64 0, .slice none 0 0, .slice none 0 0] 38)).alloc (.cells #[.int .i64 0, .slice none 0 0, .slice none 0 0] 38)).cell? ⟨w.heap.size, 0, none⟩ = some (.int .i64 0) := cell_at k0 0
  have c2 : ((w.alloc (.cells #[.int .i64 0, .slice none 0 0, .slice none 0 0] 38)).alloc (.cells #[.int .i64 0, .slice none 0 0, .slice none 0 0] 38)).cell? ⟨w.heap.size + 1, 0, none⟩ = some (.int .i64 0) := cell_at k1 0
  have c3 : ((w.alloc (.cells #[.int .i64 0, .slice none 0 0, .slice none 0 0] 38)).alloc (.cells #[.int .i64 0, .slice none 0 0, .slice none 0 0] 38)).cell? ⟨w.heap.size, 1, none⟩ = some (.slice none 0 0) := cell_at k0 1
  have c4 : ((w.alloc (.cells #[.int .i64 0, .slice none 0 0, .slice none 0 0] 38)).alloc (.cells #[.int .i64 0, .slice none 0 0, .slice none 0 0] 38)).cell? ⟨w.heap.size + 1, 1, none⟩ = some (.slice none 0 0) := cell_at k1 1
  go_wp2_with fail
  refine (HI.out _).mono ?_
  clear c1 c2 c3 c4
  generalize ((w.alloc (.cells #[.int .i64 0, .slice none 0 0, .slice none 0 0] 38)).alloc (.cells #[.int .i64 0, .slice none 0 0, .slice none 0 0] 38)) = v0 at *
  rintro e v1 ⟨rfl, D1⟩
  have Lv1 := D1.below v0.heap.size
  clear D1
  have m5 := Pk.kept Lv1 (Pk.lt_of k0) k0
  clear k0
  have m6 := Pk.kept Lv1 (Pk.lt_of k1) k1
  clear k1
  have L7 := Pk.join_below N Lv1
  clear N
  have hs8 : v0.heap.size ≤ v1.heap.size := Lv1.size
  have c9 : v1.cell? ⟨w.heap.size, 2, none⟩ = some (.slice none 0 0) := cell_at m5 2
  have c10 : v1.cell? ⟨w.heap.size + 1, 2, none⟩ = some (.slice none 0 0) := cell_at m6 2
  go_wp2_with fail
  refine (HC.out _).mono ?_
  clear c9 c10
  rintro e v2 ⟨rfl, Lv2⟩
  have m11 := Pk.kept Lv2 (Pk.lt_of m5) m5
  clear m5
  have m12 := Pk.kept Lv2 (Pk.lt_of m6) m6
  clear m6
  have L13 := Pk.join_below L7 Lv2
  clear L7
  have hs14 : v1.heap.size ≤ v2.heap.size := Lv2.size
  go_wp2
  go_ret
  exact ⟨rfl, L13⟩

set_option maxRecDepth 100000 in
set_option maxHeartbeats 4000000 in
theorem eqPlat_same (x y x' y' : Pl) (o : Offc) (w : World) (hz : Small o) (I : In w x o) (J : In w y o) (I' : In w x' o) (J' : In w y' o) :
    Calls Tryz.prog 21 #[.agg #[.slice x.a0 o.ln.length x.c0, .slice x.a1 o.ta.length x.c1, .slice x.a2 o.ho.length x.c2, .slice x.a3 o.od.length x.c3, .slice x.a4 o.to.length x.c4, .int .i64 o.td, .slice y.a0 o.ln.length y.c0, .slice y.a1 o.ta.length y.c1, .slice y.a2 o.ho.length y.c2, .slice y.a3 o.od.length y.c3, .slice y.a4 o.to.length y.c4, .int .i64 o.td, .string ⟨#[]⟩, .int .i64 0], .agg #[.slice x'.a0 o.ln.length x'.c0, .slice x'.a1 o.ta.length x'.c1, .slice x'.a2 o.ho.length x'.c2, .slice x'.a3 o.od.length x'.c3, .slice x'.a4 o.to.length x'.c4, .int .i64 o.td, .slice y'.a0 o.ln.length y'.c0, .slice y'.a1 o.ta.length y'.c1, .slice y'.a2 o.ho.length y'.c2, .slice y'.a3 o.od.length y'.c3, .slice y'.a4 o.to.length y'.c4, .int .i64 o.td, .string ⟨#[]⟩, .int .i64 0]] w fun e w' => e = .returned (.bool true) ∧ Below w.heap.size w w' := by
  have N := join_below (new_below w (.cells #[.slice x.a0 o.ln.length x.c0, .slice x.a1 o.ta.length x.c1, .slice x.a2 o.ho.length x.c2, .slice x.a3 o.od.length x.c3, .slice x.a4 o.to.length x.c4, .int .i64 o.td, .slice y.a0 o.ln.length y.c0, .slice y.a1 o.ta.length y.c1, .slice y.a2 o.ho.length y.c2, .slice y.a3 o.od.length y.c3, .slice y.a4 o.to.length y.c4, .int .i64 o.td, .string ⟨#[]⟩, .int .i64 0] 30)) (new_below _ (.cells #[.slice x'.a0 o.ln.length x'.c0, .slice x'.a1 o.ta.length x'.c1, .slice x'.a2 o.ho.length x'.c2, .slice x'.a3 o.od.length x'.c3, .slice x'.a4 o.to.length x'.c4, .int .i64 o.td, .slice y'.a0 o.ln.length y'.c0, .slice y'.a1 o.ta.length y'.c1, .slice y'.a2 o.ho.length y'.c2, .slice y'.a3 o.od.length y'.c3, .slice y'.a4 o.to.length y'.c4, .int .i64 o.td, .string ⟨#[]⟩, .int .i64 0] 30))
  obtain ⟨k0, k1⟩ := two_blocks2 w (.cells #[.slice x.a0 o.ln.length x.c0, .slice x.a1 o.ta.length x.c1, .slice x.a2 o.ho.length x.c2, .slice x.a3 o.od.length x.c3, .slice x.a4 o.to.length x.c4, .int .i64 o.td, .slice y.a0 o.ln.length y.c0, .slice y.a1 o.ta.length y.c1, .slice y.a2 o.ho.length y.c2, .slice y.a3 o.od.length y.c3, .slice y.a4 o.to.length y.c4, .int .i64 o.td, .string ⟨#[]⟩, .int .i64 0] 30) (.cells #[.slice x'.a0 o.ln.length x'.c0, .slice x'.a1 o.ta.length x'.c1, .slice x'.a2 o.ho.length x'.c2, .slice x'.a3 o.od.length x'.c3, .slice x'.a4 o.to.length x'.c4, .int .i64 o.td, .slice y'.a0 o.ln.length y'.c0, .slice y'.a1 o.ta.length y'.c1, .slice y'.a2 o.ho.length y'.c2, .slice y'.a3 o.od.length y'.c3, .slice y'.a4 o.to.length y'.c4, .int .i64 o.td, .string ⟨#[]⟩, .int .i64 0] 30)
  have HI : Hid (∀ W : World, Below w.heap.size w W → _) := fun W (L : Below w.heap.size w W) => Of.eqOffice_same x x' o W hz (I.on L) (I'.on L)
  have HJ : Hid (∀ W : World, Below w.heap.size w W → _) := fun W (L : Below w.heap.size w W) => Of.eqOffice_same y y' o W hz (J.on L) (J'.on L)
  clear I J I' J' hz
  go_enter Tryz.func21, Tryz.ntmps21
  have c1 : ((w.alloc (.cells #[.slice x.a0 o.ln.length x.c0, .slice x.a1 o.ta.length x.c1, .slice x.a2 o.ho.length x.c2, .slice x.a3 o.od.length x.c3, .slice x.a4 o.to.length x.c4, .int .i64 o.td, .slice y.a0 o.ln.length y.c0, .slice y.a1 o.ta.length y.c1, .slice y.a2 o.ho.length y.c2, .slice y.a3 o.od.length y.c3, .slice y.a4 o.to.length y.c4, .int .i64 o.td, .string ⟨#[]⟩, .int .i64 0] 30)).alloc (.cells #[.slice x'.a0 o.ln.length x'.c0, .slice x'.a1 o.ta.length x'.c1, .slice x'.a2 o.ho.length x'.c2, .slice x'.a3 o.od.length x'.c3, .slice x'.a4 o.to.length x'.c4, .int .i64 o.td, .slice y'.a0 o.ln.length y'.c0, .slice y'.a1 o.ta.length y'.c1, .slice y'.a2 o.ho.length y'.c2, .slice y'.a3 o.od.length y'.c3, .slice y'.a4 o.to.length y'.c4, .int .i64 o.td, .string ⟨#[]⟩, .int .i64 0] 30)).cell? ⟨w.heap.size, 0, none⟩ = some (.slice x.a0 o.ln.length x.c0) := cell_at k0 0
  have c2 : ((w.alloc (.cells #[.slice x.a0 o.ln.length x.c0, .slice x.a1 o.ta.length x.c1, .slice x.a2 o.ho.length x.c2, .slice x.a3 o.od.length x.c3, .slice x.a4 o.to.length x.c4, .int .i64 o.td, .slice y.a0 o.ln.length y.c0, .slice y.a1 o.ta.length y.c1, .slice y.a2 o.ho.length y.c2, .slice y.a3 o.od.length y.c3, .slice y.a4 o.to.length y.c4, .int .i64 o.td, .string ⟨#[]⟩, .int .i64 0] 30)).alloc (.cells #[.slice x'.a0 o.ln.length x'.c0, .slice x'.a1 o.ta.length x'.c1, .slice x'.a2 o.ho.length x'.c2, .slice x'.a3 o.od.length x'.c3, .slice x'.a4 o.to.length x'.c4, .int .i64 o.td, .slice y'.a0 o.ln.length y'.c0, .slice y'.a1 o.ta.length y'.c1, .slice y'.a2 o.ho.length y'.c2, .slice y'.a3 o.od.length y'.c3, .slice y'.a4 o.to.length y'.c4, .int .i64 o.td, .string ⟨#[]⟩, .int .i64 0] 30)).cell? ⟨w.heap.size, 1, none⟩ = some (.slice x.a1 o.ta.length x.c1) := cell_at k0 1
  have c3 : ((w.alloc (.cells #[.slice x.a0 o.ln.length x.c0, .slice x.a1 o.ta.length x.c1, .slice x.a2 o.ho.length x.c2, .slice x.a3 o.od.length x.c3, .slice x.a4 o.to.length x.c4, .int .i64 o.td, .slice y.a0 o.ln.length y.c0, .slice y.a1 o.ta.length y.c1, .slice y.a2 o.ho.length y.c2, .slice y.a3 o.od.length y.c3, .slice y.a4 o.to.length y.c4, .int .i64 o.td, .string ⟨#[]⟩, .int .i64 0] 30)).alloc (.cells #[.slice x'.a0 o.ln.length x'.c0, .slice x'.a1 o.ta.length x'.c1, .slice x'.a2 o.ho.length x'.c2, .slice x'.a3 o.od.length x'.c3, .slice x'.a4 o.to.length x'.c4, .int .i64 o.td, .slice y'.a0 o.ln.length y'.c0, .slice y'.a1 o.ta.length y'.c1, .slice y'.a2 o.ho.length y'.c2, .slice y'.a3 o.od.length y'.c3, .slice y'.a4 o.to.length y'.c4, .int .i64 o.td, .string ⟨#[]⟩, .int .i64 0] 30)).cell? ⟨w.heap.size, 2, none⟩ = some (.slice x.a2 o.ho.length x.c2) := cell_at k0 2
  have c4 : ((w.alloc (.cells #[.slice x.a0 o.ln.length x.c0, .slice x.a1 o.ta.length x.c1, .slice x.a2 o.ho.length x.c2, .slice x.a3 o.od.length x.c3, .slice x.a4 o.to.length x.c4, .int .i64 o.td, .slice y.a0 o.ln.length y.c0, .slice y.a1 o.ta.length y.c1, .slice y.a2 o.ho.length y.c2, .slice y.a3 o.od.length y.c3, .slice y.a4 o.to.length y.c4, .int .i64 o.td, .string ⟨#[]⟩, .int .i64 0] 30)).alloc (.cells #[.slice x'.a0 o.ln.length x'.c0, .slice x'.a1 o.ta.length x'.c1, .slice x'.a2 o.ho.length x'.c2, .slice x'.a3 o.od.length x'.c3, .slice x'.a4 o.to.length x'.c4, .int .i64 o.td, .slice y'.a0 o.ln.length y'.c0, .slice y'.a1 o.ta.length y'.c1, .slice y'.a2 o.ho.length y'.c2, .slice y'.a3 o.od.length y'.c3, .slice y'.a4 o.to.length y'.c4, .int .i64 o.td, .string ⟨#[]⟩, .int .i64 0] 30)).cell? ⟨w.heap.size, 3, none⟩ = some (.slice x.a3 o.od.length x.c3) := cell_at k0 3
  have c5 : ((w.alloc (.cells #[.slice x.a0 o.ln.length x.c0, .slice x.a1 o.ta.length x.c1, .slice x.a2 o.ho.length x.c2, .slice x.a3 o.od.length x.c3, .slice x.a4 o.to.length x.c4, .int .i64 o.td, .slice y.a0 o.ln.length y.c0, .slice y.a1 o.ta.length y.c1, .slice y.a2 o.ho.length y.c2, .slice y.a3 o.od.length y.c3, .slice y.a4 o.to.length y.c4, .int .i64 o.td, .string ⟨#[]⟩, .int .i64 0] 30)).alloc (.cells #[.slice x'.a0 o.ln.length x'.c0, .slice x'.a1 o.ta.length x'.c1, .slice x'.a2 o.ho.length x'.c2, .slice x'.a3 o.od.length x'.c3, .slice x'.a4 o.to.length x'.c4, .int .i64 o.td, .slice y'.a0 o.ln.length y'.c0, .slice y'.a1 o.ta.length y'.c1, .slice y'.a2 o.ho.length y'.c2, .slice y'.a3 o.od.length y'.c3, .slice y'.a4 o.to.length y'.c4, .int .i64 o.td, .string ⟨#[]⟩, .int .i64 0] 30)).cell? ⟨w.heap.size, 4, none⟩ = some (.slice x.a4 o.to.length x.c4) := cell_at k0 4
  have c6 : ((w.alloc (.cells #[.slice x.a0 o.ln.length x.c0, .slice x.a1 o.ta.length x.c1, .slice x.a2 o.ho.length x.c2, .slice x.a3 o.od.length x.c3, .slice x.a4 o.to.length x.c4, .int .i64 o.td, .slice y.a0 o.ln.length y.c0, .slice y.a1 o.ta.length y.c1, .slice y.a2 o.ho.length y.c2, .slice y.a3 o.od.length y.c3, .slice y.a4 o.to.length y.c4, .int .i64 o.td, .string ⟨#[]⟩, .int .i64 0] 30)).alloc (.cells #[.slice x'.a0 o.ln.length x'.c0, .slice x'.a1 o.ta.length x'.c1, .slice x'.a2 o.ho.length x'.c2, .slice x'.a3 o.od.length x'.c3, .slice x'.a4 o.to.length x'.c4, .int .i64 o.td, .slice y'.a0 o.ln.length y'.c0, .slice y'.a1 o.ta.length y'.c1, .slice y'.a2 o.ho.length y'.c2, .slice y'.a3 o.od.length y'.c3, .slice y'.a4 o.to.length y'.c4, .int .i64 o.td, .string ⟨#[]⟩, .int .i64 0] 30)).cell? ⟨w.heap.size, 5, none⟩ = some (.int .i64 o.td) := cell_at k0 5
  have c7 : ((w.alloc (.cells #[.slice x.a0 o.ln.length x.c0, .slice x.a1 o.ta.length x.c1, .slice x.a2 o.ho.length x.c2, .slice x.a3 o.od.length x.c3, .slice x.a4 o.to.length x.c4, .int .i64 o.td, .slice y.a0 o.ln.length y.c0, .slice y.a1 o.ta.length y.c1, .slice y.a2 o.ho.length y.c2, .slice y.a3 o.od.length y.c3, .slice y.a4 o.to.length y.c4, .int .i64 o.td, .string ⟨#[]⟩, .int .i64 0] 30)).alloc (.cells #[.slice x'.a0 o.ln.length x'.c0, .slice x'.a1 o.ta.length x'.c1, .slice x'.a2 o.ho.length x'.c2, .slice x'.a3 o.od.length x'.c3, .slice x'.a4 o.to.length x'.c4, .int .i64 o.td, .slice y'.a0 o.ln.length y'.c0, .slice y'.a1 o.ta.length y'.c1, .slice y'.a2 o.ho.length y'.c2, .slice y'.a3 o.od.length y'.c3, .slice y'.a4 o.to.length y'.c4, .int .i64 o.td, .string ⟨#[]⟩, .int .i64 0] 30)).cell? ⟨w.heap.size + 1, 0, none⟩ = some (.slice x'.a0 o.ln.length x'.c0) := cell_at k1 0
  have c8 : ((w.alloc (.cells #[.slice x.a0 o.ln.length x.c0, .slice x.a1 o.ta.length x.c1, .slice x.a2 o.ho.length x.c2, .slice x.a3 o.od.length x.c3, .slice x.a4 o.to.length x.c4, .int .i64 o.td, .slice y.a0 o.ln.length y.c0, .slice y.a1 o.ta.length y.c1, .slice y.a2 o.ho.length y.c2, .slice y.a3 o.od.length y.c3, .slice y.a4 o.to.length y.c4, .int .i64 o.td, .string ⟨#[]⟩, .int .i64 0] 30)).alloc (.cells #[.slice x'.a0 o.ln.length x'.c0, .slice x'.a1 o.ta.length x'.c1, .slice x'.a2 o.ho.length x'.c2, .slice x'.a3 o.od.length x'.c3, .slice x'.a4 o.to.length x'.c4, .int .i64 o.td, .slice y'.a0 o.ln.length y'.c0, .slice y'.a1 o.ta.length y'.c1, .slice y'.a2 o.ho.length y'.c2, .slice y'.a3 o.od.length y'.c3, .slice y'.a4 o.to.length y'.c4, .int .i64 o.td, .string ⟨#[]⟩, .int .i64 0] 30)).cell? ⟨w.heap.size + 1, 1, none⟩ = some (.slice x'.a1 o.ta.length x'.c1) := cell_at k1 1
  have c9 : ((w.alloc (.cells #[.slice x.a0 o.ln.length x.c0, .slice x.a1 o.ta.length x.c1, .slice x.a2 o.ho.length x.c2, .slice x.a3 o.od.length x.c3, .slice x.a4 o.to.length x.c4, .int .i64 o.td, .slice y.a0 o.ln.length y.c0, .slice y.a1 o.ta.length y.c1, .slice y.a2 o.ho.length y.c2, .slice y.a3 o.od.length y.c3, .slice y.a4 o.to.length y.c4, .int .i64 o.td, .string ⟨#[]⟩, .int .i64 0] 30)).alloc (.cells #[.slice x'.a0 o.ln.length x'.c0, .slice x'.a1 o.ta.length x'.c1, .slice x'.a2 o.ho.length x'.c2, .slice x'.a3 o.od.length x'.c3, .slice x'.a4 o.to.length x'.c4, .int .i64 o.td, .slice y'.a0 o.ln.length y'.c0, .slice y'.a1 o.ta.length y'.c1, .slice y'.a2 o.ho.length y'.c2, .slice y'.a3 o.od.length y'.c3, .slice y'.a4 o.to.length y'.c4, .int .i64 o.td, .string ⟨#[]⟩, .int .i64 0] 30)).cell? ⟨w.heap.size + 1, 2, none⟩ = some (.slice x'.a2 o.ho.length x'.c2) := cell_at k1 2
  have c10 : ((w.alloc (.cells #[.slice x.a0 o.ln.length x.c0, .slice x.a1 o.ta.length x.c1, .slice x.a2 o.ho.length x.c2, .slice x.a3 o.od.length x.c3, .slice x.a4 o.to.length x.c4, .int .i64 o.td, .slice y.a0 o.ln.length y.c0, .slice y.a1 o.ta.length y.c1, .slice y.a2 o.ho.length y.c2, .slice y.a3 o.od.length y.c3, .slice y.a4 o.to.length y.c4, .int .i64 o.td, .string ⟨#[]⟩, .int .i64 0] 30)).alloc (.cells #[.slice x'.a0 o.ln.length x'.c0, .slice x'.a1 o.ta.length x'.c1, .slice x'.a2 o.ho.length x'.c2, .slice x'.a3 o.od.length x'.c3, .slice x'.a4 o.to.length x'.c4, .int .i64 o.td, .slice y'.a0 o.ln.length y'.c0, .slice y'.a1 o.ta.length y'.c1, .slice y'.a2 o.ho.length y'.c2, .slice y'.a3 o.od.length y'.c3, .slice y'.a4 o.to.length y'.c4, .int .i64 o.td, .string ⟨#[]⟩, .int .i64 0] 30)).cell? ⟨w.heap.size + 1, 3, none⟩ = some (.slice x'.a3 o.od.length x'.c3) := cell_at k1 3
  have c11 : ((w.alloc (.cells #[.slice x.a0 o.ln.length x.c0, .slice x.a1 o.ta.length x.c1, .slice x.a2 o.ho.length x.c2, .slice x.a3 o.od.length x.c3, .slice x.a4 o.to.length x.c4, .int .i64 o.td, .slice y.a0 o.ln.length y.c0, .slice y.a1 o.ta.length y.c1, .slice y.a2 o.ho.length y.c2, .slice y.a3 o.od.length y.c3, .slice y.a4 o.to.length y.c4, .int .i64 o.td, .string ⟨#[]⟩, .int .i64 0] 30)).alloc (.cells #[.slice x'.a0 o.ln.length x'.c0, .slice x'.a1 o.ta.length x'.c1, .slice x'.a2 o.ho.length x'.c2, .slice x'.a3 o.od.length x'.c3, .slice x'.a4 o.to.length x'.c4, .int .i64 o.td, .slice y'.a0 o.ln.length y'.c0, .slice y'.a1 o.ta.length y'.c1, .slice y'.a2 o.ho.length y'.c2, .slice y'.a3 o.od.length y'.c3, .slice y'.a4 o.to.length y'.c4, .int .i64 o.td, .string ⟨#[]⟩, .int .i64 0] 30)).cell? ⟨w.heap.size + 1, 4, none⟩ = some (.slice x'.a4 o.to.length x'.c4) := cell_at k1 4
  have c12 : ((w.alloc (.cells #[.slice x.a0 o.ln.length x.c0, .slice x.a1 o.ta.length x.c1, .slice x.a2 o.ho.length x.c2, .slice x.a3 o.od.length x.c3, .slice x.a4 o.to.length x.c4, .int .i64 o.td, .slice y.a0 o.ln.length y.c0, .slice y.a1 o.ta.length y.c1, .slice y.a2 o.ho.length y.c2, .slice y.a3 o.od.length y.c3, .slice y.a4 o.to.length y.c4, .int .i64 o.td, .string ⟨#[]⟩, .int .i64 0] 30)).alloc (.cells #[.slice x'.a0 o.ln.length x'.c0, .slice x'.a1 o.ta.length x'.c1, .slice x'.a2 o.ho.length x'.c2, .slice x'.a3 o.od.length x'.c3, .slice x'.a4 o.to.length x'.c4, .int .i64 o.td, .slice y'.a0 o.ln.length y'.c0, .slice y'.a1 o.ta.length y'.c1, .slice y'.a2 o.ho.length y'.c2, .slice y'.a3 o.od.length y'.c3, .slice y'.a4 o.to.length y'.c4, .int .i64 o.td, .string ⟨#[]⟩, .int .i64 0] 30)).cell? ⟨w.heap.size + 1, 5, none⟩ = some (.int .i64 o.td) := cell_at k1 5
  go_wp2_with fail
  refine (HI.out _ N).mono ?_
  clear c1 c2 c3 c4 c5 c6 c7 c8 c9 c10 c11 c12
  generalize ((w.alloc (.cells #[.slice x.a0 o.ln.length x.c0, .slice x.a1 o.ta.length x.c1, .slice x.a2 o.ho.length x.c2, .slice x.a3 o.od.length x.c3, .slice x.a4 o.to.length x.c4, .int .i64 o.td, .slice y.a0 o.ln.length y.c0, .slice y.a1 o.ta.length y.c1, .slice y.a2 o.ho.length y.c2, .slice y.a3 o.od.length y.c3, .slice y.a4 o.to.length y.c4, .int .i64 o.td, .string ⟨#[]⟩, .int .i64 0] 30)).alloc (.cells #[.slice x'.a0 o.ln.length x'.c0, .slice x'.a1 o.ta.length x'.c1, .slice x'.a2 o.ho.length x'.c2, .slice x'.a3 o.od.length x'.c3, .slice x'.a4 o.to.length x'.c4, .int .i64 o.td, .slice y'.a0 o.ln.length y'.c0, .slice y'.a1 o.ta.length y'.c1, .slice y'.a2 o.ho.length y'.c2, .slice y'.a3 o.od.length y'.c3, .slice y'.a4 o.to.length y'.c4, .int .i64 o.td, .string ⟨#[]⟩, .int .i64 0] 30)) = v0 at *
  rintro e v1 ⟨rfl, Lv1⟩
  have m13 := Pk.kept Lv1 (Pk.lt_of k0) k0
  clear k0
  have m14 := Pk.kept Lv1 (Pk.lt_of k1) k1
  clear k1
  have L15 := Pk.join_below N Lv1
  clear N
  have hs16 : v0.heap.size ≤ v1.heap.size := Lv1.size
  have c17 : v1.cell? ⟨w.heap.size, 6, none⟩ = some (.slice y.a0 o.ln.length y.c0) := cell_at m13 6
  have c18 : v1.cell? ⟨w.heap.size, 7, none⟩ = some (.slice y.a1 o.ta.length y.c1) := cell_at m13 7
  have c19 : v1.cell? ⟨w.heap.size, 8, none⟩ = some (.slice y.a2 o.ho.length y.c2) := cell_at m13 8
  have c20 : v1.cell? ⟨w.heap.size, 9, none⟩ = some (.slice y.a3 o.od.length y.c3) := cell_at m13 9
  have c21 : v1.cell? ⟨w.heap.size, 10, none⟩ = some (.slice y.a4 o.to.length y.c4) := cell_at m13 10
  have c22 : v1.cell? ⟨w.heap.size, 11, none⟩ = some (.int .i64 o.td) := cell_at m13 11
  have c23 : v1.cell? ⟨w.heap.size + 1, 6, none⟩ = some (.slice y'.a0 o.ln.length y'.c0) := cell_at m14 6
  have c24 : v1.cell? ⟨w.heap.size + 1, 7, none⟩ = some (.slice y'.a1 o.ta.length y'.c1) := cell_at m14 7
  have c25 : v1.cell? ⟨w.heap.size + 1, 8, none⟩ = some (.slice y'.a2 o.ho.length y'.c2) := cell_at m14 8
  have c26 : v1.cell? ⟨w.heap.size + 1, 9, none⟩ = some (.slice y'.a3 o.od.length y'.c3) := cell_at m14 9
  have c27 : v1.cell? ⟨w.heap.size + 1, 10, none⟩ = some (.slice y'.a4 o.to.length y'.c4) := cell_at m14 10
  have c28 : v1.cell? ⟨w.heap.size + 1, 11, none⟩ = some (.int .i64 o.td) := cell_at m14 11
  go_wp2_with fail
  refine (HJ.out _ L15).mono ?_
  clear c17 c18 c19 c20 c21 c22 c23 c24 c25 c26 c27 c28
  rintro e v2 ⟨rfl, Lv2⟩
  have m29 := Pk.kept Lv2 (Pk.lt_of m13) m13
  clear m13
  have m30 := Pk.kept Lv2 (Pk.lt_of m14) m14
  clear m14
  have L31 := Pk.join_below L15 Lv2
  clear L15
  have hs32 : v1.heap.size ≤ v2.heap.size := Lv2.size
  have c33 : v2.cell? ⟨w.heap.size, 12, none⟩ = some (.string ⟨#[]⟩) := cell_at m29 12
  have c34 : v2.cell? ⟨w.heap.size, 13, none⟩ = some (.int .i64 0) := cell_at m29 13
  have c35 : v2.cell? ⟨w.heap.size + 1, 12, none⟩ = some (.string ⟨#[]⟩) := cell_at m30 12
  have c36 : v2.cell? ⟨w.heap.size + 1, 13, none⟩ = some (.int .i64 0) := cell_at m30 13
  go_wp2
  go_ret
  exact ⟨rfl, L31⟩

set_option maxRecDepth 100000 in
set_option maxHeartbeats 4000000 in
theorem eqBooth_same (x y x' y' : Pl) (o : Offc) (h h' : Hn.Pl) (R : Hn.Hnd) (w : World) (hz : Small o) (hr : R.ol.length ≤ 1048576) (hr2 : R.sl.length ≤ 1048576) (I : In w x o) (J : In w y o) (I' : In w x' o) (J' : In w y' o) (K : Hn.In w h R) (K' : Hn.In w h' R) :
    Calls Tryz.prog 6 #[.agg #[.slice x.a0 o.ln.length x.c0, .slice x.a1 o.ta.length x.c1, .slice x.a2 o.ho.length x.c2, .slice x.a3 o.od.length x.c3, .slice x.a4 o.to.length x.c4, .int .i64 o.td, .slice y.a0 o.ln.length y.c0, .slice y.a1 o.ta.length y.c1, .slice y.a2 o.ho.length y.c2, .slice y.a3 o.od.length y.c3, .slice y.a4 o.to.length y.c4, .int .i64 o.td, .string ⟨#[]⟩, .int .i64 0, .int .i64 R.dv, .int .i64 R.p, .int .i64 R.q, .int .i64 R.g, .int .i64 R.op, .int .i64 R.is, .int .i64 R.ve, .slice h.a R.ol.length h.c, .slice h.b R.sl.length h.d, .int .i64 0, .slice none 0 0, .slice none 0 0], .agg #[.slice x'.a0 o.ln.length x'.c0, .slice x'.a1 o.ta.length x'.c1, .slice x'.a2 o.ho.length x'.c2, .slice x'.a3 o.od.length x'.c3, .slice x'.a4 o.to.length x'.c4, .int .i64 o.td, .slice y'.a0 o.ln.length y'.c0, .slice y'.a1 o.ta.length y'.c1, .slice y'.a2 o.ho.length y'.c2, .slice y'.a3 o.od.length y'.c3, .slice y'.a4 o.to.length y'.c4, .int .i64 o.td, .string ⟨#[]⟩, .int .i64 0, .int .i64 R.dv, .int .i64 R.p, .int .i64 R.q, .int .i64 R.g, .int .i64 R.op, .int .i64 R.is, .int .i64 R.ve, .slice h'.a R.ol.length h'.c, .slice h'.b R.sl.length h'.d, .int .i64 0, .slice none 0 0, .slice none 0 0]] w fun e w' => e = .returned (.bool true) ∧ Below w.heap.size w w' := by
  have N := join_below (new_below w (.cells #[.slice x.a0 o.ln.length x.c0, .slice x.a1 o.ta.length x.c1, .slice x.a2 o.ho.length x.c2, .slice x.a3 o.od.length x.c3, .slice x.a4 o.to.length x.c4, .int .i64 o.td, .slice y.a0 o.ln.length y.c0, .slice y.a1 o.ta.length y.c1, .slice y.a2 o.ho.length y.c2, .slice y.a3 o.od.length y.c3, .slice y.a4 o.to.length y.c4, .int .i64 o.td, .string ⟨#[]⟩, .int .i64 0, .int .i64 R.dv, .int .i64 R.p, .int .i64 R.q, .int .i64 R.g, .int .i64 R.op, .int .i64 R.is, .int .i64 R.ve, .slice h.a R.ol.length h.c, .slice h.b R.sl.length h.d, .int .i64 0, .slice none 0 0, .slice none 0 0] 40)) (new_below _ (.cells #[.slice x'.a0 o.ln.length x'.c0, .slice x'.a1 o.ta.length x'.c1, .slice x'.a2 o.ho.length x'.c2, .slice x'.a3 o.od.length x'.c3, .slice x'.a4 o.to.length x'.c4, .int .i64 o.td, .slice y'.a0 o.ln.length y'.c0, .slice y'.a1 o.ta.length y'.c1, .slice y'.a2 o.ho.length y'.c2, .slice y'.a3 o.od.length y'.c3, .slice y'.a4 o.to.length y'.c4, .int .i64 o.td, .string ⟨#[]⟩, .int .i64 0, .int .i64 R.dv, .int .i64 R.p, .int .i64 R.q, .int .i64 R.g, .int .i64 R.op, .int .i64 R.is, .int .i64 R.ve, .slice h'.a R.ol.length h'.c, .slice h'.b R.sl.length h'.d, .int .i64 0, .slice none 0 0, .slice none 0 0] 40))
  obtain ⟨k0, k1⟩ := two_blocks2 w (.cells #[.slice x.a0 o.ln.length x.c0, .slice x.a1 o.ta.length x.c1, .slice x.a2 o.ho.length x.c2, .slice x.a3 o.od.length x.c3, .slice x.a4 o.to.length x.c4, .int .i64 o.td, .slice y.a0 o.ln.length y.c0, .slice y.a1 o.ta.length y.c1, .slice y.a2 o.ho.length y.c2, .slice y.a3 o.od.length y.c3, .slice y.a4 o.to.length y.c4, .int .i64 o.td, .string ⟨#[]⟩, .int .i64 0, .int .i64 R.dv, .int .i64 R.p, .int .i64 R.q, .int .i64 R.g, .int .i64 R.op, .int .i64 R.is, .int .i64 R.ve, .slice h.a R.ol.length h.c, .slice h.b R.sl.length h.d, .int .i64 0, .slice none 0 0, .slice none 0 0] 40) (.cells #[.slice x'.a0 o.ln.length x'.c0, .slice x'.a1 o.ta.length x'.c1, .slice x'.a2 o.ho.length x'.c2, .slice x'.a3 o.od.length x'.c3, .slice x'.a4 o.to.length x'.c4, .int .i64 o.td, .slice y'.a0 o.ln.length y'.c0, .slice y'.a1 o.ta.length y'.c1, .slice y'.a2 o.ho.length y'.c2, .slice y'.a3 o.od.length y'.c3, .slice y'.a4 o.to.length y'.c4, .int .i64 o.td, .string ⟨#[]⟩, .int .i64 0, .int .i64 R.dv, .int .i64 R.p, .int .i64 R.q, .int .i64 R.g, .int .i64 R.op, .int .i64 R.is, .int .i64 R.ve, .slice h'.a R.ol.length h'.c, .slice h'.b R.sl.length h'.d, .int .i64 0, .slice none 0 0, .slice none 0 0] 40)
  have HI : Hid (∀ W : World, Below w.heap.size w W → _) := fun W (L : Below w.heap.size w W) => eqPlat_same x y x' y' o W hz (I.on L) (J.on L) (I'.on L) (J'.on L)
  have HJ : Hid (∀ W : World, Below w.heap.size w W → _) := fun W (L : Below w.heap.size w W) => Hn.eqHand_same h h' R W hr hr2 (K.on L) (K'.on L)
  have HC : Hid (∀ W : World, _) := fun W => eqCentre_zero W
  clear I J I' J' K K' hz hr hr2
  go_enter Tryz.func6, Tryz.ntmps6
  have c1 : ((w.alloc (.cells #[.slice x.a0 o.ln.length x.c0, .slice x.a1 o.ta.length x.c1, .slice x.a2 o.ho.length x.c2, .slice x.a3 o.od.length x.c3, .slice x.a4 o.to.length x.c4, .int .i64 o.td, .slice y.a0 o.ln.length y.c0, .slice y.a1 o.ta.length y.c1, .slice y.a2 o.ho.length y.c2, .slice y.a3 o.od.length y.c3, .slice y.a4 o.to.length y.c4, .int .i64 o.td, .string ⟨#[]⟩, .int .i64 0, .int .i64 R.dv, .int .i64 R.p, .int .i64 R.q, .int .i64 R.g, .int .i64 R.op, .int .i64 R.is, .int .i64 R.ve, .slice h.a R.ol.length h.c, .slice h.b R.sl.length h.d, .int .i64 0, .slice none 0 0, .slice none 0 0] 40)).alloc (.cells #[.slice x'.a0 o.ln.length x'.c0, .slice x'.a1 o.ta.length x'.c1, .slice x'.a2 o.ho.length x'.c2, .slice x'.a3 o.od.length x'.c3, .slice x'.a4 o.to.length x'.c4, .int .i64 o.td, .slice y'.a0 o.ln.length y'.c0, .slice y'.a1 o.ta.length y'.c1, .slice y'.a2 o.ho.length y'.c2, .slice y'.a3 o.od.length y'.c3, .slice y'.a4 o.to.length y'.c4, .int .i64 o.td, .string ⟨#[]⟩, .int .i64 0, .int .i64 R.dv, .int .i64 R.p, .int .i64 R.q, .int .i64 R.g, .int .i64 R.op, .int .i64 R.is, .int .i64 R.ve, .slice h'.a R.ol.length h'.c, .slice h'.b R.sl.length h'.d, .int .i64 0, .slice none 0 0, .slice none 0 0] 40)).cell? ⟨w.heap.size, 0, none⟩ = some (.slice x.a0 o.ln.length x.c0) := cell_at k0 0
  have c2 : ((w.alloc (.cells #[.slice x.a0 o.ln.length x.c0, .slice x.a1 o.ta.length x.c1, .slice x.a2 o.ho.length x.c2, .slice x.a3 o.od.length x.c3, .slice x.a4 o.to.length x.c4, .int .i64 o.td, .slice y.a0 o.ln.length y.c0, .slice y.a1 o.ta.length y.c1, .slice y.a2 o.ho.length y.c2, .slice y.a3 o.od.length y.c3, .slice y.a4 o.to.length y.c4, .int .i64 o.td, .string ⟨#[]⟩, .int .i64 0, .int .i64 R.dv, .int .i64 R.p, .int .i64 R.q, .int .i64 R.g, .int .i64 R.op, .int .i64 R.is, .int .i64 R.ve, .slice h.a R.ol.length h.c, .slice h.b R.sl.length h.d, .int .i64 0, .slice none 0 0, .slice none 0 0] 40)).alloc (.cells #[.slice x'.a0 o.ln.length x'.c0, .slice x'.a1 o.ta.length x'.c1, .slice x'.a2 o.ho.length x'.c2, .slice x'.a3 o.od.length x'.c3, .slice x'.a4 o.to.length x'.c4, .int .i64 o.td, .slice y'.a0 o.ln.length y'.c0, .slice y'.a1 o.ta.length y'.c1, .slice y'.a2 o.ho.length y'.c2, .slice y'.a3 o.od.length y'.c3, .slice y'.a4 o.to.length y'.c4, .int .i64 o.td, .string ⟨#[]⟩, .int .i64 0, .int .i64 R.dv, .int .i64 R.p, .int .i64 R.q, .int .i64 R.g, .int .i64 R.op, .int .i64 R.is, .int .i64 R.ve, .slice h'.a R.ol.length h'.c, .slice h'.b R.sl.length h'.d, .int .i64 0, .slice none 0 0, .slice none 0 0] 40)).cell? ⟨w.heap.size, 1, none⟩ = some (.slice x.a1 o.ta.length x.c1) := cell_at k0 1
  have c3 : ((w.alloc (.cells #[.slice x.a0 o.ln.length x.c0, .slice x.a1 o.ta.length x.c1, .slice x.a2 o.ho.length x.c2, .slice x.a3 o.od.length x.c3, .slice x.a4 o.to.length x.c4, .int .i64 o.td, .slice y.a0 o.ln.length y.c0, .slice y.a1 o.ta.length y.c1, .slice y.a2 o.ho.length y.c2, .slice y.a3 o.od.length y.c3, .slice y.a4 o.to.length y.c4, .int .i64 o.td, .string ⟨#[]⟩, .int .i64 0, .int .i64 R.dv, .int .i64 R.p, .int .i64 R.q, .int .i64 R.g, .int .i64 R.op, .int .i64 R.is, .int .i64 R.ve, .slice h.a R.ol.length h.c, .slice h.b R.sl.length h.d, .int .i64 0, .slice none 0 0, .slice none 0 0] 40)).alloc (.cells #[.slice x'.a0 o.ln.length x'.c0, .slice x'.a1 o.ta.length x'.c1, .slice x'.a2 o.ho.length x'.c2, .slice x'.a3 o.od.length x'.c3, .slice x'.a4 o.to.length x'.c4, .int .i64 o.td, .slice y'.a0 o.ln.length y'.c0, .slice y'.a1 o.ta.length y'.c1, .slice y'.a2 o.ho.length y'.c2, .slice y'.a3 o.od.length y'.c3, .slice y'.a4 o.to.length y'.c4, .int .i64 o.td, .string ⟨#[]⟩, .int .i64 0, .int .i64 R.dv, .int .i64 R.p, .int .i64 R.q, .int .i64 R.g, .int .i64 R.op, .int .i64 R.is, .int .i64 R.ve, .slice h'.a R.ol.length h'.c, .slice h'.b R.sl.length h'.d, .int .i64 0, .slice none 0 0, .slice none 0 0] 40)).cell? ⟨w.heap.size, 2, none⟩ = some (.slice x.a2 o.ho.length x.c2) := cell_at k0 2
  have c4 : ((w.alloc (.cells #[.slice x.a0 o.ln.length x.c0, .slice x.a1 o.ta.length x.c1, .slice x.a2 o.ho.length x.c2, .slice x.a3 o.od.length x.c3, .slice x.a4 o.to.length x.c4, .int .i64 o.td, .slice y.a0 o.ln.length y.c0, .slice y.a1 o.ta.length y.c1, .slice y.a2 o.ho.length y.c2, .slice y.a3 o.od.length y.c3, .slice y.a4 o.to.length y.c4, .int .i64 o.td, .string ⟨#[]⟩, .int .i64 0, .int .i64 R.dv, .int .i64 R.p, .int .i64 R.q, .int .i64 R.g, .int .i64 R.op, .int .i64 R.is, .int .i64 R.ve, .slice h.a R.ol.length h.c, .slice h.b R.sl.length h.d, .int .i64 0, .slice none 0 0, .slice none 0 0] 40)).alloc (.cells #[.slice x'.a0 o.ln.length x'.c0, .slice x'.a1 o.ta.length x'.c1, .slice x'.a2 o.ho.length x'.c2, .slice x'.a3 o.od.length x'.c3, .slice x'.a4 o.to.length x'.c4, .int .i64 o.td, .slice y'.a0 o.ln.length y'.c0, .slice y'.a1 o.ta.length y'.c1, .slice y'.a2 o.ho.length y'.c2, .slice y'.a3 o.od.length y'.c3, .slice y'.a4 o.to.length y'.c4, .int .i64 o.td, .string ⟨#[]⟩, .int .i64 0, .int .i64 R.dv, .int .i64 R.p, .int .i64 R.q, .int .i64 R.g, .int .i64 R.op, .int .i64 R.is, .int .i64 R.ve, .slice h'.a R.ol.length h'.c, .slice h'.b R.sl.length h'.d, .int .i64 0, .slice none 0 0, .slice none 0 0] 40)).cell? ⟨w.heap.size, 3, none⟩ = some (.slice x.a3 o.od.length x.c3) := cell_at k0 3
  have c5 : ((w.alloc (.cells #[.slice x.a0 o.ln.length x.c0, .slice x.a1 o.ta.length x.c1, .slice x.a2 o.ho.length x.c2, .slice x.a3 o.od.length x.c3, .slice x.a4 o.to.length x.c4, .int .i64 o.td, .slice y.a0 o.ln.length y.c0, .slice y.a1 o.ta.length y.c1, .slice y.a2 o.ho.length y.c2, .slice y.a3 o.od.length y.c3, .slice y.a4 o.to.length y.c4, .int .i64 o.td, .string ⟨#[]⟩, .int .i64 0, .int .i64 R.dv, .int .i64 R.p, .int .i64 R.q, .int .i64 R.g, .int .i64 R.op, .int .i64 R.is, .int .i64 R.ve, .slice h.a R.ol.length h.c, .slice h.b R.sl.length h.d, .int .i64 0, .slice none 0 0, .slice none 0 0] 40)).alloc (.cells #[.slice x'.a0 o.ln.length x'.c0, .slice x'.a1 o.ta.length x'.c1, .slice x'.a2 o.ho.length x'.c2, .slice x'.a3 o.od.length x'.c3, .slice x'.a4 o.to.length x'.c4, .int .i64 o.td, .slice y'.a0 o.ln.length y'.c0, .slice y'.a1 o.ta.length y'.c1, .slice y'.a2 o.ho.length y'.c2, .slice y'.a3 o.od.length y'.c3, .slice y'.a4 o.to.length y'.c4, .int .i64 o.td, .string ⟨#[]⟩, .int .i64 0, .int .i64 R.dv, .int .i64 R.p, .int .i64 R.q, .int .i64 R.g, .int .i64 R.op, .int .i64 R.is, .int .i64 R.ve, .slice h'.a R.ol.length h'.c, .slice h'.b R.sl.length h'.d, .int .i64 0, .slice none 0 0, .slice none 0 0] 40)).cell? ⟨w.heap.size, 4, none⟩ = some (.slice x.a4 o.to.length x.c4) := cell_at k0 4
  have c6 : ((w.alloc (.cells #[.slice x.a0 o.ln.length x.c0, .slice x.a1 o.ta.length x.c1, .slice x.a2 o.ho.length x.c2, .slice x.a3 o.od.length x.c3, .slice x.a4 o.to.length x.c4, .int .i64 o.td, .slice y.a0 o.ln.length y.c0, .slice y.a1 o.ta.length y.c1, .slice y.a2 o.ho.length y.c2, .slice y.a3 o.od.length y.c3, .slice y.a4 o.to.length y.c4, .int .i64 o.td, .string ⟨#[]⟩, .int .i64 0, .int .i64 R.dv, .int .i64 R.p, .int .i64 R.q, .int .i64 R.g, .int .i64 R.op, .int .i64 R.is, .int .i64 R.ve, .slice h.a R.ol.length h.c, .slice h.b R.sl.length h.d, .int .i64 0, .slice none 0 0, .slice none 0 0] 40)).alloc (.cells #[.slice x'.a0 o.ln.length x'.c0, .slice x'.a1 o.ta.length x'.c1, .slice x'.a2 o.ho.length x'.c2, .slice x'.a3 o.od.length x'.c3, .slice x'.a4 o.to.length x'.c4, .int .i64 o.td, .slice y'.a0 o.ln.length y'.c0, .slice y'.a1 o.ta.length y'.c1, .slice y'.a2 o.ho.length y'.c2, .slice y'.a3 o.od.length y'.c3, .slice y'.a4 o.to.length y'.c4, .int .i64 o.td, .string ⟨#[]⟩, .int .i64 0, .int .i64 R.dv, .int .i64 R.p, .int .i64 R.q, .int .i64 R.g, .int .i64 R.op, .int .i64 R.is, .int .i64 R.ve, .slice h'.a R.ol.length h'.c, .slice h'.b R.sl.length h'.d, .int .i64 0, .slice none 0 0, .slice none 0 0] 40)).cell? ⟨w.heap.size, 5, none⟩ = some (.int .i64 o.td) := cell_at k0 5
  have c7 : ((w.alloc (.cells #[.slice x.a0 o.ln.length x.c0, .slice x.a1 o.ta.length x.c1, .slice x.a2 o.ho.length x.c2, .slice x.a3 o.od.length x.c3, .slice x.a4 o.to.length x.c4, .int .i64 o.td, .slice y.a0 o.ln.length y.c0, .slice y.a1 o.ta.length y.c1, .slice y.a2 o.ho.length y.c2, .slice y.a3 o.od.length y.c3, .slice y.a4 o.to.length y.c4, .int .i64 o.td, .string ⟨#[]⟩, .int .i64 0, .int .i64 R.dv, .int .i64 R.p, .int .i64 R.q, .int .i64 R.g, .int .i64 R.op, .int .i64 R.is, .int .i64 R.ve, .slice h.a R.ol.length h.c, .slice h.b R.sl.length h.d, .int .i64 0, .slice none 0 0, .slice none 0 0] 40)).alloc (.cells #[.slice x'.a0 o.ln.length x'.c0, .slice x'.a1 o.ta.length x'.c1, .slice x'.a2 o.ho.length x'.c2, .slice x'.a3 o.od.length x'.c3, .slice x'.a4 o.to.length x'.c4, .int .i64 o.td, .slice y'.a0 o.ln.length y'.c0, .slice y'.a1 o.ta.length y'.c1, .slice y'.a2 o.ho.length y'.c2, .slice y'.a3 o.od.length y'.c3, .slice y'.a4 o.to.length y'.c4, .int .i64 o.td, .string ⟨#[]⟩, .int .i64 0, .int .i64 R.dv, .int .i64 R.p, .int .i64 R.q, .int .i64 R.g, .int .i64 R.op, .int .i64 R.is, .int .i64 R.ve, .slice h'.a R.ol.length h'.c, .slice h'.b R.sl.length h'.d, .int .i64 0, .slice none 0 0, .slice none 0 0] 40)).cell? ⟨w.heap.size, 6, none⟩ = some (.slice y.a0 o.ln.length y.c0) := cell_at k0 6
  have c8 : ((w.alloc (.cells #[.slice x.a0 o.ln.length x.c0, .slice x.a1 o.ta.length x.c1, .slice x.a2 o.ho.length x.c2, .slice x.a3 o.od.length x.c3, .slice x.a4 o.to.length x.c4, .int .i64 o.td, .slice y.a0 o.ln.length y.c0, .slice y.a1 o.ta.length y.c1, .slice y.a2 o.ho.length y.c2, .slice y.a3 o.od.length y.c3, .slice y.a4 o.to.length y.c4, .int .i64 o.td, .string ⟨#[]⟩, .int .i64 0, .int .i64 R.dv, .int .i64 R.p, .int .i64 R.q, .int .i64 R.g, .int .i64 R.op, .int .i64 R.is, .int .i64 R.ve, .slice h.a R.ol.length h.c, .slice h.b R.sl.length h.d, .int .i64 0, .slice none 0 0, .slice none 0 0] 40)).alloc (.cells #[.slice x'.a0 o.ln.length x'.c0, .slice x'.a1 o.ta.length x'.c1, .slice x'.a2 o.ho.length x'.c2, .slice x'.a3 o.od.length x'.c3, .slice x'.a4 o.to.length x'.c4, .int .i64 o.td, .slice y'.a0 o.ln.length y'.c0, .slice y'.a1 o.ta.length y'.c1, .slice y'.a2 o.ho.length y'.c2, .slice y'.a3 o.od.length y'.c3, .slice y'.a4 o.to.length y'.c4, .int .i64 o.td, .string ⟨#[]⟩, .int .i64 0, .int .i64 R.dv, .int .i64 R.p, .int .i64 R.q, .int .i64 R.g, .int .i64 R.op, .int .i64 R.is, .int .i64 R.ve, .slice h'.a R.ol.length h'.c, .slice h'.b R.sl.length h'.d, .int .i64 0, .slice none 0 0, .slice none 0 0] 40)).cell? ⟨w.heap.size, 7, none⟩ = some (.slice y.a1 o.ta.length y.c1) := cell_at k0 7
  have c9 : ((w.alloc (.cells #[.slice x.a0 o.ln.length x.c0, .slice x.a1 o.ta.length x.c1, .slice x.a2 o.ho.length x.c2, .slice x.a3 o.od.length x.c3, .slice x.a4 o.to.length x.c4, .int .i64 o.td, .slice y.a0 o.ln.length y.c0, .slice y.a1 o.ta.length y.c1, .slice y.a2 o.ho.length y.c2, .slice y.a3 o.od.length y.c3, .slice y.a4 o.to.length y.c4, .int .i64 o.td, .string ⟨#[]⟩, .int .i64 0, .int .i64 R.dv, .int .i64 R.p, .int .i64 R.q, .int .i64 R.g, .int .i64 R.op, .int .i64 R.is, .int .i64 R.ve, .slice h.a R.ol.length h.c, .slice h.b R.sl.length h.d, .int .i64 0, .slice none 0 0, .slice none 0 0] 40)).alloc (.cells #[.slice x'.a0 o.ln.length x'.c0, .slice x'.a1 o.ta.length x'.c1, .slice x'.a2 o.ho.length x'.c2, .slice x'.a3 o.od.length x'.c3, .slice x'.a4 o.to.length x'.c4, .int .i64 o.td, .slice y'.a0 o.ln.length y'.c0, .slice y'.a1 o.ta.length y'.c1, .slice y'.a2 o.ho.length y'.c2, .slice y'.a3 o.od.length y'.c3, .slice y'.a4 o.to.length y'.c4, .int .i64 o.td, .string ⟨#[]⟩, .int .i64 0, .int .i64 R.dv, .int .i64 R.p, .int .i64 R.q, .int .i64 R.g, .int .i64 R.op, .int .i64 R.is, .int .i64 R.ve, .slice h'.a R.ol.length h'.c, .slice h'.b R.sl.length h'.d, .int .i64 0, .slice none 0 0, .slice none 0 0] 40)).cell? ⟨w.heap.size, 8, none⟩ = some (.slice y.a2 o.ho.length y.c2) := cell_at k0 8
  have c10 : ((w.alloc (.cells #[.slice x.a0 o.ln.length x.c0, .slice x.a1 o.ta.length x.c1, .slice x.a2 o.ho.length x.c2, .slice x.a3 o.od.length x.c3, .slice x.a4 o.to.length x.c4, .int .i64 o.td, .slice y.a0 o.ln.length y.c0, .slice y.a1 o.ta.length y.c1, .slice y.a2 o.ho.length y.c2, .slice y.a3 o.od.length y.c3, .slice y.a4 o.to.length y.c4, .int .i64 o.td, .string ⟨#[]⟩, .int .i64 0, .int .i64 R.dv, .int .i64 R.p, .int .i64 R.q, .int .i64 R.g, .int .i64 R.op, .int .i64 R.is, .int .i64 R.ve, .slice h.a R.ol.length h.c, .slice h.b R.sl.length h.d, .int .i64 0, .slice none 0 0, .slice none 0 0] 40)).alloc (.cells #[.slice x'.a0 o.ln.length x'.c0, .slice x'.a1 o.ta.length x'.c1, .slice x'.a2 o.ho.length x'.c2, .slice x'.a3 o.od.length x'.c3, .slice x'.a4 o.to.length x'.c4, .int .i64 o.td, .slice y'.a0 o.ln.length y'.c0, .slice y'.a1 o.ta.length y'.c1, .slice y'.a2 o.ho.length y'.c2, .slice y'.a3 o.od.length y'.c3, .slice y'.a4 o.to.length y'.c4, .int .i64 o.td, .string ⟨#[]⟩, .int .i64 0, .int .i64 R.dv, .int .i64 R.p, .int .i64 R.q, .int .i64 R.g, .int .i64 R.op, .int .i64 R.is, .int .i64 R.ve, .slice h'.a R.ol.length h'.c, .slice h'.b R.sl.length h'.d, .int .i64 0, .slice none 0 0, .slice none 0 0] 40)).cell? ⟨w.heap.size, 9, none⟩ = some (.slice y.a3 o.od.length y.c3) := cell_at k0 9
  have c11 : ((w.alloc (.cells #[.slice x.a0 o.ln.length x.c0, .slice x.a1 o.ta.length x.c1, .slice x.a2 o.ho.length x.c2, .slice x.a3 o.od.length x.c3, .slice x.a4 o.to.length x.c4, .int .i64 o.td, .slice y.a0 o.ln.length y.c0, .slice y.a1 o.ta.length y.c1, .slice y.a2 o.ho.length y.c2, .slice y.a3 o.od.length y.c3, .slice y.a4 o.to.length y.c4, .int .i64 o.td, .string ⟨#[]⟩, .int .i64 0, .int .i64 R.dv, .int .i64 R.p, .int .i64 R.q, .int .i64 R.g, .int .i64 R.op, .int .i64 R.is, .int .i64 R.ve, .slice h.a R.ol.length h.c, .slice h.b R.sl.length h.d, .int .i64 0, .slice none 0 0, .slice none 0 0] 40)).alloc (.cells #[.slice x'.a0 o.ln.length x'.c0, .slice x'.a1 o.ta.length x'.c1, .slice x'.a2 o.ho.length x'.c2, .slice x'.a3 o.od.length x'.c3, .slice x'.a4 o.to.length x'.c4, .int .i64 o.td, .slice y'.a0 o.ln.length y'.c0, .slice y'.a1 o.ta.length y'.c1, .slice y'.a2 o.ho.length y'.c2, .slice y'.a3 o.od.length y'.c3, .slice y'.a4 o.to.length y'.c4, .int .i64 o.td, .string ⟨#[]⟩, .int .i64 0, .int .i64 R.dv, .int .i64 R.p, .int .i64 R.q, .int .i64 R.g, .int .i64 R.op, .int .i64 R.is, .int .i64 R.ve, .slice h'.a R.ol.length h'.c, .slice h'.b R.sl.length h'.d, .int .i64 0, .slice none 0 0, .slice none 0 0] 40)).cell? ⟨w.heap.size, 10, none⟩ = some (.slice y.a4 o.to.length y.c4) := cell_at k0 10
  have c12 : ((w.alloc (.cells #[.slice x.a0 o.ln.length x.c0, .slice x.a1 o.ta.length x.c1, .slice x.a2 o.ho.length x.c2, .slice x.a3 o.od.length x.c3, .slice x.a4 o.to.length x.c4, .int .i64 o.td, .slice y.a0 o.ln.length y.c0, .slice y.a1 o.ta.length y.c1, .slice y.a2 o.ho.length y.c2, .slice y.a3 o.od.length y.c3, .slice y.a4 o.to.length y.c4, .int .i64 o.td, .string ⟨#[]⟩, .int .i64 0, .int .i64 R.dv, .int .i64 R.p, .int .i64 R.q, .int .i64 R.g, .int .i64 R.op, .int .i64 R.is, .int .i64 R.ve, .slice h.a R.ol.length h.c, .slice h.b R.sl.length h.d, .int .i64 0, .slice none 0 0, .slice none 0 0] 40)).alloc (.cells #[.slice x'.a0 o.ln.length x'.c0, .slice x'.a1 o.ta.length x'.c1, .slice x'.a2 o.ho.length x'.c2, .slice x'.a3 o.od.length x'.c3, .slice x'.a4 o.to.length x'.c4, .int .i64 o.td, .slice y'.a0 o.ln.length y'.c0, .slice y'.a1 o.ta.length y'.c1, .slice y'.a2 o.ho.length y'.c2, .slice y'.a3 o.od.length y'.c3, .slice y'.a4 o.to.length y'.c4, .int .i64 o.td, .string ⟨#[]⟩, .int .i64 0, .int .i64 R.dv, .int .i64 R.p, .int .i64 R.q, .int .i64 R.g, .int .i64 R.op, .int .i64 R.is, .int .i64 R.ve, .slice h'.a R.ol.length h'.c, .slice h'.b R.sl.length h'.d, .int .i64 0, .slice none 0 0, .slice none 0 0] 40)).cell? ⟨w.heap.size, 11, none⟩ = some (.int .i64 o.td) := cell_at k0 11
  have c13 : ((w.alloc (.cells #[.slice x.a0 o.ln.length x.c0, .slice x.a1 o.ta.length x.c1, .slice x.a2 o.ho.length x.c2, .slice x.a3 o.od.length x.c3, .slice x.a4 o.to.length x.c4, .int .i64 o.td, .slice y.a0 o.ln.length y.c0, .slice y.a1 o.ta.length y.c1, .slice y.a2 o.ho.length y.c2, .slice y.a3 o.od.length y.c3, .slice y.a4 o.to.length y.c4, .int .i64 o.td, .string ⟨#[]⟩, .int .i64 0, .int .i64 R.dv, .int .i64 R.p, .int .i64 R.q, .int .i64 R.g, .int .i64 R.op, .int .i64 R.is, .int .i64 R.ve, .slice h.a R.ol.length h.c, .slice h.b R.sl.length h.d, .int .i64 0, .slice none 0 0, .slice none 0 0] 40)).alloc (.cells #[.slice x'.a0 o.ln.length x'.c0, .slice x'.a1 o.ta.length x'.c1, .slice x'.a2 o.ho.length x'.c2, .slice x'.a3 o.od.length x'.c3, .slice x'.a4 o.to.length x'.c4, .int .i64 o.td, .slice y'.a0 o.ln.length y'.c0, .slice y'.a1 o.ta.length y'.c1, .slice y'.a2 o.ho.length y'.c2, .slice y'.a3 o.od.length y'.c3, .slice y'.a4 o.to.length y'.c4, .int .i64 o.td, .string ⟨#[]⟩, .int .i64 0, .int .i64 R.dv, .int .i64 R.p, .int .i64 R.q, .int .i64 R.g, .int .i64 R.op, .int .i64 R.is, .int .i64 R.ve, .slice h'.a R.ol.length h'.c, .slice h'.b R.sl.length h'.d, .int .i64 0, .slice none 0 0, .slice none 0 0] 40)).cell? ⟨w.heap.size, 12, none⟩ = some (.string ⟨#[]⟩) := cell_at k0 12
  have c14 : ((w.alloc (.cells #[.slice x.a0 o.ln.length x.c0, .slice x.a1 o.ta.length x.c1, .slice x.a2 o.ho.length x.c2, .slice x.a3 o.od.length x.c3, .slice x.a4 o.to.length x.c4, .int .i64 o.td, .slice y.a0 o.ln.length y.c0, .slice y.a1 o.ta.length y.c1, .slice y.a2 o.ho.length y.c2, .slice y.a3 o.od.length y.c3, .slice y.a4 o.to.length y.c4, .int .i64 o.td, .string ⟨#[]⟩, .int .i64 0, .int .i64 R.dv, .int .i64 R.p, .int .i64 R.q, .int .i64 R.g, .int .i64 R.op, .int .i64 R.is, .int .i64 R.ve, .slice h.a R.ol.length h.c, .slice h.b R.sl.length h.d, .int .i64 0, .slice none 0 0, .slice none 0 0] 40)).alloc (.cells #[.slice x'.a0 o.ln.length x'.c0, .slice x'.a1 o.ta.length x'.c1, .slice x'.a2 o.ho.length x'.c2, .slice x'.a3 o.od.length x'.c3, .slice x'.a4 o.to.length x'.c4, .int .i64 o.td, .slice y'.a0 o.ln.length y'.c0, .slice y'.a1 o.ta.length y'.c1, .slice y'.a2 o.ho.length y'.c2, .slice y'.a3 o.od.length y'.c3, .slice y'.a4 o.to.length y'.c4, .int .i64 o.td, .string ⟨#[]⟩, .int .i64 0, .int .i64 R.dv, .int .i64 R.p, .int .i64 R.q, .int .i64 R.g, .int .i64 R.op, .int .i64 R.is, .int .i64 R.ve, .slice h'.a R.ol.length h'.c, .slice h'.b R.sl.length h'.d, .int .i64 0, .slice none 0 0, .slice none 0 0] 40)).cell? ⟨w.heap.size, 13, none⟩ = some (.int .i64 0) := cell_at k0 13
  have c15 : ((w.alloc (.cells #[.slice x.a0 o.ln.length x.c0, .slice x.a1 o.ta.length x.c1, .slice x.a2 o.ho.length x.c2, .slice x.a3 o.od.length x.c3, .slice x.a4 o.to.length x.c4, .int .i64 o.td, .slice y.a0 o.ln.length y.c0, .slice y.a1 o.ta.length y.c1, .slice y.a2 o.ho.length y.c2, .slice y.a3 o.od.length y.c3, .slice y.a4 o.to.length y.c4, .int .i64 o.td, .string ⟨#[]⟩, .int .i64 0, .int .i64 R.dv, .int .i64 R.p, .int .i64 R.q, .int .i64 R.g, .int .i64 R.op, .int .i64 R.is, .int .i64 R.ve, .slice h.a R.ol.length h.c, .slice h.b R.sl.length h.d, .int .i64 0, .slice none 0 0, .slice none 0 0] 40)).alloc (.cells #[.slice x'.a0 o.ln.length x'.c0, .slice x'.a1 o.ta.length x'.c1, .slice x'.a2 o.ho.length x'.c2, .slice x'.a3 o.od.length x'.c3, .slice x'.a4 o.to.length x'.c4, .int .i64 o.td, .slice y'.a0 o.ln.length y'.c0, .slice y'.a1 o.ta.length y'.c1, .slice y'.a2 o.ho.length y'.c2, .slice y'.a3 o.od.length y'.c3, .slice y'.a4 o.to.length y'.c4, .int .i64 o.td, .string ⟨#[]⟩, .int .i64 0, .int .i64 R.dv, .int .i64 R.p, .int .i64 R.q, .int .i64 R.g, .int .i64 R.op, .int .i64 R.is, .int .i64 R.ve, .slice h'.a R.ol.length h'.c, .slice h'.b R.sl.length h'.d, .int .i64 0, .slice none 0 0, .slice none 0 0] 40)).cell? ⟨w.heap.size + 1, 0, none⟩ = some (.slice x'.a0 o.ln.length x'.c0) := cell_at k1 0
  have c16 : ((w.alloc (.cells #[.slice x.a0 o.ln.length x.c0, .slice x.a1 o.ta.length x.c1, .slice x.a2 o.ho.length x.c2, .slice x.a3 o.od.length x.c3, .slice x.a4 o.to.length x.c4, .int .i64 o.td, .slice y.a0 o.ln.length y.c0, .slice y.a1 o.ta.length y.c1, .slice y.a2 o.ho.length y.c2, .slice y.a3 o.od.length y.c3, .slice y.a4 o.to.length y.c4, .int .i64 o.td, .string ⟨#[]⟩, .int .i64 0, .int .i64 R.dv, .int .i64 R.p, .int .i64 R.q, .int .i64 R.g, .int .i64 R.op, .int .i64 R.is, .int .i64 R.ve, .slice h.a R.ol.length h.c, .slice h.b R.sl.length h.d, .int .i64 0, .slice none 0 0, .slice none 0 0] 40)).alloc (.cells #[.slice x'.a0 o.ln.length x'.c0, .slice x'.a1 o.ta.length x'.c1, .slice x'.a2 o.ho.length x'.c2, .slice x'.a3 o.od.length x'.c3, .slice x'.a4 o.to.length x'.c4, .int .i64 o.td, .slice y'.a0 o.ln.length y'.c0, .slice y'.a1 o.ta.length y'.c1, .slice y'.a2 o.ho.length y'.c2, .slice y'.a3 o.od.length y'.c3, .slice y'.a4 o.to.length y'.c4, .int .i64 o.td, .string ⟨#[]⟩, .int .i64 0, .int .i64 R.dv, .int .i64 R.p, .int .i64 R.q, .int .i64 R.g, .int .i64 R.op, .int .i64 R.is, .int .i64 R.ve, .slice h'.a R.ol.length h'.c, .slice h'.b R.sl.length h'.d, .int .i64 0, .slice none 0 0, .slice none 0 0] 40)).cell? ⟨w.heap.size + 1, 1, none⟩ = some (.slice x'.a1 o.ta.length x'.c1) := cell_at k1 1
  have c17 : ((w.alloc (.cells #[.slice x.a0 o.ln.length x.c0, .slice x.a1 o.ta.length x.c1, .slice x.a2 o.ho.length x.c2, .slice x.a3 o.od.length x.c3, .slice x.a4 o.to.length x.c4, .int .i64 o.td, .slice y.a0 o.ln.length y.c0, .slice y.a1 o.ta.length y.c1, .slice y.a2 o.ho.length y.c2, .slice y.a3 o.od.length y.c3, .slice y.a4 o.to.length y.c4, .int .i64 o.td, .string ⟨#[]⟩, .int .i64 0, .int .i64 R.dv, .int .i64 R.p, .int .i64 R.q, .int .i64 R.g, .int .i64 R.op, .int .i64 R.is, .int .i64 R.ve, .slice h.a R.ol.length h.c, .slice h.b R.sl.length h.d, .int .i64 0, .slice none 0 0, .slice none 0 0] 40)).alloc (.cells #[.slice x'.a0 o.ln.length x'.c0, .slice x'.a1 o.ta.length x'.c1, .slice x'.a2 o.ho.length x'.c2, .slice x'.a3 o.od.length x'.c3, .slice x'.a4 o.to.length x'.c4, .int .i64 o.td, .slice y'.a0 o.ln.length y'.c0, .slice y'.a1 o.ta.length y'.c1, .slice y'.a2 o.ho.length y'.c2, .slice y'.a3 o.od.length y'.c3, .slice y'.a4 o.to.length y'.c4, .int .i64 o.td, .string ⟨#[]⟩, .int .i64 0, .int .i64 R.dv, .int .i64 R.p, .int .i64 R.q, .int .i64 R.g, .int .i64 R.op, .int .i64 R.is, .int .i64 R.ve, .slice h'.a R.ol.length h'.c, .slice h'.b R.sl.length h'.d, .int .i64 0, .slice none 0 0, .slice none 0 0] 40)).cell? ⟨w.heap.size + 1, 2, none⟩ = some (.slice x'.a2 o.ho.length x'.c2) := cell_at k1 2
  have c18 : ((w.alloc (.cells #[.slice x.a0 o.ln.length x.c0, .slice x.a1 o.ta.length x.c1, .slice x.a2 o.ho.length x.c2, .slice x.a3 o.od.length x.c3, .slice x.a4 o.to.length x.c4, .int .i64 o.td, .slice y.a0 o.ln.length y.c0, .slice y.a1 o.ta.length y.c1, .slice y.a2 o.ho.length y.c2, .slice y.a3 o.od.length y.c3, .slice y.a4 o.to.length y.c4, .int .i64 o.td, .string ⟨#[]⟩, .int .i64 0, .int .i64 R.dv, .int .i64 R.p, .int .i64 R.q, .int .i64 R.g, .int .i64 R.op, .int .i64 R.is, .int .i64 R.ve, .slice h.a R.ol.length h.c, .slice h.b R.sl.length h.d, .int .i64 0, .slice none 0 0, .slice none 0 0] 40)).alloc (.cells #[.slice x'.a0 o.ln.length x'.c0, .slice x'.a1 o.ta.length x'.c1, .slice x'.a2 o.ho.length x'.c2, .slice x'.a3 o.od.length x'.c3, .slice x'.a4 o.to.length x'.c4, .int .i64 o.td, .slice y'.a0 o.ln.length y'.c0, .slice y'.a1 o.ta.length y'.c1, .slice y'.a2 o.ho.length y'.c2, .slice y'.a3 o.od.length y'.c3, .slice y'.a4 o.to.length y'.c4, .int .i64 o.td, .string ⟨#[]⟩, .int .i64 0, .int .i64 R.dv, .int .i64 R.p, .int .i64 R.q, .int .i64 R.g, .int .i64 R.op, .int .i64 R.is, .int .i64 R.ve, .slice h'.a R.ol.length h'.c, .slice h'.b R.sl.length h'.d, .int .i64 0, .slice none 0 0, .slice none 0 0] 40)).cell? ⟨w.heap.size + 1, 3, none⟩ = some (.slice x'.a3 o.od.length x'.c3) := cell_at k1 3
  have c19 : ((w.alloc (.cells #[.slice x.a0 o.ln.length x.c0, .slice x.a1 o.ta.length x.c1, .slice x.a2 o.ho.length x.c2, .slice x.a3 o.od.length x.c3, .slice x.a4 o.to.length x.c4, .int .i64 o.td, .slice y.a0 o.ln.length y.c0, .slice y.a1 o.ta.length y.c1, .slice y.a2 o.ho.length y.c2, .slice y.a3 o.od.length y.c3, .slice y.a4 o.to.length y.c4, .int .i64 o.td, .string ⟨#[]⟩, .int .i64 0, .int .i64 R.dv, .int .i64 R.p, .int .i64 R.q, .int .i64 R.g, .int .i64 R.op, .int .i64 R.is, .int .i64 R.ve, .slice h.a R.ol.length h.c, .slice h.b R.sl.length h.d, .int .i64 0, .slice none 0 0, .slice none 0 0] 40)).alloc (.cells #[.slice x'.a0 o.ln.length x'.c0, .slice x'.a1 o.ta.length x'.c1, .slice x'.a2 o.ho.length x'.c2, .slice x'.a3 o.od.length x'.c3, .slice x'.a4 o.to.length x'.c4, .int .i64 o.td, .slice y'.a0 o.ln.length y'.c0, .slice y'.a1 o.ta.length y'.c1, .slice y'.a2 o.ho.length y'.c2, .slice y'.a3 o.od.length y'.c3, .slice y'.a4 o.to.length y'.c4, .int .i64 o.td, .string ⟨#[]⟩, .int .i64 0, .int .i64 R.dv, .int .i64 R.p, .int .i64 R.q, .int .i64 R.g, .int .i64 R.op, .int .i64 R.is, .int .i64 R.ve, .slice h'.a R.ol.length h'.c, .slice h'.b R.sl.length h'.d, .int .i64 0, .slice none 0 0, .slice none 0 0] 40)).cell? ⟨w.heap.size + 1, 4, none⟩ = some (.slice x'.a4 o.to.length x'.c4) := cell_at k1 4
  have c20 : ((w.alloc (.cells #[.slice x.a0 o.ln.length x.c0, .slice x.a1 o.ta.length x.c1, .slice x.a2 o.ho.length x.c2, .slice x.a3 o.od.length x.c3, .slice x.a4 o.to.length x.c4, .int .i64 o.td, .slice y.a0 o.ln.length y.c0, .slice y.a1 o.ta.length y.c1, .slice y.a2 o.ho.length y.c2, .slice y.a3 o.od.length y.c3, .slice y.a4 o.to.length y.c4, .int .i64 o.td, .string ⟨#[]⟩, .int .i64 0, .int .i64 R.dv, .int .i64 R.p, .int .i64 R.q, .int .i64 R.g, .int .i64 R.op, .int .i64 R.is, .int .i64 R.ve, .slice h.a R.ol.length h.c, .slice h.b R.sl.length h.d, .int .i64 0, .slice none 0 0, .slice none 0 0] 40)).alloc (.cells #[.slice x'.a0 o.ln.length x'.c0, .slice x'.a1 o.ta.length x'.c1, .slice x'.a2 o.ho.length x'.c2, .slice x'.a3 o.od.length x'.c3, .slice x'.a4 o.to.length x'.c4, .int .i64 o.td, .slice y'.a0 o.ln.length y'.c0, .slice y'.a1 o.ta.length y'.c1, .slice y'.a2 o.ho.length y'.c2, .slice y'.a3 o.od.length y'.c3, .slice y'.a4 o.to.length y'.c4, .int .i64 o.td, .string ⟨#[]⟩, .int .i64 0, .int .i64 R.dv, .int .i64 R.p, .int .i64 R.q, .int .i64 R.g, .int .i64 R.op, .int .i64 R.is, .int .i64 R.ve, .slice h'.a R.ol.length h'.c, .slice h'.b R.sl.length h'.d, .int .i64 0, .slice none 0 0, .slice none 0 0] 40)).cell? ⟨w.heap.size + 1, 5, none⟩ = some (.int .i64 o.td) := cell_at k1 5
  have c21 : ((w.alloc (.cells #[.slice x.a0 o.ln.length x.c0, .slice x.a1 o.ta.length x.c1, .slice x.a2 o.ho.length x.c2, .slice x.a3 o.od.length x.c3, .slice x.a4 o.to.length x.c4, .int .i64 o.td, .slice y.a0 o.ln.length y.c0, .slice y.a1 o.ta.length y.c1, .slice y.a2 o.ho.length y.c2, .slice y.a3 o.od.length y.c3, .slice y.a4 o.to.length y.c4, .int .i64 o.td, .string ⟨#[]⟩, .int .i64 0, .int .i64 R.dv, .int .i64 R.p, .int .i64 R.q, .int .i64 R.g, .int .i64 R.op, .int .i64 R.is, .int .i64 R.ve, .slice h.a R.ol.length h.c, .slice h.b R.sl.length h.d, .int .i64 0, .slice none 0 0, .slice none 0 0] 40)).alloc (.cells #[.slice x'.a0 o.ln.length x'.c0, .slice x'.a1 o.ta.length x'.c1, .slice x'.a2 o.ho.length x'.c2, .slice x'.a3 o.od.length x'.c3, .slice x'.a4 o.to.length x'.c4, .int .i64 o.td, .slice y'.a0 o.ln.length y'.c0, .slice y'.a1 o.ta.length y'.c1, .slice y'.a2 o.ho.length y'.c2, .slice y'.a3 o.od.length y'.c3, .slice y'.a4 o.to.length y'.c4, .int .i64 o.td, .string ⟨#[]⟩, .int .i64 0, .int .i64 R.dv, .int .i64 R.p, .int .i64 R.q, .int .i64 R.g, .int .i64 R.op, .int .i64 R.is, .int .i64 R.ve, .slice h'.a R.ol.length h'.c, .slice h'.b R.sl.length h'.d, .int .i64 0, .slice none 0 0, .slice none 0 0] 40)).cell? ⟨w.heap.size + 1, 6, none⟩ = some (.slice y'.a0 o.ln.length y'.c0) := cell_at k1 6
  have c22 : ((w.alloc (.cells #[.slice x.a0 o.ln.length x.c0, .slice x.a1 o.ta.length x.c1, .slice x.a2 o.ho.length x.c2, .slice x.a3 o.od.length x.c3, .slice x.a4 o.to.length x.c4, .int .i64 o.td, .slice y.a0 o.ln.length y.c0, .slice y.a1 o.ta.length y.c1, .slice y.a2 o.ho.length y.c2, .slice y.a3 o.od.length y.c3, .slice y.a4 o.to.length y.c4, .int .i64 o.td, .string ⟨#[]⟩, .int .i64 0, .int .i64 R.dv, .int .i64 R.p, .int .i64 R.q, .int .i64 R.g, .int .i64 R.op, .int .i64 R.is, .int .i64 R.ve, .slice h.a R.ol.length h.c, .slice h.b R.sl.length h.d, .int .i64 0, .slice none 0 0, .slice none 0 0] 40)).alloc (.cells #[.slice x'.a0 o.ln.length x'.c0, .slice x'.a1 o.ta.length x'.c1, .slice x'.a2 o.ho.length x'.c2, .slice x'.a3 o.od.length x'.c3, .slice x'.a4 o.to.length x'.c4, .int .i64 o.td, .slice y'.a0 o.ln.length y'.c0, .slice y'.a1 o.ta.length y'.c1, .slice y'.a2 o.ho.length y'.c2, .slice y'.a3 o.od.length y'.c3, .slice y'.a4 o.to.length y'.c4, .int .i64 o.td, .string ⟨#[]⟩, .int .i64 0, .int .i64 R.dv, .int .i64 R.p, .int .i64 R.q, .int .i64 R.g, .int .i64 R.op, .int .i64 R.is, .int .i64 R.ve, .slice h'.a R.ol.length h'.c, .slice h'.b R.sl.length h'.d, .int .i64 0, .slice none 0 0, .slice none 0 0] 40)).cell? ⟨w.heap.size + 1, 7, none⟩ = some (.slice y'.a1 o.ta.length y'.c1) := cell_at k1 7
  have c23 : ((w.alloc (.cells #[.slice x.a0 o.ln.length x.c0, .slice x.a1 o.ta.length x.c1, .slice x.a2 o.ho.length x.c2, .slice x.a3 o.od.length x.c3, .slice x.a4 o.to.length x.c4, .int .i64 o.td, .slice y.a0 o.ln.length y.c0, .slice y.a1 o.ta.length y.c1, .slice y.a2 o.ho.length y.c2, .slice y.a3 o.od.length y.c3, .slice y.a4 o.to.length y.c4, .int .i64 o.td, .string ⟨#[]⟩, .int .i64 0, .int .i64 R.dv, .int .i64 R.p, .int .i64 R.q, .int .i64 R.g, .int .i64 R.op, .int .i64 R.is, .int .i64 R.ve, .slice h.a R.ol.length h.c, .slice h.b R.sl.length h.d, .int .i64 0, .slice none 0 0, .slice none 0 0] 40)).alloc (.cells #[.slice x'.a0 o.ln.length x'.c0, .slice x'.a1 o.ta.length x'.c1, .slice x'.a2 o.ho.length x'.c2, .slice x'.a3 o.od.length x'.c3, .slice x'.a4 o.to.length x'.c4, .int .i64 o.td, .slice y'.a0 o.ln.length y'.c0, .slice y'.a1 o.ta.length y'.c1, .slice y'.a2 o.ho.length y'.c2, .slice y'.a3 o.od.length y'.c3, .slice y'.a4 o.to.length y'.c4, .int .i64 o.td, .string ⟨#[]⟩, .int .i64 0, .int .i64 R.dv, .int .i64 R.p, .int .i64 R.q, .int .i64 R.g, .int .i64 R.op, .int .i64 R.is, .int .i64 R.ve, .slice h'.a R.ol.length h'.c, .slice h'.b R.sl.length h'.d, .int .i64 0, .slice none 0 0, .slice none 0 0] 40)).cell? ⟨w.heap.size + 1, 8, none⟩ = some (.slice y'.a2 o.ho.length y'.c2) := cell_at k1 8
  have c24 : ((w.alloc (.cells #[.slice x.a0 o.ln.length x.c0, .slice x.a1 o.ta.length x.c1, .slice x.a2 o.ho.length x.c2, .slice x.a3 o.od.length x.c3, .slice x.a4 o.to.length x.c4, .int .i64 o.td, .slice y.a0 o.ln.length y.c0, .slice y.a1 o.ta.length y.c1, .slice y.a2 o.ho.length y.c2, .slice y.a3 o.od.length y.c3, .slice y.a4 o.to.length y.c4, .int .i64 o.td, .string ⟨#[]⟩, .int .i64 0, .int .i64 R.dv, .int .i64 R.p, .int .i64 R.q, .int .i64 R.g, .int .i64 R.op, .int .i64 R.is, .int .i64 R.ve, .slice h.a R.ol.length h.c, .slice h.b R.sl.length h.d, .int .i64 0, .slice none 0 0, .slice none 0 0] 40)).alloc (.cells #[.slice x'.a0 o.ln.length x'.c0, .slice x'.a1 o.ta.length x'.c1, .slice x'.a2 o.ho.length x'.c2, .slice x'.a3 o.od.length x'.c3, .slice x'.a4 o.to.length x'.c4, .int .i64 o.td, .slice y'.a0 o.ln.length y'.c0, .slice y'.a1 o.ta.length y'.c1, .slice y'.a2 o.ho.length y'.c2, .slice y'.a3 o.od.length y'.c3, .slice y'.a4 o.to.length y'.c4, .int .i64 o.td, .string ⟨#[]⟩, .int .i64 0, .int .i64 R.dv, .int .i64 R.p, .int .i64 R.q, .int .i64 R.g, .int .i64 R.op, .int .i64 R.is, .int .i64 R.ve, .slice h'.a R.ol.length h'.c, .slice h'.b R.sl.length h'.d, .int .i64 0, .slice none 0 0, .slice none 0 0] 40)).cell? ⟨w.heap.size + 1, 9, none⟩ = some (.slice y'.a3 o.od.length y'.c3) := cell_at k1 9
  have c25 : ((w.alloc (.cells #[.slice x.a0 o.ln.length x.c0, .slice x.a1 o.ta.length x.c1, .slice x.a2 o.ho.length x.c2, .slice x.a3 o.od.length x.c3, .slice x.a4 o.to.length x.c4, .int .i64 o.td, .slice y.a0 o.ln.length y.c0, .slice y.a1 o.ta.length y.c1, .slice y.a2 o.ho.length y.c2, .slice y.a3 o.od.length y.c3, .slice y.a4 o.to.length y.c4, .int .i64 o.td, .string ⟨#[]⟩, .int .i64 0, .int .i64 R.dv, .int .i64 R.p, .int .i64 R.q, .int .i64 R.g, .int .i64 R.op, .int .i64 R.is, .int .i64 R.ve, .slice h.a R.ol.length h.c, .slice h.b R.sl.length h.d, .int .i64 0, .slice none 0 0, .slice none 0 0] 40)).alloc (.cells #[.slice x'.a0 o.ln.length x'.c0, .slice x'.a1 o.ta.length x'.c1, .slice x'.a2 o.ho.length x'.c2, .slice x'.a3 o.od.length x'.c3, .slice x'.a4 o.to.length x'.c4, .int .i64 o.td, .slice y'.a0 o.ln.length y'.c0, .slice y'.a1 o.ta.length y'.c1, .slice y'.a2 o.ho.length y'.c2, .slice y'.a3 o.od.length y'.c3, .slice y'.a4 o.to.length y'.c4, .int .i64 o.td, .string ⟨#[]⟩, .int .i64 0, .int .i64 R.dv, .int .i64 R.p, .int .i64 R.q, .int .i64 R.g, .int .i64 R.op, .int .i64 R.is, .int .i64 R.ve, .slice h'.a R.ol.length h'.c, .slice h'.b R.sl.length h'.d, .int .i64 0, .slice none 0 0, .slice none 0 0] 40)).cell? ⟨w.heap.size + 1, 10, none⟩ = some (.slice y'.a4 o.to.length y'.c4) := cell_at k1 10
  have c26 : ((w.alloc (.cells #[.slice x.a0 o.ln.length x.c0, .slice x.a1 o.ta.length x.c1, .slice x.a2 o.ho.length x.c2, .slice x.a3 o.od.length x.c3, .slice x.a4 o.to.length x.c4, .int .i64 o.td, .slice y.a0 o.ln.length y.c0, .slice y.a1 o.ta.length y.c1, .slice y.a2 o.ho.length y.c2, .slice y.a3 o.od.length y.c3, .slice y.a4 o.to.length y.c4, .int .i64 o.td, .string ⟨#[]⟩, .int .i64 0, .int .i64 R.dv, .int .i64 R.p, .int .i64 R.q, .int .i64 R.g, .int .i64 R.op, .int .i64 R.is, .int .i64 R.ve, .slice h.a R.ol.length h.c, .slice h.b R.sl.length h.d, .int .i64 0, .slice none 0 0, .slice none 0 0] 40)).alloc (.cells #[.slice x'.a0 o.ln.length x'.c0, .slice x'.a1 o.ta.length x'.c1, .slice x'.a2 o.ho.length x'.c2, .slice x'.a3 o.od.length x'.c3, .slice x'.a4 o.to.length x'.c4, .int .i64 o.td, .slice y'.a0 o.ln.length y'.c0, .slice y'.a1 o.ta.length y'.c1, .slice y'.a2 o.ho.length y'.c2, .slice y'.a3 o.od.length y'.c3, .slice y'.a4 o.to.length y'.c4, .int .i64 o.td, .string ⟨#[]⟩, .int .i64 0, .int .i64 R.dv, .int .i64 R.p, .int .i64 R.q, .int .i64 R.g, .int .i64 R.op, .int .i64 R.is, .int .i64 R.ve, .slice h'.a R.ol.length h'.c, .slice h'.b R.sl.length h'.d, .int .i64 0, .slice none 0 0, .slice none 0 0] 40)).cell? ⟨w.heap.size + 1, 11, none⟩ = some (.int .i64 o.td) := cell_at k1 11
  have c27 : ((w.alloc (.cells #[.slice x.a0 o.ln.length x.c0, .slice x.a1 o.ta.length x.c1, .slice x.a2 o.ho.length x.c2, .slice x.a3 o.od.length x.c3, .slice x.a4 o.to.length x.c4, .int .i64 o.td, .slice y.a0 o.ln.length y.c0, .slice y.a1 o.ta.length y.c1, .slice y.a2 o.ho.length y.c2, .slice y.a3 o.od.length y.c3, .slice y.a4 o.to.length y.c4, .int .i64 o.td, .string ⟨#[]⟩, .int .i64 0, .int .i64 R.dv, .int .i64 R.p, .int .i64 R.q, .int .i64 R.g, .int .i64 R.op, .int .i64 R.is, .int .i64 R.ve, .slice h.a R.ol.length h.c, .slice h.b R.sl.length h.d, .int .i64 0, .slice none 0 0, .slice none 0 0] 40)).alloc (.cells #[.slice x'.a0 o.ln.length x'.c0, .slice x'.a1 o.ta.length x'.c1, .slice x'.a2 o.ho.length x'.c2, .slice x'.a3 o.od.length x'.c3, .slice x'.a4 o.to.length x'.c4, .int .i64 o.td, .slice y'.a0 o.ln.length y'.c0, .slice y'.a1 o.ta.length y'.c1, .slice y'.a2 o.ho.length y'.c2, .slice y'.a3 o.od.length y'.c3, .slice y'.a4 o.to.length y'.c4, .int .i64 o.td, .string ⟨#[]⟩, .int .i64 0, .int .i64 R.dv, .int .i64 R.p, .int .i64 R.q, .int .i64 R.g, .int .i64 R.op, .int .i64 R.is, .int .i64 R.ve, .slice h'.a R.ol.length h'.c, .slice h'.b R.sl.length h'.d, .int .i64 0, .slice none 0 0, .slice none 0 0] 40)).cell? ⟨w.heap.size + 1, 12, none⟩ = some (.string ⟨#[]⟩) := cell_at k1 12
  have c28 : ((w.alloc (.cells #[.slice x.a0 o.ln.length x.c0, .slice x.a1 o.ta.length x.c1, .slice x.a2 o.ho.length x.c2, .slice x.a3 o.od.length x.c3, .slice x.a4 o.to.length x.c4, .int .i64 o.td, .slice y.a0 o.ln.length y.c0, .slice y.a1 o.ta.length y.c1, .slice y.a2 o.ho.length y.c2, .slice y.a3 o.od.length y.c3, .slice y.a4 o.to.length y.c4, .int .i64 o.td, .string ⟨#[]⟩, .int .i64 0, .int .i64 R.dv, .int .i64 R.p, .int .i64 R.q, .int .i64 R.g, .int .i64 R.op, .int .i64 R.is, .int .i64 R.ve, .slice h.a R.ol.length h.c, .slice h.b R.sl.length h.d, .int .i64 0, .slice none 0 0, .slice none 0 0] 40)).alloc (.cells #[.slice x'.a0 o.ln.length x'.c0, .slice x'.a1 o.ta.length x'.c1, .slice x'.a2 o.ho.length x'.c2, .slice x'.a3 o.od.length x'.c3, .slice x'.a4 o.to.length x'.c4, .int .i64 o.td, .slice y'.a0 o.ln.length y'.c0, .slice y'.a1 o.ta.length y'.c1, .slice y'.a2 o.ho.length y'.c2, .slice y'.a3 o.od.length y'.c3, .slice y'.a4 o.to.length y'.c4, .int .i64 o.td, .string ⟨#[]⟩, .int .i64 0, .int .i64 R.dv, .int .i64 R.p, .int .i64 R.q, .int .i64 R.g, .int .i64 R.op, .int .i64 R.is, .int .i64 R.ve, .slice h'.a R.ol.length h'.c, .slice h'.b R.sl.length h'.d, .int .i64 0, .slice none 0 0, .slice none 0 0] 40)).cell? ⟨w.heap.size + 1, 13, none⟩ = some (.int .i64 0) := cell_at k1 13
  go_wp2_with fail
  refine (HI.out _ N).mono ?_
  clear c1 c2 c3 c4 c5 c6 c7 c8 c9 c10 c11 c12 c13 c14 c15 c16 c17 c18 c19 c20 c21 c22 c23 c24 c25 c26 c27 c28
  generalize ((w.alloc (.cells #[.slice x.a0 o.ln.length x.c0, .slice x.a1 o.ta.length x.c1, .slice x.a2 o.ho.length x.c2, .slice x.a3 o.od.length x.c3, .slice x.a4 o.to.length x.c4, .int .i64 o.td, .slice y.a0 o.ln.length y.c0, .slice y.a1 o.ta.length y.c1, .slice y.a2 o.ho.length y.c2, .slice y.a3 o.od.length y.c3, .slice y.a4 o.to.length y.c4, .int .i64 o.td, .string ⟨#[]⟩, .int .i64 0, .int .i64 R.dv, .int .i64 R.p, .int .i64 R.q, .int .i64 R.g, .int .i64 R.op, .int .i64 R.is, .int .i64 R.ve, .slice h.a R.ol.length h.c, .slice h.b R.sl.length h.d, .int .i64 0, .slice none 0 0, .slice none 0 0] 40)).alloc (.cells #[.slice x'.a0 o.ln.length x'.c0, .slice x'.a1 o.ta.length x'.c1, .slice x'.a2 o.ho.length x'.c2, .slice x'.a3 o.od.length x'.c3, .slice x'.a4 o.to.length x'.c4, .int .i64 o.td, .slice y'.a0 o.ln.length y'.c0, .slice y'.a1 o.ta.length y'.c1, .slice y'.a2 o.ho.length y'.c2, .slice y'.a3 o.od.length y'.c3, .slice y'.a4 o.to.length y'.c4, .int .i64 o.td, .string ⟨#[]⟩, .int .i64 0, .int .i64 R.dv, .int .i64 R.p, .int .i64 R.q, .int .i64 R.g, .int .i64 R.op, .int .i64 R.is, .int .i64 R.ve, .slice h'.a R.ol.length h'.c, .slice h'.b R.sl.length h'.d, .int .i64 0, .slice none 0 0, .slice none 0 0] 40)) = v0 at *
  rintro e v1 ⟨rfl, Lv1⟩
  have m29 := Pk.kept Lv1 (Pk.lt_of k0) k0
  clear k0
  have m30 := Pk.kept Lv1 (Pk.lt_of k1) k1
  clear k1
  have L31 := Pk.join_below N Lv1
  clear N
  have hs32 : v0.heap.size ≤ v1.heap.size := Lv1.size
  have c33 : v1.cell? ⟨w.heap.size, 14, none⟩ = some (.int .i64 R.dv) := cell_at m29 14
  have c34 : v1.cell? ⟨w.heap.size, 15, none⟩ = some (.int .i64 R.p) := cell_at m29 15
  have c35 : v1.cell? ⟨w.heap.size, 16, none⟩ = some (.int .i64 R.q) := cell_at m29 16
  have c36 : v1.cell? ⟨w.heap.size, 17, none⟩ = some (.int .i64 R.g) := cell_at m29 17
  have c37 : v1.cell? ⟨w.heap.size, 18, none⟩ = some (.int .i64 R.op) := cell_at m29 18
  have c38 : v1.cell? ⟨w.heap.size, 19, none⟩ = some (.int .i64 R.is) := cell_at m29 19
  have c39 : v1.cell? ⟨w.heap.size, 20, none⟩ = some (.int .i64 R.ve) := cell_at m29 20
  have c40 : v1.cell? ⟨w.heap.size, 21, none⟩ = some (.slice h.a R.ol.length h.c) := cell_at m29 21
  have c41 : v1.cell? ⟨w.heap.size, 22, none⟩ = some (.slice h.b R.sl.length h.d) := cell_at m29 22
  have c42 : v1.cell? ⟨w.heap.size + 1, 14, none⟩ = some (.int .i64 R.dv) := cell_at m30 14
  have c43 : v1.cell? ⟨w.heap.size + 1, 15, none⟩ = some (.int .i64 R.p) := cell_at m30 15
  have c44 : v1.cell? ⟨w.heap.size + 1, 16, none⟩ = some (.int .i64 R.q) := cell_at m30 16
  have c45 : v1.cell? ⟨w.heap.size + 1, 17, none⟩ = some (.int .i64 R.g) := cell_at m30 17
  have c46 : v1.cell? ⟨w.heap.size + 1, 18, none⟩ = some (.int .i64 R.op) := cell_at m30 18
  have c47 : v1.cell? ⟨w.heap.size + 1, 19, none⟩ = some (.int .i64 R.is) := cell_at m30 19
  have c48 : v1.cell? ⟨w.heap.size + 1, 20, none⟩ = some (.int .i64 R.ve) := cell_at m30 20
  have c49 : v1.cell? ⟨w.heap.size + 1, 21, none⟩ = some (.slice h'.a R.ol.length h'.c) := cell_at m30 21
  have c50 : v1.cell? ⟨w.heap.size + 1, 22, none⟩ = some (.slice h'.b R.sl.length h'.d) := cell_at m30 22
  go_wp2_with fail
  refine (HJ.out _ L31).mono ?_
  clear c33 c34 c35 c36 c37 c38 c39 c40 c41 c42 c43 c44 c45 c46 c47 c48 c49 c50
  rintro e v2 ⟨rfl, Lv2⟩
  have m51 := Pk.kept Lv2 (Pk.lt_of m29) m29
  clear m29
  have m52 := Pk.kept Lv2 (Pk.lt_of m30) m30
  clear m30
  have L53 := Pk.join_below L31 Lv2
  clear L31
  have hs54 : v1.heap.size ≤ v2.heap.size := Lv2.size
  have c55 : v2.cell? ⟨w.heap.size, 23, none⟩ = some (.int .i64 0) := cell_at m51 23
  have c56 : v2.cell? ⟨w.heap.size, 24, none⟩ = some (.slice none 0 0) := cell_at m51 24
  have c57 : v2.cell? ⟨w.heap.size, 25, none⟩ = some (.slice none 0 0) := cell_at m51 25
  have c58 : v2.cell? ⟨w.heap.size + 1, 23, none⟩ = some (.int .i64 0) := cell_at m52 23
  have c59 : v2.cell? ⟨w.heap.size + 1, 24, none⟩ = some (.slice none 0 0) := cell_at m52 24
  have c60 : v2.cell? ⟨w.heap.size + 1, 25, none⟩ = some (.slice none 0 0) := cell_at m52 25
  go_wp2_with fail
  refine (HC.out _).mono ?_
  clear c55 c56 c57 c58 c59 c60
  rintro e v3 ⟨rfl, Lv3⟩
  have m61 := Pk.kept Lv3 (Pk.lt_of m51) m51
  clear m51
  have m62 := Pk.kept Lv3 (Pk.lt_of m52) m52
  clear m52
  have L63 := Pk.join_below L53 Lv3
  clear L53
  have hs64 : v2.heap.size ≤ v3.heap.size := Lv3.size
  go_wp2
  go_ret
  exact ⟨rfl, L63⟩

end Dk
end Go.Proofs.YtmoinacceildcaaGreatDoor

/- A booth that begins, marked and held. -/
namespace Go.Proofs.YtmoinacceildcaaGreatDoor
namespace Dk
open Go.ChangeShapes Go.WideShapes Go.ChangeAt Go.RowKit
open Pk (new_below join_below cell_at heap_new frozen_at lt_of kept heap_old info_of Room own_form)
open Of (Kp put6 put6_below St Et Lw opened_val closed_val copyS_val nil_row edges_cells snap snap_len snap_get snap_one snap_at own_g et_mk h_set h_other Offc Pl ofV In)
open Tn (Tr Trains)
open Tf (Ed Edges)
set_option linter.unusedSimpArgs false
set_option linter.unusedVariables false

open Of (Kh Lm off off_bd OM markOffice_val heldOffice_val)
open Tn (Band)

theorem markIntS_nil (z : Int) (w : World) :
    Calls Tryz.prog 55 #[.slice none 0 0, .int .i64 z] w fun e w' => e = .returned (.int .i64 z) ∧ w' = w := by
  go_enter Tryz.func55, Tryz.ntmps55
  go_wp2
  go_loopw [1, 5] (fun t i wr => t = .int .i64 z ∧ i = .int .i64 0 ∧ w = wr) (fun _ _ _ => 0)
  case atStart => exact ⟨rfl, rfl, rfl⟩
  case round =>
    obtain ⟨rfl, rfl, hw⟩ := hrel
    subst hw
    go_wp2
    go_ret
    exact ⟨rfl, rfl⟩

theorem heldIntS_nil (z : Int) (w : World) :
    Calls Tryz.prog 58 #[.slice none 0 0, .int .i64 z] w fun e w' => e = .returned (.int .i64 z) ∧ w' = w := by
  go_enter Tryz.func58, Tryz.ntmps58
  go_wp2
  go_loopw [1, 5] (fun t i wr => t = .int .i64 z ∧ i = .int .i64 0 ∧ w = wr) (fun _ _ _ => 0)
  case atStart => exact ⟨rfl, rfl, rfl⟩
  case round =>
    obtain ⟨rfl, rfl, hw⟩ := hrel
    subst hw
    go_wp2
    go_ret
    exact ⟨rfl, rfl⟩

theorem markControlS_nil (z : Int) (w : World) :
    Calls Tryz.prog 56 #[.slice none 0 0, .int .i64 z] w fun e w' => e = .returned (.int .i64 z) ∧ w' = w := by
  go_enter Tryz.func56, Tryz.ntmps56
  go_wp2
  go_loopw [1, 5] (fun t i wr => t = .int .i64 z ∧ i = .int .i64 0 ∧ w = wr) (fun _ _ _ => 0)
  case atStart => exact ⟨rfl, rfl, rfl⟩
  case round =>
    obtain ⟨rfl, rfl, hw⟩ := hrel
    subst hw
    go_wp2
    go_ret
    exact ⟨rfl, rfl⟩

theorem heldControlS_nil (z : Int) (w : World) :
    Calls Tryz.prog 59 #[.slice none 0 0, .int .i64 z] w fun e w' => e = .returned (.int .i64 z) ∧ w' = w := by
  go_enter Tryz.func59, Tryz.ntmps59
  go_wp2
  go_loopw [1, 5] (fun t i wr => t = .int .i64 z ∧ i = .int .i64 0 ∧ w = wr) (fun _ _ _ => 0)
  case atStart => exact ⟨rfl, rfl, rfl⟩
  case round =>
    obtain ⟨rfl, rfl, hw⟩ := hrel
    subst hw
    go_wp2
    go_ret
    exact ⟨rfl, rfl⟩

theorem markHand_nil (dv p q g op is ve : Int) (z : Int) (hz : 0 ≤ z) (w : World) :
    Calls Tryz.prog 25 #[.agg #[.int .i64 dv, .int .i64 p, .int .i64 q, .int .i64 g, .int .i64 op, .int .i64 is, .int .i64 ve, .slice none 0 0, .slice none 0 0], .int .i64 z] w fun e w' => e = .returned (.int .i64 z) ∧ Below w.heap.size w w' := by
  have N := new_below w (.cells #[.int .i64 dv, .int .i64 p, .int .i64 q, .int .i64 g, .int .i64 op, .int .i64 is, .int .i64 ve, .slice none 0 0, .slice none 0 0] 36)
  have k0 := heap_new w (.cells #[.int .i64 dv, .int .i64 p, .int .i64 q, .int .i64 g, .int .i64 op, .int .i64 is, .int .i64 ve, .slice none 0 0, .slice none 0 0] 36)
  have hd : decide (z < 0) = false := decide_eq_false (by omega)
  have HI : Hid (∀ W : World, _) := fun W => markIntS_nil z W
  have HC : Hid (∀ W : World, _) := fun W => markControlS_nil z W
  have c1 : (w.alloc (.cells #[.int .i64 dv, .int .i64 p, .int .i64 q, .int .i64 g, .int .i64 op, .int .i64 is, .int .i64 ve, .slice none 0 0, .slice none 0 0] 36)).cell? ⟨w.heap.size, 7, none⟩ = some (.slice none 0 0) := cell_at k0 7
  have c2 : (w.alloc (.cells #[.int .i64 dv, .int .i64 p, .int .i64 q, .int .i64 g, .int .i64 op, .int .i64 is, .int .i64 ve, .slice none 0 0, .slice none 0 0] 36)).cell? ⟨w.heap.size, 8, none⟩ = some (.slice none 0 0) := cell_at k0 8
  go_enter Tryz.func25, Tryz.ntmps25
  go_wp2_with fail
  refine (HI.out _).mono ?_
  generalize (w.alloc (.cells #[.int .i64 dv, .int .i64 p, .int .i64 q, .int .i64 g, .int .i64 op, .int .i64 is, .int .i64 ve, .slice none 0 0, .slice none 0 0] 36)) = v0 at *
  rintro e v1 ⟨rfl, hv⟩
  have hv1 := hv.symm
  clear hv
  subst hv1
  go_wp2_with fail
  refine (HC.out _).mono ?_
  rintro e v2 ⟨rfl, hv⟩
  have hv1 := hv.symm
  clear hv
  subst hv1
  go_wp2
  go_ret
  exact ⟨rfl, N⟩

theorem heldHand_nil (dv p q g op is ve : Int) (z : Int) (hz : 0 ≤ z) (w : World) :
    Calls Tryz.prog 28 #[.agg #[.int .i64 dv, .int .i64 p, .int .i64 q, .int .i64 g, .int .i64 op, .int .i64 is, .int .i64 ve, .slice none 0 0, .slice none 0 0], .int .i64 z] w fun e w' => e = .returned (.int .i64 z) ∧ Below w.heap.size w w' := by
  have N := new_below w (.cells #[.int .i64 dv, .int .i64 p, .int .i64 q, .int .i64 g, .int .i64 op, .int .i64 is, .int .i64 ve, .slice none 0 0, .slice none 0 0] 36)
  have k0 := heap_new w (.cells #[.int .i64 dv, .int .i64 p, .int .i64 q, .int .i64 g, .int .i64 op, .int .i64 is, .int .i64 ve, .slice none 0 0, .slice none 0 0] 36)
  have hd : decide (z < 0) = false := decide_eq_false (by omega)
  have HI : Hid (∀ W : World, _) := fun W => heldIntS_nil z W
  have HC : Hid (∀ W : World, _) := fun W => heldControlS_nil z W
  have c1 : (w.alloc (.cells #[.int .i64 dv, .int .i64 p, .int .i64 q, .int .i64 g, .int .i64 op, .int .i64 is, .int .i64 ve, .slice none 0 0, .slice none 0 0] 36)).cell? ⟨w.heap.size, 7, none⟩ = some (.slice none 0 0) := cell_at k0 7
  have c2 : (w.alloc (.cells #[.int .i64 dv, .int .i64 p, .int .i64 q, .int .i64 g, .int .i64 op, .int .i64 is, .int .i64 ve, .slice none 0 0, .slice none 0 0] 36)).cell? ⟨w.heap.size, 8, none⟩ = some (.slice none 0 0) := cell_at k0 8
  go_enter Tryz.func28, Tryz.ntmps28
  go_wp2_with fail
  refine (HI.out _).mono ?_
  generalize (w.alloc (.cells #[.int .i64 dv, .int .i64 p, .int .i64 q, .int .i64 g, .int .i64 op, .int .i64 is, .int .i64 ve, .slice none 0 0, .slice none 0 0] 36)) = v0 at *
  rintro e v1 ⟨rfl, hv⟩
  have hv1 := hv.symm
  clear hv
  subst hv1
  go_wp2_with fail
  refine (HC.out _).mono ?_
  rintro e v2 ⟨rfl, hv⟩
  have hv1 := hv.symm
  clear hv
  subst hv1
  go_wp2
  go_ret
  exact ⟨rfl, N⟩

theorem markCentre_nil (z : Int) (hz : 0 ≤ z) (w : World) :
    Calls Tryz.prog 26 #[.agg #[.int .i64 0, .slice none 0 0, .slice none 0 0], .int .i64 z] w fun e w' => e = .returned (.int .i64 z) ∧ Below w.heap.size w w' := by
  have N := new_below w (.cells #[.int .i64 0, .slice none 0 0, .slice none 0 0] 38)
  have k0 := heap_new w (.cells #[.int .i64 0, .slice none 0 0, .slice none 0 0] 38)
  have hd : decide (z < 0) = false := decide_eq_false (by omega)
  have HI : Hid (∀ W : World, _) := fun W => markIntS_nil z W
  have HC : Hid (∀ W : World, _) := fun W => markControlS_nil z W
  have c1 : (w.alloc (.cells #[.int .i64 0, .slice none 0 0, .slice none 0 0] 38)).cell? ⟨w.heap.size, 1, none⟩ = some (.slice none 0 0) := cell_at k0 1
  have c2 : (w.alloc (.cells #[.int .i64 0, .slice none 0 0, .slice none 0 0] 38)).cell? ⟨w.heap.size, 2, none⟩ = some (.slice none 0 0) := cell_at k0 2
  go_enter Tryz.func26, Tryz.ntmps26
  go_wp2_with fail
  refine (HI.out _).mono ?_
  generalize (w.alloc (.cells #[.int .i64 0, .slice none 0 0, .slice none 0 0] 38)) = v0 at *
  rintro e v1 ⟨rfl, hv⟩
  have hv1 := hv.symm
  clear hv
  subst hv1
  go_wp2_with fail
  refine (HC.out _).mono ?_
  rintro e v2 ⟨rfl, hv⟩
  have hv1 := hv.symm
  clear hv
  subst hv1
  go_wp2
  go_ret
  exact ⟨rfl, N⟩

theorem heldCentre_nil (z : Int) (hz : 0 ≤ z) (w : World) :
    Calls Tryz.prog 29 #[.agg #[.int .i64 0, .slice none 0 0, .slice none 0 0], .int .i64 z] w fun e w' => e = .returned (.int .i64 z) ∧ Below w.heap.size w w' := by
  have N := new_below w (.cells #[.int .i64 0, .slice none 0 0, .slice none 0 0] 38)
  have k0 := heap_new w (.cells #[.int .i64 0, .slice none 0 0, .slice none 0 0] 38)
  have hd : decide (z < 0) = false := decide_eq_false (by omega)
  have HI : Hid (∀ W : World, _) := fun W => heldIntS_nil z W
  have HC : Hid (∀ W : World, _) := fun W => heldControlS_nil z W
  have c1 : (w.alloc (.cells #[.int .i64 0, .slice none 0 0, .slice none 0 0] 38)).cell? ⟨w.heap.size, 1, none⟩ = some (.slice none 0 0) := cell_at k0 1
  have c2 : (w.alloc (.cells #[.int .i64 0, .slice none 0 0, .slice none 0 0] 38)).cell? ⟨w.heap.size, 2, none⟩ = some (.slice none 0 0) := cell_at k0 2
  go_enter Tryz.func29, Tryz.ntmps29
  go_wp2_with fail
  refine (HI.out _).mono ?_
  generalize (w.alloc (.cells #[.int .i64 0, .slice none 0 0, .slice none 0 0] 38)) = v0 at *
  rintro e v1 ⟨rfl, hv⟩
  have hv1 := hv.symm
  clear hv
  subst hv1
  go_wp2_with fail
  refine (HC.out _).mono ?_
  rintro e v2 ⟨rfl, hv⟩
  have hv1 := hv.symm
  clear hv
  subst hv1
  go_wp2
  go_ret
  exact ⟨rfl, N⟩

/-- All blocks but those from lo to hi stay. -/
structure Fr (lo hi : Nat) (w w' : World) : Prop where
  os : w'.os = w.os
  tape : w'.tape = w.tape
  output : w'.output = w.output
  size : w.heap.size ≤ w'.heap.size
  block : ∀ b, b < w.heap.size → b < lo ∨ hi ≤ b → w'.heap[b]? = w.heap[b]?

theorem Fr.of {lo hi p q : Nat} {w W w' : World} (L : Below w.heap.size w W) (B : Band p q W w') (h1 : lo ≤ p) (h2 : q ≤ hi) : Fr lo hi w w' := ⟨B.os.trans L.os, B.tape.trans L.tape, B.output.trans L.output, by rw [B.size]; exact L.size, fun b h3 h4 => (B.block b (by omega)).trans (L.block b h3)⟩
theorem Fr.on {lo hi : Nat} {w w' : World} (L : Below w.heap.size w w') : Fr lo hi w w' := ⟨L.os, L.tape, L.output, L.size, fun b h3 _ => L.block b h3⟩
theorem Fr.trans {lo hi : Nat} {a b c : World} (h : Fr lo hi a b) (k : Fr lo hi b c) : Fr lo hi a c := ⟨k.os.trans h.os, k.tape.trans h.tape, k.output.trans h.output, Nat.le_trans h.size k.size, fun i h1 h2 => (k.block i (Nat.lt_of_lt_of_le h1 h.size) h2).trans (h.block i h1 h2)⟩
theorem Fr.below {lo hi B : Nat} {w0 w w' : World} (h : Fr lo hi w w') (L : Below B w0 w) (h1 : B ≤ lo) (h2 : B ≤ w.heap.size) : Below B w0 w' := L.trans ⟨h.os, h.tape, h.output, h.size, fun k hk => h.block k (Nat.lt_of_lt_of_le hk h2) (Or.inl (Nat.lt_of_lt_of_le hk h1))⟩
theorem Fr.kept {lo hi b : Nat} {w w' : World} {x : Obj} (h : Fr lo hi w w') (m : w.heap[b]? = some x) (hb : b < lo ∨ hi ≤ b) : w'.heap[b]? = some x := (h.block b (lt_of m) hb).trans m

set_option maxRecDepth 100000 in
set_option maxHeartbeats 4000000 in
theorem markPlat_val (z : Int) (hz : 0 ≤ z) (hz2 : z ≤ 1000000000) (lo mid hi : Nat) (a2 a3 b2 b3 : Option Addr) (ts : List Tr) (es : List Ed) (c2 c3 d2 d3 : Nat) (td : Int) (w : World) (hn : ts.length ≤ 40) (hs : ∀ i (h : i < ts.length), ts[i].l.length ≤ 20) (hm : es.length ≤ 1048576) (S1 : Sp w lo mid a2 a3 ts es) (S2 : Sp w mid hi b2 b3 ts es) :
    Calls Tryz.prog 24 #[.agg #[.slice a2 ts.length c2, .slice a3 es.length c3, .slice none 0 0, .slice none 0 0, .slice none 0 0, .int .i64 td, .slice b2 ts.length d2, .slice b3 es.length d3, .slice none 0 0, .slice none 0 0, .slice none 0 0, .int .i64 td, .string ⟨#[]⟩, .int .i64 0], .int .i64 z] w fun e w' => e = .returned (.int .i64 (Of.off (Of.off z ts ts.length + 3 * (es.length : Int)) ts ts.length + 3 * (es.length : Int))) ∧ (Of.OM z w' lo mid a2 a3 ts es ∧ Of.OM (Of.off z ts ts.length + 3 * (es.length : Int)) w' mid hi b2 b3 ts es) ∧ Fr lo hi w w' := by
  have N := new_below w (.cells #[.slice a2 ts.length c2, .slice a3 es.length c3, .slice none 0 0, .slice none 0 0, .slice none 0 0, .int .i64 td, .slice b2 ts.length d2, .slice b3 es.length d3, .slice none 0 0, .slice none 0 0, .slice none 0 0, .int .i64 td, .string ⟨#[]⟩, .int .i64 0] 30)
  have k0 := heap_new w (.cells #[.slice a2 ts.length c2, .slice a3 es.length c3, .slice none 0 0, .slice none 0 0, .slice none 0 0, .int .i64 td, .slice b2 ts.length d2, .slice b3 es.length d3, .slice none 0 0, .slice none 0 0, .slice none 0 0, .int .i64 td, .string ⟨#[]⟩, .int .i64 0] 30)
  have o1 := off_bd z ts hs ts.length (Nat.le_refl _)
  have o2 := off_bd (Of.off z ts ts.length + 3 * (es.length : Int)) ts hs ts.length (Nat.le_refl _)
  have T1 := S1.on N
  have T2 := S2.on N
  have hml : mid ≤ w.heap.size ∧ lo ≤ mid ∧ mid ≤ hi := by
    obtain ⟨x1, -, -, h1, h2, h3, -⟩ := S1
    obtain ⟨x2, -, -, g1, g2, g3, -⟩ := S2
    omega
  obtain ⟨hw, hlm, hmh⟩ := hml
  have H1 : Hid (∀ _ : Unit, _) := fun _ => by
    obtain ⟨m, gf, cf, h1, h2, h3, h4, h5, h6⟩ := T1
    exact markOffice_val z hz (by omega) lo a2 a3 ts es c2 c3 td (w.alloc (.cells #[.slice a2 ts.length c2, .slice a3 es.length c3, .slice none 0 0, .slice none 0 0, .slice none 0 0, .int .i64 td, .slice b2 ts.length d2, .slice b3 es.length d3, .slice none 0 0, .slice none 0 0, .slice none 0 0, .int .i64 td, .string ⟨#[]⟩, .int .i64 0] 30)) hn hs hm m mid gf cf h1 h2 h3 h6 h4 h5
  have H2 : Hid (∀ W1, Sp W1 mid hi b2 b3 ts es → _) := fun W1 T => by
    obtain ⟨m, gf, cf, h1, h2, h3, h4, h5, h6⟩ := T
    exact markOffice_val (Of.off z ts ts.length + 3 * (es.length : Int)) (by omega) (by omega) mid b2 b3 ts es d2 d3 td W1 hn hs hm m hi gf cf h1 h2 h3 h6 h4 h5
  clear S1 S2 T1 hs
  have kk0 : (w.alloc (.cells #[.slice a2 ts.length c2, .slice a3 es.length c3, .slice none 0 0, .slice none 0 0, .slice none 0 0, .int .i64 td, .slice b2 ts.length d2, .slice b3 es.length d3, .slice none 0 0, .slice none 0 0, .slice none 0 0, .int .i64 td, .string ⟨#[]⟩, .int .i64 0] 30)).cell? ⟨w.heap.size, 0, none⟩ = some (.slice a2 ts.length c2) := cell_at k0 0
  have kk1 : (w.alloc (.cells #[.slice a2 ts.length c2, .slice a3 es.length c3, .slice none 0 0, .slice none 0 0, .slice none 0 0, .int .i64 td, .slice b2 ts.length d2, .slice b3 es.length d3, .slice none 0 0, .slice none 0 0, .slice none 0 0, .int .i64 td, .string ⟨#[]⟩, .int .i64 0] 30)).cell? ⟨w.heap.size, 1, none⟩ = some (.slice a3 es.length c3) := cell_at k0 1
  have kk2 : (w.alloc (.cells #[.slice a2 ts.length c2, .slice a3 es.length c3, .slice none 0 0, .slice none 0 0, .slice none 0 0, .int .i64 td, .slice b2 ts.length d2, .slice b3 es.length d3, .slice none 0 0, .slice none 0 0, .slice none 0 0, .int .i64 td, .string ⟨#[]⟩, .int .i64 0] 30)).cell? ⟨w.heap.size, 2, none⟩ = some (.slice none 0 0) := cell_at k0 2
  have kk3 : (w.alloc (.cells #[.slice a2 ts.length c2, .slice a3 es.length c3, .slice none 0 0, .slice none 0 0, .slice none 0 0, .int .i64 td, .slice b2 ts.length d2, .slice b3 es.length d3, .slice none 0 0, .slice none 0 0, .slice none 0 0, .int .i64 td, .string ⟨#[]⟩, .int .i64 0] 30)).cell? ⟨w.heap.size, 3, none⟩ = some (.slice none 0 0) := cell_at k0 3
  have kk4 : (w.alloc (.cells #[.slice a2 ts.length c2, .slice a3 es.length c3, .slice none 0 0, .slice none 0 0, .slice none 0 0, .int .i64 td, .slice b2 ts.length d2, .slice b3 es.length d3, .slice none 0 0, .slice none 0 0, .slice none 0 0, .int .i64 td, .string ⟨#[]⟩, .int .i64 0] 30)).cell? ⟨w.heap.size, 4, none⟩ = some (.slice none 0 0) := cell_at k0 4
  have kk5 : (w.alloc (.cells #[.slice a2 ts.length c2, .slice a3 es.length c3, .slice none 0 0, .slice none 0 0, .slice none 0 0, .int .i64 td, .slice b2 ts.length d2, .slice b3 es.length d3, .slice none 0 0, .slice none 0 0, .slice none 0 0, .int .i64 td, .string ⟨#[]⟩, .int .i64 0] 30)).cell? ⟨w.heap.size, 5, none⟩ = some (.int .i64 td) := cell_at k0 5
  go_enter Tryz.func24, Tryz.ntmps24
  go_wp2_with fail
  refine (H1.out ()).mono ?_
  generalize (w.alloc (.cells #[.slice a2 ts.length c2, .slice a3 es.length c3, .slice none 0 0, .slice none 0 0, .slice none 0 0, .int .i64 td, .slice b2 ts.length d2, .slice b3 es.length d3, .slice none 0 0, .slice none 0 0, .slice none 0 0, .int .i64 td, .string ⟨#[]⟩, .int .i64 0] 30)) = v0 at *
  rintro e w1 ⟨rfl, O1, W1, L1, B1⟩
  have n0 := (B1.block w.heap.size (Or.inr hw)).trans (kept L1 (lt_of k0) k0)
  have T3 := T2.kh (((Kh.refl _ _).of L1).band B1 (Nat.le_refl _))
  have F1 : Fr lo hi v0 w1 := Fr.of L1 B1 (Nat.le_refl _) hmh
  clear kk0 kk1 kk2 kk3 kk4 kk5 T2 L1 B1
  have k6 : w1.cell? ⟨w.heap.size, 6, none⟩ = some (.slice b2 ts.length d2) := cell_at n0 6
  have k7 : w1.cell? ⟨w.heap.size, 7, none⟩ = some (.slice b3 es.length d3) := cell_at n0 7
  have k8 : w1.cell? ⟨w.heap.size, 8, none⟩ = some (.slice none 0 0) := cell_at n0 8
  have k9 : w1.cell? ⟨w.heap.size, 9, none⟩ = some (.slice none 0 0) := cell_at n0 9
  have k10 : w1.cell? ⟨w.heap.size, 10, none⟩ = some (.slice none 0 0) := cell_at n0 10
  have k11 : w1.cell? ⟨w.heap.size, 11, none⟩ = some (.int .i64 td) := cell_at n0 11
  go_wp2_with fail
  refine (H2.out _ T3).mono ?_
  rintro e w2 ⟨rfl, O2, W2, L2, B2⟩
  have F2 : Fr lo hi w1 w2 := Fr.of L2 B2 hlm (Nat.le_refl _)
  have O1' := (O1.on L2).band B2 (Nat.le_refl _)
  go_wp2
  go_ret
  exact ⟨rfl, ⟨O1', O2⟩, (Fr.on N).trans (F1.trans F2)⟩

set_option maxRecDepth 100000 in
set_option maxHeartbeats 4000000 in
theorem heldPlat_val (z : Int) (hz : 0 ≤ z) (hz2 : z ≤ 1000000000) (lo mid hi : Nat) (a2 a3 b2 b3 : Option Addr) (ts : List Tr) (es : List Ed) (c2 c3 d2 d3 : Nat) (td : Int) (w : World) (hn : ts.length ≤ 40) (hs : ∀ i (h : i < ts.length), ts[i].l.length ≤ 20) (hm : es.length ≤ 1048576) (O : Of.OM z w lo mid a2 a3 ts es ∧ Of.OM (Of.off z ts ts.length + 3 * (es.length : Int)) w mid hi b2 b3 ts es) :
    Calls Tryz.prog 27 #[.agg #[.slice a2 ts.length c2, .slice a3 es.length c3, .slice none 0 0, .slice none 0 0, .slice none 0 0, .int .i64 td, .slice b2 ts.length d2, .slice b3 es.length d3, .slice none 0 0, .slice none 0 0, .slice none 0 0, .int .i64 td, .string ⟨#[]⟩, .int .i64 0], .int .i64 z] w fun e w' => e = .returned (.int .i64 (Of.off (Of.off z ts ts.length + 3 * (es.length : Int)) ts ts.length + 3 * (es.length : Int))) ∧ Below w.heap.size w w' := by
  have N := new_below w (.cells #[.slice a2 ts.length c2, .slice a3 es.length c3, .slice none 0 0, .slice none 0 0, .slice none 0 0, .int .i64 td, .slice b2 ts.length d2, .slice b3 es.length d3, .slice none 0 0, .slice none 0 0, .slice none 0 0, .int .i64 td, .string ⟨#[]⟩, .int .i64 0] 30)
  have k0 := heap_new w (.cells #[.slice a2 ts.length c2, .slice a3 es.length c3, .slice none 0 0, .slice none 0 0, .slice none 0 0, .int .i64 td, .slice b2 ts.length d2, .slice b3 es.length d3, .slice none 0 0, .slice none 0 0, .slice none 0 0, .int .i64 td, .string ⟨#[]⟩, .int .i64 0] 30)
  have o1 := off_bd z ts hs ts.length (Nat.le_refl _)
  have o2 := off_bd (Of.off z ts ts.length + 3 * (es.length : Int)) ts hs ts.length (Nat.le_refl _)
  have H1 : Hid (∀ W, Below w.heap.size w W → _) := fun W (L : Below w.heap.size w W) => heldOffice_val z hz (by omega) lo mid a2 a3 ts es c2 c3 td W hn hs hm (O.1.on L)
  have H2 : Hid (∀ W, Below w.heap.size w W → _) := fun W (L : Below w.heap.size w W) => heldOffice_val (Of.off z ts ts.length + 3 * (es.length : Int)) (by omega) (by omega) mid hi b2 b3 ts es d2 d3 td W hn hs hm (O.2.on L)
  have hd1 : decide ((Of.off z ts ts.length + 3 * (es.length : Int)) < 0) = false := decide_eq_false (by omega)
  have hd2 : decide ((Of.off (Of.off z ts ts.length + 3 * (es.length : Int)) ts ts.length + 3 * (es.length : Int)) < 0) = false := decide_eq_false (by omega)
  clear O hs
  have kk0 : (w.alloc (.cells #[.slice a2 ts.length c2, .slice a3 es.length c3, .slice none 0 0, .slice none 0 0, .slice none 0 0, .int .i64 td, .slice b2 ts.length d2, .slice b3 es.length d3, .slice none 0 0, .slice none 0 0, .slice none 0 0, .int .i64 td, .string ⟨#[]⟩, .int .i64 0] 30)).cell? ⟨w.heap.size, 0, none⟩ = some (.slice a2 ts.length c2) := cell_at k0 0
  have kk1 : (w.alloc (.cells #[.slice a2 ts.length c2, .slice a3 es.length c3, .slice none 0 0, .slice none 0 0, .slice none 0 0, .int .i64 td, .slice b2 ts.length d2, .slice b3 es.length d3, .slice none 0 0, .slice none 0 0, .slice none 0 0, .int .i64 td, .string ⟨#[]⟩, .int .i64 0] 30)).cell? ⟨w.heap.size, 1, none⟩ = some (.slice a3 es.length c3) := cell_at k0 1
  have kk2 : (w.alloc (.cells #[.slice a2 ts.length c2, .slice a3 es.length c3, .slice none 0 0, .slice none 0 0, .slice none 0 0, .int .i64 td, .slice b2 ts.length d2, .slice b3 es.length d3, .slice none 0 0, .slice none 0 0, .slice none 0 0, .int .i64 td, .string ⟨#[]⟩, .int .i64 0] 30)).cell? ⟨w.heap.size, 2, none⟩ = some (.slice none 0 0) := cell_at k0 2
  have kk3 : (w.alloc (.cells #[.slice a2 ts.length c2, .slice a3 es.length c3, .slice none 0 0, .slice none 0 0, .slice none 0 0, .int .i64 td, .slice b2 ts.length d2, .slice b3 es.length d3, .slice none 0 0, .slice none 0 0, .slice none 0 0, .int .i64 td, .string ⟨#[]⟩, .int .i64 0] 30)).cell? ⟨w.heap.size, 3, none⟩ = some (.slice none 0 0) := cell_at k0 3
  have kk4 : (w.alloc (.cells #[.slice a2 ts.length c2, .slice a3 es.length c3, .slice none 0 0, .slice none 0 0, .slice none 0 0, .int .i64 td, .slice b2 ts.length d2, .slice b3 es.length d3, .slice none 0 0, .slice none 0 0, .slice none 0 0, .int .i64 td, .string ⟨#[]⟩, .int .i64 0] 30)).cell? ⟨w.heap.size, 4, none⟩ = some (.slice none 0 0) := cell_at k0 4
  have kk5 : (w.alloc (.cells #[.slice a2 ts.length c2, .slice a3 es.length c3, .slice none 0 0, .slice none 0 0, .slice none 0 0, .int .i64 td, .slice b2 ts.length d2, .slice b3 es.length d3, .slice none 0 0, .slice none 0 0, .slice none 0 0, .int .i64 td, .string ⟨#[]⟩, .int .i64 0] 30)).cell? ⟨w.heap.size, 5, none⟩ = some (.int .i64 td) := cell_at k0 5
  go_enter Tryz.func27, Tryz.ntmps27
  go_wp2_with fail
  refine (H1.out _ N).mono ?_
  generalize (w.alloc (.cells #[.slice a2 ts.length c2, .slice a3 es.length c3, .slice none 0 0, .slice none 0 0, .slice none 0 0, .int .i64 td, .slice b2 ts.length d2, .slice b3 es.length d3, .slice none 0 0, .slice none 0 0, .slice none 0 0, .int .i64 td, .string ⟨#[]⟩, .int .i64 0] 30)) = v0 at *
  rintro e w1 ⟨rfl, L1⟩
  have n0 := kept L1 (lt_of k0) k0
  have N1 := join_below N L1
  clear kk0 kk1 kk2 kk3 kk4 kk5 L1 N
  have k6 : w1.cell? ⟨w.heap.size, 6, none⟩ = some (.slice b2 ts.length d2) := cell_at n0 6
  have k7 : w1.cell? ⟨w.heap.size, 7, none⟩ = some (.slice b3 es.length d3) := cell_at n0 7
  have k8 : w1.cell? ⟨w.heap.size, 8, none⟩ = some (.slice none 0 0) := cell_at n0 8
  have k9 : w1.cell? ⟨w.heap.size, 9, none⟩ = some (.slice none 0 0) := cell_at n0 9
  have k10 : w1.cell? ⟨w.heap.size, 10, none⟩ = some (.slice none 0 0) := cell_at n0 10
  have k11 : w1.cell? ⟨w.heap.size, 11, none⟩ = some (.int .i64 td) := cell_at n0 11
  go_wp2_with fail
  refine (H2.out _ N1).mono ?_
  rintro e w2 ⟨rfl, L2⟩
  go_wp2
  go_ret
  exact ⟨rfl, join_below N1 L2⟩

set_option maxRecDepth 100000 in
set_option maxHeartbeats 4000000 in
theorem markBooth_val (z : Int) (hz : 0 ≤ z) (hz2 : z ≤ 1000000000) (lo mid hi : Nat) (a2 a3 b2 b3 : Option Addr) (ts : List Tr) (es : List Ed) (c2 c3 d2 d3 : Nat) (td : Int) (dv p q g op is ve : Int) (w : World) (hn : ts.length ≤ 40) (hs : ∀ i (h : i < ts.length), ts[i].l.length ≤ 20) (hm : es.length ≤ 1048576) (S1 : Sp w lo mid a2 a3 ts es) (S2 : Sp w mid hi b2 b3 ts es) :
    Calls Tryz.prog 7 #[.agg #[.slice a2 ts.length c2, .slice a3 es.length c3, .slice none 0 0, .slice none 0 0, .slice none 0 0, .int .i64 td, .slice b2 ts.length d2, .slice b3 es.length d3, .slice none 0 0, .slice none 0 0, .slice none 0 0, .int .i64 td, .string ⟨#[]⟩, .int .i64 0, .int .i64 dv, .int .i64 p, .int .i64 q, .int .i64 g, .int .i64 op, .int .i64 is, .int .i64 ve, .slice none 0 0, .slice none 0 0, .int .i64 0, .slice none 0 0, .slice none 0 0], .int .i64 z] w fun e w' => e = .returned (.int .i64 (Of.off (Of.off z ts ts.length + 3 * (es.length : Int)) ts ts.length + 3 * (es.length : Int))) ∧ (Of.OM z w' lo mid a2 a3 ts es ∧ Of.OM (Of.off z ts ts.length + 3 * (es.length : Int)) w' mid hi b2 b3 ts es) ∧ Fr lo hi w w' := by
  have N := new_below w (.cells #[.slice a2 ts.length c2, .slice a3 es.length c3, .slice none 0 0, .slice none 0 0, .slice none 0 0, .int .i64 td, .slice b2 ts.length d2, .slice b3 es.length d3, .slice none 0 0, .slice none 0 0, .slice none 0 0, .int .i64 td, .string ⟨#[]⟩, .int .i64 0, .int .i64 dv, .int .i64 p, .int .i64 q, .int .i64 g, .int .i64 op, .int .i64 is, .int .i64 ve, .slice none 0 0, .slice none 0 0, .int .i64 0, .slice none 0 0, .slice none 0 0] 40)
  have k0 := heap_new w (.cells #[.slice a2 ts.length c2, .slice a3 es.length c3, .slice none 0 0, .slice none 0 0, .slice none 0 0, .int .i64 td, .slice b2 ts.length d2, .slice b3 es.length d3, .slice none 0 0, .slice none 0 0, .slice none 0 0, .int .i64 td, .string ⟨#[]⟩, .int .i64 0, .int .i64 dv, .int .i64 p, .int .i64 q, .int .i64 g, .int .i64 op, .int .i64 is, .int .i64 ve, .slice none 0 0, .slice none 0 0, .int .i64 0, .slice none 0 0, .slice none 0 0] 40)
  have o1 := off_bd z ts hs ts.length (Nat.le_refl _)
  have o2 := off_bd (Of.off z ts ts.length + 3 * (es.length : Int)) ts hs ts.length (Nat.le_refl _)
  have hiw : hi ≤ w.heap.size := by obtain ⟨x2, -, -, g1, g2, g3, -⟩ := S2; exact g3
  have H1 : Hid (∀ W, Below w.heap.size w W → _) := fun W (L : Below w.heap.size w W) => markPlat_val z hz hz2 lo mid hi a2 a3 b2 b3 ts es c2 c3 d2 d3 td W hn hs hm (S1.on L) (S2.on L)
  have hzz : 0 ≤ (Of.off (Of.off z ts ts.length + 3 * (es.length : Int)) ts ts.length + 3 * (es.length : Int)) := by omega
  have hd : decide ((Of.off (Of.off z ts ts.length + 3 * (es.length : Int)) ts ts.length + 3 * (es.length : Int)) < 0) = false := decide_eq_false (by omega)
  have H2 : Hid (∀ W : World, _) := fun W => markHand_nil dv p q g op is ve (Of.off (Of.off z ts ts.length + 3 * (es.length : Int)) ts ts.length + 3 * (es.length : Int)) hzz W
  have H3 : Hid (∀ W : World, _) := fun W => markCentre_nil (Of.off (Of.off z ts ts.length + 3 * (es.length : Int)) ts ts.length + 3 * (es.length : Int)) hzz W
  clear hs o1 o2
  have kk0 : (w.alloc (.cells #[.slice a2 ts.length c2, .slice a3 es.length c3, .slice none 0 0, .slice none 0 0, .slice none 0 0, .int .i64 td, .slice b2 ts.length d2, .slice b3 es.length d3, .slice none 0 0, .slice none 0 0, .slice none 0 0, .int .i64 td, .string ⟨#[]⟩, .int .i64 0, .int .i64 dv, .int .i64 p, .int .i64 q, .int .i64 g, .int .i64 op, .int .i64 is, .int .i64 ve, .slice none 0 0, .slice none 0 0, .int .i64 0, .slice none 0 0, .slice none 0 0] 40)).cell? ⟨w.heap.size, 0, none⟩ = some (.slice a2 ts.length c2) := cell_at k0 0
  have kk1 : (w.alloc (.cells #[.slice a2 ts.length c2, .slice a3 es.length c3, .slice none 0 0, .slice none 0 0, .slice none 0 0, .int .i64 td, .slice b2 ts.length d2, .slice b3 es.length d3, .slice none 0 0, .slice none 0 0, .slice none 0 0, .int .i64 td, .string ⟨#[]⟩, .int .i64 0, .int .i64 dv, .int .i64 p, .int .i64 q, .int .i64 g, .int .i64 op, .int .i64 is, .int .i64 ve, .slice none 0 0, .slice none 0 0, .int .i64 0, .slice none 0 0, .slice none 0 0] 40)).cell? ⟨w.heap.size, 1, none⟩ = some (.slice a3 es.length c3) := cell_at k0 1
  have kk2 : (w.alloc (.cells #[.slice a2 ts.length c2, .slice a3 es.length c3, .slice none 0 0, .slice none 0 0, .slice none 0 0, .int .i64 td, .slice b2 ts.length d2, .slice b3 es.length d3, .slice none 0 0, .slice none 0 0, .slice none 0 0, .int .i64 td, .string ⟨#[]⟩, .int .i64 0, .int .i64 dv, .int .i64 p, .int .i64 q, .int .i64 g, .int .i64 op, .int .i64 is, .int .i64 ve, .slice none 0 0, .slice none 0 0, .int .i64 0, .slice none 0 0, .slice none 0 0] 40)).cell? ⟨w.heap.size, 2, none⟩ = some (.slice none 0 0) := cell_at k0 2
  have kk3 : (w.alloc (.cells #[.slice a2 ts.length c2, .slice a3 es.length c3, .slice none 0 0, .slice none 0 0, .slice none 0 0, .int .i64 td, .slice b2 ts.length d2, .slice b3 es.length d3, .slice none 0 0, .slice none 0 0, .slice none 0 0, .int .i64 td, .string ⟨#[]⟩, .int .i64 0, .int .i64 dv, .int .i64 p, .int .i64 q, .int .i64 g, .int .i64 op, .int .i64 is, .int .i64 ve, .slice none 0 0, .slice none 0 0, .int .i64 0, .slice none 0 0, .slice none 0 0] 40)).cell? ⟨w.heap.size, 3, none⟩ = some (.slice none 0 0) := cell_at k0 3
  have kk4 : (w.alloc (.cells #[.slice a2 ts.length c2, .slice a3 es.length c3, .slice none 0 0, .slice none 0 0, .slice none 0 0, .int .i64 td, .slice b2 ts.length d2, .slice b3 es.length d3, .slice none 0 0, .slice none 0 0, .slice none 0 0, .int .i64 td, .string ⟨#[]⟩, .int .i64 0, .int .i64 dv, .int .i64 p, .int .i64 q, .int .i64 g, .int .i64 op, .int .i64 is, .int .i64 ve, .slice none 0 0, .slice none 0 0, .int .i64 0, .slice none 0 0, .slice none 0 0] 40)).cell? ⟨w.heap.size, 4, none⟩ = some (.slice none 0 0) := cell_at k0 4
  have kk5 : (w.alloc (.cells #[.slice a2 ts.length c2, .slice a3 es.length c3, .slice none 0 0, .slice none 0 0, .slice none 0 0, .int .i64 td, .slice b2 ts.length d2, .slice b3 es.length d3, .slice none 0 0, .slice none 0 0, .slice none 0 0, .int .i64 td, .string ⟨#[]⟩, .int .i64 0, .int .i64 dv, .int .i64 p, .int .i64 q, .int .i64 g, .int .i64 op, .int .i64 is, .int .i64 ve, .slice none 0 0, .slice none 0 0, .int .i64 0, .slice none 0 0, .slice none 0 0] 40)).cell? ⟨w.heap.size, 5, none⟩ = some (.int .i64 td) := cell_at k0 5
  have kk6 : (w.alloc (.cells #[.slice a2 ts.length c2, .slice a3 es.length c3, .slice none 0 0, .slice none 0 0, .slice none 0 0, .int .i64 td, .slice b2 ts.length d2, .slice b3 es.length d3, .slice none 0 0, .slice none 0 0, .slice none 0 0, .int .i64 td, .string ⟨#[]⟩, .int .i64 0, .int .i64 dv, .int .i64 p, .int .i64 q, .int .i64 g, .int .i64 op, .int .i64 is, .int .i64 ve, .slice none 0 0, .slice none 0 0, .int .i64 0, .slice none 0 0, .slice none 0 0] 40)).cell? ⟨w.heap.size, 6, none⟩ = some (.slice b2 ts.length d2) := cell_at k0 6
  have kk7 : (w.alloc (.cells #[.slice a2 ts.length c2, .slice a3 es.length c3, .slice none 0 0, .slice none 0 0, .slice none 0 0, .int .i64 td, .slice b2 ts.length d2, .slice b3 es.length d3, .slice none 0 0, .slice none 0 0, .slice none 0 0, .int .i64 td, .string ⟨#[]⟩, .int .i64 0, .int .i64 dv, .int .i64 p, .int .i64 q, .int .i64 g, .int .i64 op, .int .i64 is, .int .i64 ve, .slice none 0 0, .slice none 0 0, .int .i64 0, .slice none 0 0, .slice none 0 0] 40)).cell? ⟨w.heap.size, 7, none⟩ = some (.slice b3 es.length d3) := cell_at k0 7
  have kk8 : (w.alloc (.cells #[.slice a2 ts.length c2, .slice a3 es.length c3, .slice none 0 0, .slice none 0 0, .slice none 0 0, .int .i64 td, .slice b2 ts.length d2, .slice b3 es.length d3, .slice none 0 0, .slice none 0 0, .slice none 0 0, .int .i64 td, .string ⟨#[]⟩, .int .i64 0, .int .i64 dv, .int .i64 p, .int .i64 q, .int .i64 g, .int .i64 op, .int .i64 is, .int .i64 ve, .slice none 0 0, .slice none 0 0, .int .i64 0, .slice none 0 0, .slice none 0 0] 40)).cell? ⟨w.heap.size, 8, none⟩ = some (.slice none 0 0) := cell_at k0 8
  have kk9 : (w.alloc (.cells #[.slice a2 ts.length c2, .slice a3 es.length c3, .slice none 0 0, .slice none 0 0, .slice none 0 0, .int .i64 td, .slice b2 ts.length d2, .slice b3 es.length d3, .slice none 0 0, .slice none 0 0, .slice none 0 0, .int .i64 td, .string ⟨#[]⟩, .int .i64 0, .int .i64 dv, .int .i64 p, .int .i64 q, .int .i64 g, .int .i64 op, .int .i64 is, .int .i64 ve, .slice none 0 0, .slice none 0 0, .int .i64 0, .slice none 0 0, .slice none 0 0] 40)).cell? ⟨w.heap.size, 9, none⟩ = some (.slice none 0 0) := cell_at k0 9
  have kk10 : (w.alloc (.cells #[.slice a2 ts.length c2, .slice a3 es.length c3, .slice none 0 0, .slice none 0 0, .slice none 0 0, .int .i64 td, .slice b2 ts.length d2, .slice b3 es.length d3, .slice none 0 0, .slice none 0 0, .slice none 0 0, .int .i64 td, .string ⟨#[]⟩, .int .i64 0, .int .i64 dv, .int .i64 p, .int .i64 q, .int .i64 g, .int .i64 op, .int .i64 is, .int .i64 ve, .slice none 0 0, .slice none 0 0, .int .i64 0, .slice none 0 0, .slice none 0 0] 40)).cell? ⟨w.heap.size, 10, none⟩ = some (.slice none 0 0) := cell_at k0 10
  have kk11 : (w.alloc (.cells #[.slice a2 ts.length c2, .slice a3 es.length c3, .slice none 0 0, .slice none 0 0, .slice none 0 0, .int .i64 td, .slice b2 ts.length d2, .slice b3 es.length d3, .slice none 0 0, .slice none 0 0, .slice none 0 0, .int .i64 td, .string ⟨#[]⟩, .int .i64 0, .int .i64 dv, .int .i64 p, .int .i64 q, .int .i64 g, .int .i64 op, .int .i64 is, .int .i64 ve, .slice none 0 0, .slice none 0 0, .int .i64 0, .slice none 0 0, .slice none 0 0] 40)).cell? ⟨w.heap.size, 11, none⟩ = some (.int .i64 td) := cell_at k0 11
  have kk12 : (w.alloc (.cells #[.slice a2 ts.length c2, .slice a3 es.length c3, .slice none 0 0, .slice none 0 0, .slice none 0 0, .int .i64 td, .slice b2 ts.length d2, .slice b3 es.length d3, .slice none 0 0, .slice none 0 0, .slice none 0 0, .int .i64 td, .string ⟨#[]⟩, .int .i64 0, .int .i64 dv, .int .i64 p, .int .i64 q, .int .i64 g, .int .i64 op, .int .i64 is, .int .i64 ve, .slice none 0 0, .slice none 0 0, .int .i64 0, .slice none 0 0, .slice none 0 0] 40)).cell? ⟨w.heap.size, 12, none⟩ = some (.string ⟨#[]⟩) := cell_at k0 12
  have kk13 : (w.alloc (.cells #[.slice a2 ts.length c2, .slice a3 es.length c3, .slice none 0 0, .slice none 0 0, .slice none 0 0, .int .i64 td, .slice b2 ts.length d2, .slice b3 es.length d3, .slice none 0 0, .slice none 0 0, .slice none 0 0, .int .i64 td, .string ⟨#[]⟩, .int .i64 0, .int .i64 dv, .int .i64 p, .int .i64 q, .int .i64 g, .int .i64 op, .int .i64 is, .int .i64 ve, .slice none 0 0, .slice none 0 0, .int .i64 0, .slice none 0 0, .slice none 0 0] 40)).cell? ⟨w.heap.size, 13, none⟩ = some (.int .i64 0) := cell_at k0 13
  go_enter Tryz.func7, Tryz.ntmps7
  go_wp2_with fail
  refine (H1.out _ N).mono ?_
  generalize (w.alloc (.cells #[.slice a2 ts.length c2, .slice a3 es.length c3, .slice none 0 0, .slice none 0 0, .slice none 0 0, .int .i64 td, .slice b2 ts.length d2, .slice b3 es.length d3, .slice none 0 0, .slice none 0 0, .slice none 0 0, .int .i64 td, .string ⟨#[]⟩, .int .i64 0, .int .i64 dv, .int .i64 p, .int .i64 q, .int .i64 g, .int .i64 op, .int .i64 is, .int .i64 ve, .slice none 0 0, .slice none 0 0, .int .i64 0, .slice none 0 0, .slice none 0 0] 40)) = v0 at *
  rintro e w1 ⟨rfl, O, F1⟩
  have n0 := F1.kept k0 (Or.inr hiw)
  clear kk0 kk1 kk2 kk3 kk4 kk5 kk6 kk7 kk8 kk9 kk10 kk11 kk12 kk13
  have kk14 : w1.cell? ⟨w.heap.size, 14, none⟩ = some (.int .i64 dv) := cell_at n0 14
  have kk15 : w1.cell? ⟨w.heap.size, 15, none⟩ = some (.int .i64 p) := cell_at n0 15
  have kk16 : w1.cell? ⟨w.heap.size, 16, none⟩ = some (.int .i64 q) := cell_at n0 16
  have kk17 : w1.cell? ⟨w.heap.size, 17, none⟩ = some (.int .i64 g) := cell_at n0 17
  have kk18 : w1.cell? ⟨w.heap.size, 18, none⟩ = some (.int .i64 op) := cell_at n0 18
  have kk19 : w1.cell? ⟨w.heap.size, 19, none⟩ = some (.int .i64 is) := cell_at n0 19
  have kk20 : w1.cell? ⟨w.heap.size, 20, none⟩ = some (.int .i64 ve) := cell_at n0 20
  have kk21 : w1.cell? ⟨w.heap.size, 21, none⟩ = some (.slice none 0 0) := cell_at n0 21
  have kk22 : w1.cell? ⟨w.heap.size, 22, none⟩ = some (.slice none 0 0) := cell_at n0 22
  go_wp2_with fail
  refine (H2.out _).mono ?_
  rintro e w2 ⟨rfl, L2⟩
  have n2 := kept L2 (lt_of n0) n0
  clear kk14 kk15 kk16 kk17 kk18 kk19 kk20 kk21 kk22
  have kk23 : w2.cell? ⟨w.heap.size, 23, none⟩ = some (.int .i64 0) := cell_at n2 23
  have kk24 : w2.cell? ⟨w.heap.size, 24, none⟩ = some (.slice none 0 0) := cell_at n2 24
  have kk25 : w2.cell? ⟨w.heap.size, 25, none⟩ = some (.slice none 0 0) := cell_at n2 25
  go_wp2_with fail
  refine (H3.out _).mono ?_
  rintro e w3 ⟨rfl, L3⟩
  go_wp2
  go_ret
  exact ⟨rfl, ⟨(O.1.on L2).on L3, (O.2.on L2).on L3⟩, (Fr.on N).trans (F1.trans ((Fr.on L2).trans (Fr.on L3)))⟩

set_option maxRecDepth 100000 in
set_option maxHeartbeats 4000000 in
theorem heldBooth_val (z : Int) (hz : 0 ≤ z) (hz2 : z ≤ 1000000000) (lo mid hi : Nat) (a2 a3 b2 b3 : Option Addr) (ts : List Tr) (es : List Ed) (c2 c3 d2 d3 : Nat) (td : Int) (dv p q g op is ve : Int) (w : World) (hn : ts.length ≤ 40) (hs : ∀ i (h : i < ts.length), ts[i].l.length ≤ 20) (hm : es.length ≤ 1048576) (O : Of.OM z w lo mid a2 a3 ts es ∧ Of.OM (Of.off z ts ts.length + 3 * (es.length : Int)) w mid hi b2 b3 ts es) :
    Calls Tryz.prog 8 #[.agg #[.slice a2 ts.length c2, .slice a3 es.length c3, .slice none 0 0, .slice none 0 0, .slice none 0 0, .int .i64 td, .slice b2 ts.length d2, .slice b3 es.length d3, .slice none 0 0, .slice none 0 0, .slice none 0 0, .int .i64 td, .string ⟨#[]⟩, .int .i64 0, .int .i64 dv, .int .i64 p, .int .i64 q, .int .i64 g, .int .i64 op, .int .i64 is, .int .i64 ve, .slice none 0 0, .slice none 0 0, .int .i64 0, .slice none 0 0, .slice none 0 0], .int .i64 z] w fun e w' => e = .returned (.int .i64 (Of.off (Of.off z ts ts.length + 3 * (es.length : Int)) ts ts.length + 3 * (es.length : Int))) ∧ Below w.heap.size w w' := by
  have N := new_below w (.cells #[.slice a2 ts.length c2, .slice a3 es.length c3, .slice none 0 0, .slice none 0 0, .slice none 0 0, .int .i64 td, .slice b2 ts.length d2, .slice b3 es.length d3, .slice none 0 0, .slice none 0 0, .slice none 0 0, .int .i64 td, .string ⟨#[]⟩, .int .i64 0, .int .i64 dv, .int .i64 p, .int .i64 q, .int .i64 g, .int .i64 op, .int .i64 is, .int .i64 ve, .slice none 0 0, .slice none 0 0, .int .i64 0, .slice none 0 0, .slice none 0 0] 40)
  have k0 := heap_new w (.cells #[.slice a2 ts.length c2, .slice a3 es.length c3, .slice none 0 0, .slice none 0 0, .slice none 0 0, .int .i64 td, .slice b2 ts.length d2, .slice b3 es.length d3, .slice none 0 0, .slice none 0 0, .slice none 0 0, .int .i64 td, .string ⟨#[]⟩, .int .i64 0, .int .i64 dv, .int .i64 p, .int .i64 q, .int .i64 g, .int .i64 op, .int .i64 is, .int .i64 ve, .slice none 0 0, .slice none 0 0, .int .i64 0, .slice none 0 0, .slice none 0 0] 40)
  have o1 := off_bd z ts hs ts.length (Nat.le_refl _)
  have o2 := off_bd (Of.off z ts ts.length + 3 * (es.length : Int)) ts hs ts.length (Nat.le_refl _)
  have H1 : Hid (∀ W, Below w.heap.size w W → _) := fun W (L : Below w.heap.size w W) => heldPlat_val z hz hz2 lo mid hi a2 a3 b2 b3 ts es c2 c3 d2 d3 td W hn hs hm ⟨O.1.on L, O.2.on L⟩
  have hzz : 0 ≤ (Of.off (Of.off z ts ts.length + 3 * (es.length : Int)) ts ts.length + 3 * (es.length : Int)) := by omega
  have hd : decide ((Of.off (Of.off z ts ts.length + 3 * (es.length : Int)) ts ts.length + 3 * (es.length : Int)) < 0) = false := decide_eq_false (by omega)
  have H2 : Hid (∀ W : World, _) := fun W => heldHand_nil dv p q g op is ve (Of.off (Of.off z ts ts.length + 3 * (es.length : Int)) ts ts.length + 3 * (es.length : Int)) hzz W
  have H3 : Hid (∀ W : World, _) := fun W => heldCentre_nil (Of.off (Of.off z ts ts.length + 3 * (es.length : Int)) ts ts.length + 3 * (es.length : Int)) hzz W
  clear hs o1 o2
  have kk0 : (w.alloc (.cells #[.slice a2 ts.length c2, .slice a3 es.length c3, .slice none 0 0, .slice none 0 0, .slice none 0 0, .int .i64 td, .slice b2 ts.length d2, .slice b3 es.length d3, .slice none 0 0, .slice none 0 0, .slice none 0 0, .int .i64 td, .string ⟨#[]⟩, .int .i64 0, .int .i64 dv, .int .i64 p, .int .i64 q, .int .i64 g, .int .i64 op, .int .i64 is, .int .i64 ve, .slice none 0 0, .slice none 0 0, .int .i64 0, .slice none 0 0, .slice none 0 0] 40)).cell? ⟨w.heap.size, 0, none⟩ = some (.slice a2 ts.length c2) := cell_at k0 0
  have kk1 : (w.alloc (.cells #[.slice a2 ts.length c2, .slice a3 es.length c3, .slice none 0 0, .slice none 0 0, .slice none 0 0, .int .i64 td, .slice b2 ts.length d2, .slice b3 es.length d3, .slice none 0 0, .slice none 0 0, .slice none 0 0, .int .i64 td, .string ⟨#[]⟩, .int .i64 0, .int .i64 dv, .int .i64 p, .int .i64 q, .int .i64 g, .int .i64 op, .int .i64 is, .int .i64 ve, .slice none 0 0, .slice none 0 0, .int .i64 0, .slice none 0 0, .slice none 0 0] 40)).cell? ⟨w.heap.size, 1, none⟩ = some (.slice a3 es.length c3) := cell_at k0 1
  have kk2 : (w.alloc (.cells #[.slice a2 ts.length c2, .slice a3 es.length c3, .slice none 0 0, .slice none 0 0, .slice none 0 0, .int .i64 td, .slice b2 ts.length d2, .slice b3 es.length d3, .slice none 0 0, .slice none 0 0, .slice none 0 0, .int .i64 td, .string ⟨#[]⟩, .int .i64 0, .int .i64 dv, .int .i64 p, .int .i64 q, .int .i64 g, .int .i64 op, .int .i64 is, .int .i64 ve, .slice none 0 0, .slice none 0 0, .int .i64 0, .slice none 0 0, .slice none 0 0] 40)).cell? ⟨w.heap.size, 2, none⟩ = some (.slice none 0 0) := cell_at k0 2
  have kk3 : (w.alloc (.cells #[.slice a2 ts.length c2, .slice a3 es.length c3, .slice none 0 0, .slice none 0 0, .slice none 0 0, .int .i64 td, .slice b2 ts.length d2, .slice b3 es.length d3, .slice none 0 0, .slice none 0 0, .slice none 0 0, .int .i64 td, .string ⟨#[]⟩, .int .i64 0, .int .i64 dv, .int .i64 p, .int .i64 q, .int .i64 g, .int .i64 op, .int .i64 is, .int .i64 ve, .slice none 0 0, .slice none 0 0, .int .i64 0, .slice none 0 0, .slice none 0 0] 40)).cell? ⟨w.heap.size, 3, none⟩ = some (.slice none 0 0) := cell_at k0 3
  have kk4 : (w.alloc (.cells #[.slice a2 ts.length c2, .slice a3 es.length c3, .slice none 0 0, .slice none 0 0, .slice none 0 0, .int .i64 td, .slice b2 ts.length d2, .slice b3 es.length d3, .slice none 0 0, .slice none 0 0, .slice none 0 0, .int .i64 td, .string ⟨#[]⟩, .int .i64 0, .int .i64 dv, .int .i64 p, .int .i64 q, .int .i64 g, .int .i64 op, .int .i64 is, .int .i64 ve, .slice none 0 0, .slice none 0 0, .int .i64 0, .slice none 0 0, .slice none 0 0] 40)).cell? ⟨w.heap.size, 4, none⟩ = some (.slice none 0 0) := cell_at k0 4
  have kk5 : (w.alloc (.cells #[.slice a2 ts.length c2, .slice a3 es.length c3, .slice none 0 0, .slice none 0 0, .slice none 0 0, .int .i64 td, .slice b2 ts.length d2, .slice b3 es.length d3, .slice none 0 0, .slice none 0 0, .slice none 0 0, .int .i64 td, .string ⟨#[]⟩, .int .i64 0, .int .i64 dv, .int .i64 p, .int .i64 q, .int .i64 g, .int .i64 op, .int .i64 is, .int .i64 ve, .slice none 0 0, .slice none 0 0, .int .i64 0, .slice none 0 0, .slice none 0 0] 40)).cell? ⟨w.heap.size, 5, none⟩ = some (.int .i64 td) := cell_at k0 5
  have kk6 : (w.alloc (.cells #[.slice a2 ts.length c2, .slice a3 es.length c3, .slice none 0 0, .slice none 0 0, .slice none 0 0, .int .i64 td, .slice b2 ts.length d2, .slice b3 es.length d3, .slice none 0 0, .slice none 0 0, .slice none 0 0, .int .i64 td, .string ⟨#[]⟩, .int .i64 0, .int .i64 dv, .int .i64 p, .int .i64 q, .int .i64 g, .int .i64 op, .int .i64 is, .int .i64 ve, .slice none 0 0, .slice none 0 0, .int .i64 0, .slice none 0 0, .slice none 0 0] 40)).cell? ⟨w.heap.size, 6, none⟩ = some (.slice b2 ts.length d2) := cell_at k0 6
  have kk7 : (w.alloc (.cells #[.slice a2 ts.length c2, .slice a3 es.length c3, .slice none 0 0, .slice none 0 0, .slice none 0 0, .int .i64 td, .slice b2 ts.length d2, .slice b3 es.length d3, .slice none 0 0, .slice none 0 0, .slice none 0 0, .int .i64 td, .string ⟨#[]⟩, .int .i64 0, .int .i64 dv, .int .i64 p, .int .i64 q, .int .i64 g, .int .i64 op, .int .i64 is, .int .i64 ve, .slice none 0 0, .slice none 0 0, .int .i64 0, .slice none 0 0, .slice none 0 0] 40)).cell? ⟨w.heap.size, 7, none⟩ = some (.slice b3 es.length d3) := cell_at k0 7
  have kk8 : (w.alloc (.cells #[.slice a2 ts.length c2, .slice a3 es.length c3, .slice none 0 0, .slice none 0 0, .slice none 0 0, .int .i64 td, .slice b2 ts.length d2, .slice b3 es.length d3, .slice none 0 0, .slice none 0 0, .slice none 0 0, .int .i64 td, .string ⟨#[]⟩, .int .i64 0, .int .i64 dv, .int .i64 p, .int .i64 q, .int .i64 g, .int .i64 op, .int .i64 is, .int .i64 ve, .slice none 0 0, .slice none 0 0, .int .i64 0, .slice none 0 0, .slice none 0 0] 40)).cell? ⟨w.heap.size, 8, none⟩ = some (.slice none 0 0) := cell_at k0 8
  have kk9 : (w.alloc (.cells #[.slice a2 ts.length c2, .slice a3 es.length c3, .slice none 0 0, .slice none 0 0, .slice none 0 0, .int .i64 td, .slice b2 ts.length d2, .slice b3 es.length d3, .slice none 0 0, .slice none 0 0, .slice none 0 0, .int .i64 td, .string ⟨#[]⟩, .int .i64 0, .int .i64 dv, .int .i64 p, .int .i64 q, .int .i64 g, .int .i64 op, .int .i64 is, .int .i64 ve, .slice none 0 0, .slice none 0 0, .int .i64 0, .slice none 0 0, .slice none 0 0] 40)).cell? ⟨w.heap.size, 9, none⟩ = some (.slice none 0 0) := cell_at k0 9
  have kk10 : (w.alloc (.cells #[.slice a2 ts.length c2, .slice a3 es.length c3, .slice none 0 0, .slice none 0 0, .slice none 0 0, .int .i64 td, .slice b2 ts.length d2, .slice b3 es.length d3, .slice none 0 0, .slice none 0 0, .slice none 0 0, .int .i64 td, .string ⟨#[]⟩, .int .i64 0, .int .i64 dv, .int .i64 p, .int .i64 q, .int .i64 g, .int .i64 op, .int .i64 is, .int .i64 ve, .slice none 0 0, .slice none 0 0, .int .i64 0, .slice none 0 0, .slice none 0 0] 40)).cell? ⟨w.heap.size, 10, none⟩ = some (.slice none 0 0) := cell_at k0 10
  have kk11 : (w.alloc (.cells #[.slice a2 ts.length c2, .slice a3 es.length c3, .slice none 0 0, .slice none 0 0, .slice none 0 0, .int .i64 td, .slice b2 ts.length d2, .slice b3 es.length d3, .slice none 0 0, .slice none 0 0, .slice none 0 0, .int .i64 td, .string ⟨#[]⟩, .int .i64 0, .int .i64 dv, .int .i64 p, .int .i64 q, .int .i64 g, .int .i64 op, .int .i64 is, .int .i64 ve, .slice none 0 0, .slice none 0 0, .int .i64 0, .slice none 0 0, .slice none 0 0] 40)).cell? ⟨w.heap.size, 11, none⟩ = some (.int .i64 td) := cell_at k0 11
  have kk12 : (w.alloc (.cells #[.slice a2 ts.length c2, .slice a3 es.length c3, .slice none 0 0, .slice none 0 0, .slice none 0 0, .int .i64 td, .slice b2 ts.length d2, .slice b3 es.length d3, .slice none 0 0, .slice none 0 0, .slice none 0 0, .int .i64 td, .string ⟨#[]⟩, .int .i64 0, .int .i64 dv, .int .i64 p, .int .i64 q, .int .i64 g, .int .i64 op, .int .i64 is, .int .i64 ve, .slice none 0 0, .slice none 0 0, .int .i64 0, .slice none 0 0, .slice none 0 0] 40)).cell? ⟨w.heap.size, 12, none⟩ = some (.string ⟨#[]⟩) := cell_at k0 12
  have kk13 : (w.alloc (.cells #[.slice a2 ts.length c2, .slice a3 es.length c3, .slice none 0 0, .slice none 0 0, .slice none 0 0, .int .i64 td, .slice b2 ts.length d2, .slice b3 es.length d3, .slice none 0 0, .slice none 0 0, .slice none 0 0, .int .i64 td, .string ⟨#[]⟩, .int .i64 0, .int .i64 dv, .int .i64 p, .int .i64 q, .int .i64 g, .int .i64 op, .int .i64 is, .int .i64 ve, .slice none 0 0, .slice none 0 0, .int .i64 0, .slice none 0 0, .slice none 0 0] 40)).cell? ⟨w.heap.size, 13, none⟩ = some (.int .i64 0) := cell_at k0 13
  go_enter Tryz.func8, Tryz.ntmps8
  go_wp2_with fail
  refine (H1.out _ N).mono ?_
  generalize (w.alloc (.cells #[.slice a2 ts.length c2, .slice a3 es.length c3, .slice none 0 0, .slice none 0 0, .slice none 0 0, .int .i64 td, .slice b2 ts.length d2, .slice b3 es.length d3, .slice none 0 0, .slice none 0 0, .slice none 0 0, .int .i64 td, .string ⟨#[]⟩, .int .i64 0, .int .i64 dv, .int .i64 p, .int .i64 q, .int .i64 g, .int .i64 op, .int .i64 is, .int .i64 ve, .slice none 0 0, .slice none 0 0, .int .i64 0, .slice none 0 0, .slice none 0 0] 40)) = v0 at *
  rintro e w1 ⟨rfl, L1⟩
  have n0 := kept L1 (lt_of k0) k0
  clear kk0 kk1 kk2 kk3 kk4 kk5 kk6 kk7 kk8 kk9 kk10 kk11 kk12 kk13
  have kk14 : w1.cell? ⟨w.heap.size, 14, none⟩ = some (.int .i64 dv) := cell_at n0 14
  have kk15 : w1.cell? ⟨w.heap.size, 15, none⟩ = some (.int .i64 p) := cell_at n0 15
  have kk16 : w1.cell? ⟨w.heap.size, 16, none⟩ = some (.int .i64 q) := cell_at n0 16
  have kk17 : w1.cell? ⟨w.heap.size, 17, none⟩ = some (.int .i64 g) := cell_at n0 17
  have kk18 : w1.cell? ⟨w.heap.size, 18, none⟩ = some (.int .i64 op) := cell_at n0 18
  have kk19 : w1.cell? ⟨w.heap.size, 19, none⟩ = some (.int .i64 is) := cell_at n0 19
  have kk20 : w1.cell? ⟨w.heap.size, 20, none⟩ = some (.int .i64 ve) := cell_at n0 20
  have kk21 : w1.cell? ⟨w.heap.size, 21, none⟩ = some (.slice none 0 0) := cell_at n0 21
  have kk22 : w1.cell? ⟨w.heap.size, 22, none⟩ = some (.slice none 0 0) := cell_at n0 22
  go_wp2_with fail
  refine (H2.out _).mono ?_
  rintro e w2 ⟨rfl, L2⟩
  have n2 := kept L2 (lt_of n0) n0
  clear kk14 kk15 kk16 kk17 kk18 kk19 kk20 kk21 kk22
  have kk23 : w2.cell? ⟨w.heap.size, 23, none⟩ = some (.int .i64 0) := cell_at n2 23
  have kk24 : w2.cell? ⟨w.heap.size, 24, none⟩ = some (.slice none 0 0) := cell_at n2 24
  have kk25 : w2.cell? ⟨w.heap.size, 25, none⟩ = some (.slice none 0 0) := cell_at n2 25
  go_wp2_with fail
  refine (H3.out _).mono ?_
  rintro e w3 ⟨rfl, L3⟩
  go_wp2
  go_ret
  exact ⟨rfl, join_below (join_below (join_below N L1) L2) L3⟩

end Dk
end Go.Proofs.YtmoinacceildcaaGreatDoor

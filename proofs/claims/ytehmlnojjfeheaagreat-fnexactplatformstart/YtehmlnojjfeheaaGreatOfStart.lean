/- Contract of OfficeStart of the program. -/
import Derived.Test.YtehmlnojjfeheaaGreatOfLines
import Derived.Test.YtehmlnojjfeheaaGreatTnLinesS
import Derived.Test.YtehmlnojjfeheaaGreatTfOkS
import Derived.Test.YtehmlnojjfeheaaGreatSeOk
import Derived.Deep.RegionHeld3
namespace Go.Proofs.YtehmlnojjfeheaaGreat
namespace Of
open Go.ChangeShapes Go.WideShapes Go.ChangeAt Go.RowKit Go.Joins
open Pk (new_below join_below cell_at heap_new frozen_at lt_of kept heap_old info_of Room)
set_option linter.unusedSimpArgs false
set_option linter.unusedVariables false

open Tn (Tr Stops Trains Nums)
open Tf (Ed Edges)
open Se (inB in_is in_not)

theorem lines_len {ts : List Tr} (h : Tn.linesB ts = true) : ts.length ≤ 40 ∧ ∀ i (hi : i < ts.length), 2 ≤ ts[i].l.length ∧ ts[i].l.length ≤ 20 := by
  unfold Tn.linesB at h
  rw [Bool.and_eq_true] at h
  refine ⟨of_decide_eq_true h.2, fun i hi => ?_⟩
  have h1 := h.1
  unfold Tn.linesFrom at h1
  rw [List.all_eq_true] at h1
  have h2 := h1 i (by simpa using hi)
  unfold Tn.lineB at h2
  rw [Tn.getT_at ts i hi] at h2
  simp only [Bool.and_eq_true] at h2
  have h3 : Tn.okB ts[i].h ts[i].l = true := by first | exact h2.1 | exact h2.2
  unfold Tn.okB Tn.stopsB at h3
  simp only [Bool.and_eq_true] at h3
  have := Tn.inB_yes h3.2.1
  omega

theorem edges_cells {w : World} {b o : Nat} {l : List Ed} (I : Edges w (some ⟨b, o, none⟩) l) : ∀ j, j < l.length * 3 → ∃ v, w.cell? ⟨b, o + j, none⟩ = some v ∧ v.oneCell' = true := by
  intro j hj
  obtain ⟨b', o', e, -, c0, c1, c2⟩ := I.at (j / 3) (by omega)
  simp only [Option.some.injEq, Addr.mk.injEq, and_true] at e
  obtain ⟨rfl, rfl⟩ := e
  rcases (by omega : j % 3 = 0 ∨ j % 3 = 1 ∨ j % 3 = 2) with h | h | h
  · exact ⟨_, by rw [show o + j = o + j / 3 * 3 by omega]; exact c0, rfl⟩
  · exact ⟨_, by rw [show o + j = o + j / 3 * 3 + 1 by omega]; exact c1, rfl⟩
  · exact ⟨_, by rw [show o + j = o + j / 3 * 3 + 2 by omega]; exact c2, rfl⟩

/-- Edges that were copied: none, or a row of them, from lo on. -/
def Et (w : World) (lo : Nat) (a : Option Addr) (es : List Ed) : Prop := es.length = 0 ∨ ∃ g, a = some ⟨g, 0, none⟩ ∧ lo ≤ g ∧ g < w.heap.size ∧ Edges w (some ⟨g, 0, none⟩) es ∧ Room w g (es.length * 3)

theorem et_of {w w1 : World} {b o : Nat} {a : Option Addr} {es : List Ed} (I : Edges w (some ⟨b, o, none⟩) es) (C : Cloned w w1 a b o es.length 3) : Et w1 w.heap.size a es := by
  rcases C with h | ⟨g, rfl, h1, h2, h3, h4⟩
  · exact Or.inl h
  · refine Or.inr ⟨g, rfl, h1, h2, Or.inr ⟨g, 0, rfl, h2, fun i hi => ?_⟩, fun j hj => ?_⟩
    · obtain ⟨b', o', e, -, c0, c1, c2⟩ := I.at i hi
      simp only [Option.some.injEq, Addr.mk.injEq, and_true] at e
      obtain ⟨rfl, rfl⟩ := e
      rw [show 0 + i * 3 = i * 3 by omega, h3 (i * 3) (by omega), h3 (i * 3 + 1) (by omega), h3 (i * 3 + 2) (by omega)]
      exact ⟨c0, by rw [← Nat.add_assoc]; exact c1, by rw [← Nat.add_assoc]; exact c2⟩
    · obtain ⟨v, hv, -⟩ := edges_cells I j hj
      exact ⟨⟨v, by rw [h3 j hj]; exact hv⟩, h4 j⟩

theorem Et.on {w w1 : World} {lo : Nat} {a : Option Addr} {es : List Ed} (h : Et w lo a es) (L : Below w.heap.size w w1) : Et w1 lo a es := by
  rcases h with h | ⟨g, h1, h2, h3, h4, h5⟩
  · exact Or.inl h
  · exact Or.inr ⟨g, h1, h2, Nat.lt_of_lt_of_le h3 L.size, h4.on L, h5.on L h3⟩

theorem edges_off {w : World} {b o g i : Nat} {l : List Ed} {u : Value} (h : Edges w (some ⟨b, o, none⟩) l) (hne : b ≠ g) : Edges (w.setCell ⟨g, i, none⟩ u) (some ⟨b, o, none⟩) l := by
  rcases h with h | ⟨b', o', e, hb, hc⟩
  · exact Or.inl h
  · simp only [Option.some.injEq, Addr.mk.injEq, and_true] at e
    obtain ⟨rfl, rfl⟩ := e
    refine Or.inr ⟨b, o, rfl, by rw [World.size_setCell]; exact hb, fun j hj => ?_⟩
    rw [Od.cell_other (p := ⟨b, o + j * 3, none⟩) hne, Od.cell_other (p := ⟨b, o + j * 3 + 1, none⟩) hne, Od.cell_other (p := ⟨b, o + j * 3 + 2, none⟩) hne]
    exact hc j hj

theorem Et.off {w : World} {lo R i : Nat} {a : Option Addr} {es : List Ed} (h : Et w lo a es) (hR : R < lo) (u : Value) : Et (w.setCell ⟨R, i, none⟩ u) lo a es := by
  rcases h with h | ⟨g, h1, h2, h3, h4, h5⟩
  · exact Or.inl h
  · exact Or.inr ⟨g, h1, h2, by rw [World.size_setCell]; exact h3, edges_off h4 (by omega), h5.set R i u⟩

theorem Et.edges {w : World} {lo : Nat} {a : Option Addr} {es : List Ed} (h : Et w lo a es) : Edges w a es := by
  rcases h with h | ⟨g, rfl, -, -, h4, -⟩
  · exact Or.inl (List.eq_nil_of_length_eq_zero h)
  · exact h4

/-- Trains that were copied, all their blocks from lo up to mid. -/
def Lm (w : World) (lo mid : Nat) (a : Option Addr) (gf cf : Nat → Nat) (ts : List Tr) : Prop := ts.length = 0 ∨ ∃ g, a = some ⟨g, 0, none⟩ ∧ lo ≤ g ∧ g < mid ∧ mid ≤ w.heap.size ∧ Cp w lo g gf cf ts.length ts ∧ ∀ i, i < ts.length → gf i < mid

theorem Lt.lm {w : World} {lo : Nat} {a : Option Addr} {gf cf : Nat → Nat} {ts : List Tr} (h : Lt w lo a gf cf ts.length ts) : Lm w lo w.heap.size a gf cf ts := by
  rcases h with h | ⟨g, h1, h2, h3, h4⟩
  · exact Or.inl h
  · exact Or.inr ⟨g, h1, h2, h3, Nat.le_refl _, h4, fun i hi => (h4.each i hi hi).2.2.1⟩

theorem Lm.lt {w : World} {lo mid : Nat} {a : Option Addr} {gf cf : Nat → Nat} {ts : List Tr} (h : Lm w lo mid a gf cf ts) : Lt w lo a gf cf ts.length ts := by
  rcases h with h | ⟨g, h1, h2, h3, h4, h5, -⟩
  · exact Or.inl h
  · exact Or.inr ⟨g, h1, h2, by omega, h5⟩

theorem Lm.on {w w1 : World} {lo mid : Nat} {a : Option Addr} {gf cf : Nat → Nat} {ts : List Tr} (h : Lm w lo mid a gf cf ts) (L : Below w.heap.size w w1) : Lm w1 lo mid a gf cf ts := by
  rcases h with h | ⟨g, h1, h2, h3, h4, h5, h6⟩
  · exact Or.inl h
  · exact Or.inr ⟨g, h1, h2, h3, Nat.le_trans h4 L.size, h5.on L (by omega), h6⟩

theorem Lm.wide {w : World} {lo lo' mid : Nat} {a : Option Addr} {gf cf : Nat → Nat} {ts : List Tr} (h : Lm w lo mid a gf cf ts) (hl : lo' ≤ lo) : Lm w lo' mid a gf cf ts := by
  rcases h with h | ⟨g, h1, h2, h3, h4, h5, h6⟩
  · exact Or.inl h
  · refine Or.inr ⟨g, h1, by omega, h3, h4, ⟨h5.room, h5.nums, fun i hi hk => ?_, h5.apart, fun i hi hk => by omega⟩, h6⟩
    obtain ⟨q1, q⟩ := h5.each i hi hk
    exact ⟨by omega, q⟩

theorem Lm.off {w : World} {lo mid R i : Nat} {a : Option Addr} {gf cf : Nat → Nat} {ts : List Tr} (h : Lm w lo mid a gf cf ts) (hR : R < lo) (u : Value) : Lm (w.setCell ⟨R, i, none⟩ u) lo mid a gf cf ts := by
  rcases h with h | ⟨g, h1, h2, h3, h4, h5, h6⟩
  · exact Or.inl h
  · refine Or.inr ⟨g, h1, h2, h3, by rw [World.size_setCell]; exact h4, ⟨h5.room.set R i u, fun j hj => (h5.nums j hj).on fun k => Od.cell_other (p := ⟨g, k, none⟩) (by show g ≠ R; omega), fun j hj hk => ?_, h5.apart, fun j hj hk => by omega⟩, h6⟩
    obtain ⟨q1, q2, q3, q4, q5, q6⟩ := h5.each j hj hk
    exact ⟨q1, q2, by rw [World.size_setCell]; exact q3, by rw [Od.cell_other (p := ⟨g, j * 5 + 4, none⟩) (show g ≠ R by omega)]; exact q4, stops_off q5 (by omega), q6.set R i u⟩

/-- What an office that begins holds. -/
def St (w : World) (lo : Nat) (a2 a3 : Option Addr) (ts : List Tr) (es : List Ed) : Prop := ∃ mid gf cf, lo ≤ mid ∧ Lm w lo mid a2 gf cf ts ∧ Et w mid a3 es

theorem St.on {w w1 : World} {lo : Nat} {a2 a3 : Option Addr} {ts : List Tr} {es : List Ed} (h : St w lo a2 a3 ts es) (L : Below w.heap.size w w1) : St w1 lo a2 a3 ts es := by
  obtain ⟨mid, gf, cf, h1, h2, h3⟩ := h
  exact ⟨mid, gf, cf, h1, h2.on L, h3.on L⟩

theorem St.off {w : World} {lo R i : Nat} {a2 a3 : Option Addr} {ts : List Tr} {es : List Ed} (h : St w lo a2 a3 ts es) (hR : R < lo) (u : Value) : St (w.setCell ⟨R, i, none⟩ u) lo a2 a3 ts es := by
  obtain ⟨mid, gf, cf, h1, h2, h3⟩ := h
  exact ⟨mid, gf, cf, h1, h2.off hR u, h3.off (by omega) u⟩

theorem St.wide {w : World} {lo lo' : Nat} {a2 a3 : Option Addr} {ts : List Tr} {es : List Ed} (h : St w lo a2 a3 ts es) (hl : lo' ≤ lo) : St w lo' a2 a3 ts es := by
  obtain ⟨mid, gf, cf, h1, h2, h3⟩ := h
  exact ⟨mid, gf, cf, by omega, h2.wide hl, h3⟩

/-- Six cells stored into a block. -/
def put6 (w : World) (R : Nat) (v0 v1 v2 v3 v4 v5 : Value) : World := (((((w.setCell ⟨R, 0, none⟩ v0).setCell ⟨R, 1, none⟩ v1).setCell ⟨R, 2, none⟩ v2).setCell ⟨R, 3, none⟩ v3).setCell ⟨R, 4, none⟩ v4).setCell ⟨R, 5, none⟩ v5

theorem St.put {w : World} {lo R : Nat} {a2 a3 : Option Addr} {ts : List Tr} {es : List Ed} (h : St w lo a2 a3 ts es) (hR : R < lo) (v0 v1 v2 v3 v4 v5 : Value) : St (put6 w R v0 v1 v2 v3 v4 v5) lo a2 a3 ts es :=
  (((((h.off hR v0).off hR v1).off hR v2).off hR v3).off hR v4).off hR v5

theorem put6_below {B R : Nat} {a w : World} (h : Below B a w) (hR : B ≤ R) (v0 v1 v2 v3 v4 v5 : Value) : Below B a (put6 w R v0 v1 v2 v3 v4 v5) :=
  (((((h.setCell (p := ⟨R, 0, none⟩) hR v0).setCell (p := ⟨R, 1, none⟩) hR v1).setCell (p := ⟨R, 2, none⟩) hR v2).setCell (p := ⟨R, 3, none⟩) hR v3).setCell (p := ⟨R, 4, none⟩) hR v4).setCell (p := ⟨R, 5, none⟩) hR v5

set_option maxRecDepth 100000 in
set_option maxHeartbeats 4000000 in
theorem opened_val (b o d u : Nat) (ts : List Tr) (es : List Ed) (cap cap2 : Nat) (td : Int) (w : World) (hn : ts.length ≤ 1048576) (hm : es.length ≤ 1048576) (hb : b < w.heap.size) (hd : d < w.heap.size) (hs : ∀ i (h : i < ts.length), 1 ≤ ts[i].l.length ∧ ts[i].l.length ≤ 1048576) (I : Trains w (some ⟨b, o, none⟩) ts) (J : Edges w (some ⟨d, u, none⟩) es) :
    Calls Tryz.prog 56 #[.agg #[.slice (some ⟨b, o, none⟩) ts.length cap, .slice (some ⟨d, u, none⟩) es.length cap2, .slice none 0 0, .slice none 0 0, .slice none 0 0, .int .i64 td]] w fun e w' => ∃ a2 c2 a3 c3, e = .returned (.agg #[.slice none 0 0, .slice a2 ts.length c2, .slice a3 es.length c3, .slice none 0 0, .slice none 0 0, .int .i64 td]) ∧ St w' w.heap.size a2 a3 ts es ∧ Below w.heap.size w w' := by
  have N := join_below (new_below w (.cells #[.slice (some ⟨b, o, none⟩) ts.length cap, .slice (some ⟨d, u, none⟩) es.length cap2, .slice none 0 0, .slice none 0 0, .slice none 0 0, .int .i64 td] 36)) (new_below _ (.cells #[.slice none 0 0, .slice none 0 0, .slice none 0 0, .slice none 0 0, .slice none 0 0, .int .i64 0] 108))
  have m0 := heap_old (heap_new w (.cells #[.slice (some ⟨b, o, none⟩) ts.length cap, .slice (some ⟨d, u, none⟩) es.length cap2, .slice none 0 0, .slice none 0 0, .slice none 0 0, .int .i64 td] 36)) (.cells #[.slice none 0 0, .slice none 0 0, .slice none 0 0, .slice none 0 0, .slice none 0 0, .int .i64 0] 108)
  have m1 := heap_new (w.alloc (.cells #[.slice (some ⟨b, o, none⟩) ts.length cap, .slice (some ⟨d, u, none⟩) es.length cap2, .slice none 0 0, .slice none 0 0, .slice none 0 0, .int .i64 td] 36)) (.cells #[.slice none 0 0, .slice none 0 0, .slice none 0 0, .slice none 0 0, .slice none 0 0, .int .i64 0] 108)
  have e1 : (w.alloc (.cells #[.slice (some ⟨b, o, none⟩) ts.length cap, .slice (some ⟨d, u, none⟩) es.length cap2, .slice none 0 0, .slice none 0 0, .slice none 0 0, .int .i64 td] 36)).heap.size = w.heap.size + 1 := Array.size_push ..
  rw [e1] at m1
  clear e1
  go_enter Tryz.func56, Tryz.ntmps56
  go_wp2
  generalize (w.alloc (.cells #[.slice (some ⟨b, o, none⟩) ts.length cap, .slice (some ⟨d, u, none⟩) es.length cap2, .slice none 0 0, .slice none 0 0, .slice none 0 0, .int .i64 td] 36)).alloc (.cells #[.slice none 0 0, .slice none 0 0, .slice none 0 0, .slice none 0 0, .slice none 0 0, .int .i64 0] 108) = W at *
  have hw1 : w.heap.size + 1 < W.heap.size := lt_of m1
  have IW := I.on N
  have JW := J.on N
  have HCL : Hid (∀ wx, Below W.heap.size W wx → Calls Tryz.prog 87 #[.slice (some ⟨b, o, none⟩) ts.length cap] wx fun e w' => ∃ a' c' gf cf, e = .returned (.slice a' ts.length c') ∧ Lm w' W.heap.size w'.heap.size a' gf cf ts ∧ Below wx.heap.size wx w') := by
    intro wx L
    refine (copyLines_val b o ts cap wx hn (by have := L.size; omega) hs (IW.on L)).mono ?_
    rintro e w' ⟨a', c', gf, cf, rfl, T, L'⟩
    exact ⟨a', c', gf, cf, rfl, T.lm.wide L.size, L'⟩
  have HCE : Hid (∀ wx, Below W.heap.size W wx → Calls Tryz.prog 88 #[.slice (some ⟨d, u, none⟩) es.length cap2] wx fun e w' => ∃ a' c', e = .returned (.slice a' es.length c') ∧ Et w' wx.heap.size a' es ∧ Below wx.heap.size wx w') := by
    intro wx L
    have hdx : d < wx.heap.size := by have := L.size; omega
    refine (clone_edges d u es.length cap2 wx hm hdx (edges_cells (JW.on L))).mono ?_
    rintro e w' ⟨a', c', rfl, C, L'⟩
    exact ⟨a', c', rfl, et_of (JW.on L) C, L'⟩
  have HN1 : Hid (∀ wx, _) := fun wx => clone_nil_holds wx
  have HN2 : Hid (∀ wx, _) := fun wx => copyOrders_nil wx
  have HN3 : Hid (∀ wx, _) := fun wx => clone_nil_reps wx
  have p0 : W.cell? ⟨w.heap.size, 0, none⟩ = some (.slice (some ⟨b, o, none⟩) ts.length cap) := cell_at m0 0
  have p1 : W.cell? ⟨w.heap.size, 1, none⟩ = some (.slice (some ⟨d, u, none⟩) es.length cap2) := cell_at m0 1
  have p2 : W.cell? ⟨w.heap.size, 2, none⟩ = some (.slice none 0 0) := cell_at m0 2
  have p3 : W.cell? ⟨w.heap.size, 3, none⟩ = some (.slice none 0 0) := cell_at m0 3
  have p4 : W.cell? ⟨w.heap.size, 4, none⟩ = some (.slice none 0 0) := cell_at m0 4
  have p5 : W.cell? ⟨w.heap.size, 5, none⟩ = some (.int .i64 td) := cell_at m0 5
  have z0 : W.cell? ⟨w.heap.size + 1, 0, none⟩ = some (.slice none 0 0) := cell_at m1 0
  have f0 : W.frozen? ⟨w.heap.size + 1, 0, none⟩ = false := frozen_at m1 0
  have z1 : W.cell? ⟨w.heap.size + 1, 1, none⟩ = some (.slice none 0 0) := cell_at m1 1
  have f1 : W.frozen? ⟨w.heap.size + 1, 1, none⟩ = false := frozen_at m1 1
  have z2 : W.cell? ⟨w.heap.size + 1, 2, none⟩ = some (.slice none 0 0) := cell_at m1 2
  have f2 : W.frozen? ⟨w.heap.size + 1, 2, none⟩ = false := frozen_at m1 2
  have z3 : W.cell? ⟨w.heap.size + 1, 3, none⟩ = some (.slice none 0 0) := cell_at m1 3
  have f3 : W.frozen? ⟨w.heap.size + 1, 3, none⟩ = false := frozen_at m1 3
  have z4 : W.cell? ⟨w.heap.size + 1, 4, none⟩ = some (.slice none 0 0) := cell_at m1 4
  have f4 : W.frozen? ⟨w.heap.size + 1, 4, none⟩ = false := frozen_at m1 4
  have z5 : W.cell? ⟨w.heap.size + 1, 5, none⟩ = some (.int .i64 0) := cell_at m1 5
  have f5 : W.frozen? ⟨w.heap.size + 1, 5, none⟩ = false := frozen_at m1 5
  clear IW JW I J hs hn hm hb hd
  go_region_held3 (fun w' => w'.cell? ⟨w.heap.size, 0, none⟩ = some (.slice (some ⟨b, o, none⟩) ts.length cap) ∧ w'.cell? ⟨w.heap.size, 1, none⟩ = some (.slice (some ⟨d, u, none⟩) es.length cap2) ∧ w'.cell? ⟨w.heap.size, 2, none⟩ = some (.slice none 0 0) ∧ w'.cell? ⟨w.heap.size, 3, none⟩ = some (.slice none 0 0) ∧ w'.cell? ⟨w.heap.size, 4, none⟩ = some (.slice none 0 0) ∧ w'.cell? ⟨w.heap.size, 5, none⟩ = some (.int .i64 td)) (go_keep) (first
    | (go_at_call 86; (with_reducible refine (HN1.out _).mono ?_); rintro e x1 ⟨rfl, hx1⟩; have hy1 := hx1.symm; clear hx1; subst hy1)
    | (go_at_call 87; (with_reducible refine (HCL.out _ ?_).mono ?_); (first | exact Below.refl _ _ | exact (Below.refl _ _).drew); rintro e x2 ⟨a2, c2, gf, cf, rfl, T2, L2⟩; have M2 : Below W.heap.size W x2 := (by first | exact L2 | exact ((Below.refl _ _).drew).trans L2); have n0 := kept M2 (lt_of m0) m0; have n1 := kept M2 (lt_of m1) m1; have p0 : x2.cell? ⟨w.heap.size, 0, none⟩ = some (.slice (some ⟨b, o, none⟩) ts.length cap) := cell_at n0 0; have p1 : x2.cell? ⟨w.heap.size, 1, none⟩ = some (.slice (some ⟨d, u, none⟩) es.length cap2) := cell_at n0 1; have p2 : x2.cell? ⟨w.heap.size, 2, none⟩ = some (.slice none 0 0) := cell_at n0 2; have p3 : x2.cell? ⟨w.heap.size, 3, none⟩ = some (.slice none 0 0) := cell_at n0 3; have p4 : x2.cell? ⟨w.heap.size, 4, none⟩ = some (.slice none 0 0) := cell_at n0 4; have p5 : x2.cell? ⟨w.heap.size, 5, none⟩ = some (.int .i64 td) := cell_at n0 5)
    | (go_at_call 88; (with_reducible refine (HCE.out _ ?_).mono ?_); (first | exact M2 | exact M2.drew); rintro e x3 ⟨a3, c3, rfl, T3', L3⟩; have T3 : Et x3 x2.heap.size a3 es := T3'; have M3 : Below W.heap.size W x3 := M2.trans (L3.mono M2.size); have T4 := T2.on L3; have r0 := kept L3 (lt_of n0) n0; have r1 := kept L3 (lt_of n1) n1; have p0 : x3.cell? ⟨w.heap.size, 0, none⟩ = some (.slice (some ⟨b, o, none⟩) ts.length cap) := cell_at r0 0; have p1 : x3.cell? ⟨w.heap.size, 1, none⟩ = some (.slice (some ⟨d, u, none⟩) es.length cap2) := cell_at r0 1; have p2 : x3.cell? ⟨w.heap.size, 2, none⟩ = some (.slice none 0 0) := cell_at r0 2; have p3 : x3.cell? ⟨w.heap.size, 3, none⟩ = some (.slice none 0 0) := cell_at r0 3; have p4 : x3.cell? ⟨w.heap.size, 4, none⟩ = some (.slice none 0 0) := cell_at r0 4; have p5 : x3.cell? ⟨w.heap.size, 5, none⟩ = some (.int .i64 td) := cell_at r0 5; have z0 : x3.cell? ⟨w.heap.size + 1, 0, none⟩ = some (.slice none 0 0) := cell_at r1 0; have f0 : x3.frozen? ⟨w.heap.size + 1, 0, none⟩ = false := frozen_at r1 0; have z1 : x3.cell? ⟨w.heap.size + 1, 1, none⟩ = some (.slice none 0 0) := cell_at r1 1; have f1 : x3.frozen? ⟨w.heap.size + 1, 1, none⟩ = false := frozen_at r1 1; have z2 : x3.cell? ⟨w.heap.size + 1, 2, none⟩ = some (.slice none 0 0) := cell_at r1 2; have f2 : x3.frozen? ⟨w.heap.size + 1, 2, none⟩ = false := frozen_at r1 2; have z3 : x3.cell? ⟨w.heap.size + 1, 3, none⟩ = some (.slice none 0 0) := cell_at r1 3; have f3 : x3.frozen? ⟨w.heap.size + 1, 3, none⟩ = false := frozen_at r1 3; have z4 : x3.cell? ⟨w.heap.size + 1, 4, none⟩ = some (.slice none 0 0) := cell_at r1 4; have f4 : x3.frozen? ⟨w.heap.size + 1, 4, none⟩ = false := frozen_at r1 4; have z5 : x3.cell? ⟨w.heap.size + 1, 5, none⟩ = some (.int .i64 0) := cell_at r1 5; have f5 : x3.frozen? ⟨w.heap.size + 1, 5, none⟩ = false := frozen_at r1 5)
    | (go_at_call 89; (with_reducible refine (HN2.out _).mono ?_); rintro e x4 ⟨rfl, hx4⟩; have hy4 := hx4.symm; clear hx4; subst hy4)
    | (go_at_call 90; (with_reducible refine (HN3.out _).mono ?_); rintro e x5 ⟨rfl, hx5⟩; have hy5 := hx5.symm; clear hx5; subst hy5))
  all_goals
    go_wp2
    refine bodyPost_ret (v := .agg #[.slice none 0 0, .slice a2 ts.length c2, .slice a3 es.length c3, .slice none 0 0, .slice none 0 0, .int .i64 td]) (by simp [results, Tryz.results56, go_sem, z0, z1, z2, z3, z4, z5]) rfl ?_
    have S0 : St x3 W.heap.size a2 a3 ts es := ⟨x2.heap.size, gf, cf, M2.size, T4, T3⟩
    exact ⟨a2, c2, a3, c3, rfl, (S0.put hw1 _ _ _ _ _ _).wide (by omega), put6_below (join_below N M3) (Nat.le_succ _) _ _ _ _ _ _⟩

theorem closed_val (a2 a3 : Option Addr) (n m c2 c3 : Nat) (td : Int) (w : World) :
    Calls Tryz.prog 57 #[.agg #[.slice none 0 0, .slice a2 n c2, .slice a3 m c3, .slice none 0 0, .slice none 0 0, .int .i64 td]] w fun e w' => e = .returned (.agg #[.slice a2 n c2, .slice a3 m c3, .slice none 0 0, .slice none 0 0, .slice none 0 0, .int .i64 td]) ∧ Below w.heap.size w w' := by
  go_enter Tryz.func57, Tryz.ntmps57
  go_wp2
  refine bodyPost_ret (v := .agg #[.slice a2 n c2, .slice a3 m c3, .slice none 0 0, .slice none 0 0, .slice none 0 0, .int .i64 td]) (by simp [results, Tryz.results57, go_sem]) rfl ?_
  refine ⟨rfl, ?_⟩
  (repeat' (first | apply Below.setCell | apply Below.alloc | exact Below.refl _ _)) <;> first | (simp; done) | (simp; omega)

/-- Whether an office can begin. -/
def startB (ts : List Tr) (es : List Ed) (td : Int) : Bool := Tn.linesB ts && (Tf.tarB es && inB td 0 90000)

end Of
end Go.Proofs.YtehmlnojjfeheaaGreat

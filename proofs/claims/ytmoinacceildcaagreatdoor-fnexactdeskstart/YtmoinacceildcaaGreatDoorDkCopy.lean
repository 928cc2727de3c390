/- Copies of an office that begins (no holds, orders, replies): the program's copyOffice, the model's l09Copy. -/
import Derived.Test.YtmoinacceildcaaGreatDoorOfAnyZ
import Derived.Laws.AppendOwnNone
namespace Go.Proofs.YtmoinacceildcaaGreatDoor
namespace Dk
open Go.ChangeShapes Go.WideShapes Go.ChangeAt Go.RowKit
open Pk (new_below join_below cell_at heap_new frozen_at lt_of kept heap_old info_of Room own_form)
open Of (Kp put6 put6_below St Et Lw opened_val closed_val copyS_val nil_row edges_cells snap snap_len snap_get snap_one snap_at own_g et_mk h_set h_other Offc Pl ofV In)
open Tn (Tr Trains)
open Tf (Ed Edges)
set_option linter.unusedSimpArgs false
set_option linter.unusedVariables false

theorem two_blocks (w : World) (a b : Obj) : ((w.alloc a).alloc b).heap[w.heap.size]? = some a ∧ ((w.alloc a).alloc b).heap[w.heap.size + 1]? = some b ∧ ((w.alloc a).alloc b).heap.size = w.heap.size + 1 + 1 := by
  have e1 : (w.alloc a).heap.size = w.heap.size + 1 := Array.size_push ..
  refine ⟨heap_old (heap_new w a) b, ?_, ?_⟩
  · rw [← e1]; exact heap_new (w.alloc a) b
  · rw [← e1]; exact Array.size_push ..

theorem _root_.Go.Proofs.YtmoinacceildcaaGreatDoor.Of.Kp.mono {lo lo' : Nat} {w w1 : World} (k : Kp lo w w1) (h : lo ≤ lo') : Kp lo' w w1 := ⟨k.1, fun p h1 h2 => k.2 p (Nat.le_trans h h1) h2⟩

/-- Its lists lie from lo on. -/
def InK (lo : Nat) (w : World) (x : Pl) (o : Offc) : Prop := ∀ W, Kp lo w W → In W x o

theorem InK.kp {lo : Nat} {w w1 : World} {x : Pl} {o : Offc} (h : InK lo w x o) (k : Kp lo w w1) : InK lo w1 x o := fun W k2 => h W (k.trans k2)
theorem InK.on {lo : Nat} {w w1 : World} {x : Pl} {o : Offc} (h : InK lo w x o) (L : Below w.heap.size w w1) : InK lo w1 x o := h.kp (Kp.of L)
theorem InK.wide {lo lo' : Nat} {w : World} {x : Pl} {o : Offc} (h : InK lo w x o) (hl : lo' ≤ lo) : InK lo' w x o := fun W k => h W (k.mono hl)
theorem InK.in {lo : Nat} {w : World} {x : Pl} {o : Offc} (h : InK lo w x o) : In w x o := h w ⟨Nat.le_refl _, fun _ _ _ => rfl⟩

theorem Kp.refl (lo : Nat) (w : World) : Kp lo w w := ⟨Nat.le_refl _, fun _ _ _ => rfl⟩
theorem Kp.setR {lo g i : Nat} {w W : World} {v : Value} (k : Kp lo w W) (h : g < lo) : Kp lo w (W.setCell ⟨g, i, none⟩ v) := k.trans (Kp.set v h)
theorem Kp.allocR {lo : Nat} {w W : World} {x : Obj} (k : Kp lo w W) : Kp lo w (W.alloc x) := k.trans (Kp.of (new_below _ _))

set_option maxRecDepth 100000 in
set_option maxHeartbeats 4000000 in
theorem copyOff_val (b o d u : Nat) (ts : List Tr) (es : List Ed) (cap cap2 : Nat) (td : Int) (w : World) (hn : ts.length ≤ 1048576) (hm : es.length ≤ 1048576) (hb : b < w.heap.size) (hd : d < w.heap.size) (hs : ∀ i (h : i < ts.length), 1 ≤ ts[i].l.length ∧ ts[i].l.length ≤ 1048576) (I : Trains w (some ⟨b, o, none⟩) ts) (J : Edges w (some ⟨d, u, none⟩) es) :
    Calls Tryz.prog 45 #[.agg #[.slice (some ⟨b, o, none⟩) ts.length cap, .slice (some ⟨d, u, none⟩) es.length cap2, .slice none 0 0, .slice none 0 0, .slice none 0 0, .int .i64 td]] w fun e w' => ∃ a2 c2 a3 c3, e = .returned (.agg #[.slice a2 ts.length c2, .slice a3 es.length c3, .slice none 0 0, .slice none 0 0, .slice none 0 0, .int .i64 td]) ∧ St w' w.heap.size a2 a3 ts es ∧ Below w.heap.size w w' := by
  obtain ⟨k0, k1, hsz⟩ := two_blocks w (.cells #[.slice (some ⟨b, o, none⟩) ts.length cap, .slice (some ⟨d, u, none⟩) es.length cap2, .slice none 0 0, .slice none 0 0, .slice none 0 0, .int .i64 td] 28) (.cells #[.slice none 0 0, .slice none 0 0, .slice none 0 0, .slice none 0 0, .slice none 0 0, .int .i64 0] 28)
  have N : Below w.heap.size w ((w.alloc (.cells #[.slice (some ⟨b, o, none⟩) ts.length cap, .slice (some ⟨d, u, none⟩) es.length cap2, .slice none 0 0, .slice none 0 0, .slice none 0 0, .int .i64 td] 28)).alloc (.cells #[.slice none 0 0, .slice none 0 0, .slice none 0 0, .slice none 0 0, .slice none 0 0, .int .i64 0] 28)) := join_below (new_below _ _) (new_below _ _)
  have HO : Hid (∀ wx, Below w.heap.size w wx → _) := fun wx (L : Below w.heap.size w wx) => opened_val b o d u ts es cap cap2 td wx hn hm (Nat.lt_of_lt_of_le hb L.size) (Nat.lt_of_lt_of_le hd L.size) hs (I.on L) (J.on L)
  have HC : Hid (∀ a2 c2 a3 c3 wx, _) := fun a2 c2 a3 c3 wx => closed_val a2 a3 ts.length es.length c2 c3 td wx
  clear I J hm hb hd hn hs
  have a0 : ((w.alloc (.cells #[.slice (some ⟨b, o, none⟩) ts.length cap, .slice (some ⟨d, u, none⟩) es.length cap2, .slice none 0 0, .slice none 0 0, .slice none 0 0, .int .i64 td] 28)).alloc (.cells #[.slice none 0 0, .slice none 0 0, .slice none 0 0, .slice none 0 0, .slice none 0 0, .int .i64 0] 28)).cell? ⟨w.heap.size, 0, none⟩ = some (.slice (some ⟨b, o, none⟩) ts.length cap) := cell_at k0 0
  have a1 : ((w.alloc (.cells #[.slice (some ⟨b, o, none⟩) ts.length cap, .slice (some ⟨d, u, none⟩) es.length cap2, .slice none 0 0, .slice none 0 0, .slice none 0 0, .int .i64 td] 28)).alloc (.cells #[.slice none 0 0, .slice none 0 0, .slice none 0 0, .slice none 0 0, .slice none 0 0, .int .i64 0] 28)).cell? ⟨w.heap.size, 1, none⟩ = some (.slice (some ⟨d, u, none⟩) es.length cap2) := cell_at k0 1
  have aa2 : ((w.alloc (.cells #[.slice (some ⟨b, o, none⟩) ts.length cap, .slice (some ⟨d, u, none⟩) es.length cap2, .slice none 0 0, .slice none 0 0, .slice none 0 0, .int .i64 td] 28)).alloc (.cells #[.slice none 0 0, .slice none 0 0, .slice none 0 0, .slice none 0 0, .slice none 0 0, .int .i64 0] 28)).cell? ⟨w.heap.size, 2, none⟩ = some (.slice none 0 0) := cell_at k0 2
  have aa3 : ((w.alloc (.cells #[.slice (some ⟨b, o, none⟩) ts.length cap, .slice (some ⟨d, u, none⟩) es.length cap2, .slice none 0 0, .slice none 0 0, .slice none 0 0, .int .i64 td] 28)).alloc (.cells #[.slice none 0 0, .slice none 0 0, .slice none 0 0, .slice none 0 0, .slice none 0 0, .int .i64 0] 28)).cell? ⟨w.heap.size, 3, none⟩ = some (.slice none 0 0) := cell_at k0 3
  have a4 : ((w.alloc (.cells #[.slice (some ⟨b, o, none⟩) ts.length cap, .slice (some ⟨d, u, none⟩) es.length cap2, .slice none 0 0, .slice none 0 0, .slice none 0 0, .int .i64 td] 28)).alloc (.cells #[.slice none 0 0, .slice none 0 0, .slice none 0 0, .slice none 0 0, .slice none 0 0, .int .i64 0] 28)).cell? ⟨w.heap.size, 4, none⟩ = some (.slice none 0 0) := cell_at k0 4
  have a5 : ((w.alloc (.cells #[.slice (some ⟨b, o, none⟩) ts.length cap, .slice (some ⟨d, u, none⟩) es.length cap2, .slice none 0 0, .slice none 0 0, .slice none 0 0, .int .i64 td] 28)).alloc (.cells #[.slice none 0 0, .slice none 0 0, .slice none 0 0, .slice none 0 0, .slice none 0 0, .int .i64 0] 28)).cell? ⟨w.heap.size, 5, none⟩ = some (.int .i64 td) := cell_at k0 5
  go_enter Tryz.func45, Tryz.ntmps45
  go_wp2_with fail
  refine (HO.out _ N).mono ?_
  generalize ((w.alloc (.cells #[.slice (some ⟨b, o, none⟩) ts.length cap, .slice (some ⟨d, u, none⟩) es.length cap2, .slice none 0 0, .slice none 0 0, .slice none 0 0, .int .i64 td] 28)).alloc (.cells #[.slice none 0 0, .slice none 0 0, .slice none 0 0, .slice none 0 0, .slice none 0 0, .int .i64 0] 28)) = v0 at *
  rintro e w4 ⟨a2, c2, a3, c3, rfl, S4, L4⟩
  have m4 := kept L4 (lt_of k1) k1
  have N4 := join_below N L4
  go_wp2_with fail
  refine (HC.out a2 c2 a3 c3 _).mono ?_
  rintro e w5 ⟨rfl, L5⟩
  have m5 := kept L5 (lt_of m4) m4
  have S5 := S4.on L5
  have N5 := join_below N4 L5
  have z0 : w5.cell? ⟨w.heap.size + 1, 0, none⟩ = some (.slice none 0 0) := cell_at m5 0
  have z1 : w5.cell? ⟨w.heap.size + 1, 1, none⟩ = some (.slice none 0 0) := cell_at m5 1
  have z2 : w5.cell? ⟨w.heap.size + 1, 2, none⟩ = some (.slice none 0 0) := cell_at m5 2
  have z3 : w5.cell? ⟨w.heap.size + 1, 3, none⟩ = some (.slice none 0 0) := cell_at m5 3
  have z4 : w5.cell? ⟨w.heap.size + 1, 4, none⟩ = some (.slice none 0 0) := cell_at m5 4
  have z5 : w5.cell? ⟨w.heap.size + 1, 5, none⟩ = some (.int .i64 0) := cell_at m5 5
  have f0 : w5.frozen? ⟨w.heap.size + 1, 0, none⟩ = false := frozen_at m5 0
  have f1 : w5.frozen? ⟨w.heap.size + 1, 1, none⟩ = false := frozen_at m5 1
  have f2 : w5.frozen? ⟨w.heap.size + 1, 2, none⟩ = false := frozen_at m5 2
  have f3 : w5.frozen? ⟨w.heap.size + 1, 3, none⟩ = false := frozen_at m5 3
  have f4 : w5.frozen? ⟨w.heap.size + 1, 4, none⟩ = false := frozen_at m5 4
  have f5 : w5.frozen? ⟨w.heap.size + 1, 5, none⟩ = false := frozen_at m5 5
  have hR : w.heap.size + 1 < v0.heap.size := by omega
  clear m4 m5 S4 N4 L5 L4 k0 k1
  go_wp2
  refine bodyPost_ret (v := .agg #[.slice a2 ts.length c2, .slice a3 es.length c3, .slice none 0 0, .slice none 0 0, .slice none 0 0, .int .i64 td]) (by simp [results, Tryz.results45, go_sem, z0, z1, z2, z3, z4, z5]) rfl ?_
  exact ⟨a2, c2, a3, c3, rfl, (S5.put hR _ _ _ _ _ _).wide (by omega), put6_below N5 (Nat.le_succ _) _ _ _ _ _ _⟩

theorem edges_kq {w W : World} {lo lo' : Nat} {a : Option Addr} {es : List Ed} (h : Et w lo a es) (hl : lo' ≤ lo) (k : Kp lo' w W) : Edges W a es := by
  rcases h with h | ⟨g, rfl, h1, h2, h3, -⟩
  · exact Or.inl (List.length_eq_zero_iff.1 h)
  · rcases h3 with h3 | ⟨b, o, e, hb, hc⟩
    · exact Or.inl h3
    · refine Or.inr ⟨b, o, e, Nat.lt_of_lt_of_le hb k.1, fun i hi => ?_⟩
      simp only [Option.some.injEq, Addr.mk.injEq, and_true] at e
      obtain ⟨rfl, rfl⟩ := e
      rw [k.2 ⟨g, 0 + i * 3, none⟩ (Nat.le_trans hl h1) hb, k.2 ⟨g, 0 + i * 3 + 1, none⟩ (Nat.le_trans hl h1) hb, k.2 ⟨g, 0 + i * 3 + 2, none⟩ (Nat.le_trans hl h1) hb]
      exact hc i hi

set_option maxRecDepth 100000 in
set_option maxHeartbeats 4000000 in
theorem copyS_off (b o d u : Nat) (ts : List Tr) (es : List Ed) (cap cap2 : Nat) (td : Int) (w : World) (hn : ts.length ≤ 1048576) (hm : es.length ≤ 1048576) (hb : b < w.heap.size) (hd : d < w.heap.size) (hs : ∀ i (h : i < ts.length), 1 ≤ ts[i].l.length ∧ ts[i].l.length ≤ 1048576) (I : Trains w (some ⟨b, o, none⟩) ts) (J : Edges w (some ⟨d, u, none⟩) es) :
    Calls Tryz.prog 35 #[.agg #[.slice (some ⟨b, o, none⟩) ts.length cap, .slice (some ⟨d, u, none⟩) es.length cap2, .slice none 0 0, .slice none 0 0, .slice none 0 0, .int .i64 td]] w fun e w' => ∃ x : Pl, e = .returned (ofV x ⟨ts, es, [], [], [], td⟩) ∧ InK w.heap.size w' x ⟨ts, es, [], [], [], td⟩ ∧ Below w.heap.size w w' := by
  obtain ⟨k0, k1, hsz⟩ := two_blocks w (.cells #[.slice (some ⟨b, o, none⟩) ts.length cap, .slice (some ⟨d, u, none⟩) es.length cap2, .slice none 0 0, .slice none 0 0, .slice none 0 0, .int .i64 td] 28) (.cells #[.slice none 0 0, .slice none 0 0, .slice none 0 0, .slice none 0 0, .slice none 0 0, .int .i64 0] 28)
  obtain ⟨i0, hi, hz0, hz1, hz2⟩ := info_of Tf.info_edge
  obtain ⟨i1, hi1, -, -, -⟩ := info_of Se.info_hold
  obtain ⟨i2, hi2, -, -, -⟩ := info_of Rp.info_reply
  have N : Below w.heap.size w ((w.alloc (.cells #[.slice (some ⟨b, o, none⟩) ts.length cap, .slice (some ⟨d, u, none⟩) es.length cap2, .slice none 0 0, .slice none 0 0, .slice none 0 0, .int .i64 td] 28)).alloc (.cells #[.slice none 0 0, .slice none 0 0, .slice none 0 0, .slice none 0 0, .slice none 0 0, .int .i64 0] 28)) := join_below (new_below _ _) (new_below _ _)
  have HO : Hid (∀ wx, Below w.heap.size w wx → _) := fun wx (L : Below w.heap.size w wx) => copyS_val (some ⟨b, o, none⟩) ts cap wx hn hs (I.on L)
  clear I hb hn hs
  have q0 : ((w.alloc (.cells #[.slice (some ⟨b, o, none⟩) ts.length cap, .slice (some ⟨d, u, none⟩) es.length cap2, .slice none 0 0, .slice none 0 0, .slice none 0 0, .int .i64 td] 28)).alloc (.cells #[.slice none 0 0, .slice none 0 0, .slice none 0 0, .slice none 0 0, .slice none 0 0, .int .i64 0] 28)).cell? ⟨w.heap.size, 0, none⟩ = some (.slice (some ⟨b, o, none⟩) ts.length cap) := cell_at k0 0
  have q1 : ((w.alloc (.cells #[.slice (some ⟨b, o, none⟩) ts.length cap, .slice (some ⟨d, u, none⟩) es.length cap2, .slice none 0 0, .slice none 0 0, .slice none 0 0, .int .i64 td] 28)).alloc (.cells #[.slice none 0 0, .slice none 0 0, .slice none 0 0, .slice none 0 0, .slice none 0 0, .int .i64 0] 28)).cell? ⟨w.heap.size, 1, none⟩ = some (.slice (some ⟨d, u, none⟩) es.length cap2) := cell_at k0 1
  have q2 : ((w.alloc (.cells #[.slice (some ⟨b, o, none⟩) ts.length cap, .slice (some ⟨d, u, none⟩) es.length cap2, .slice none 0 0, .slice none 0 0, .slice none 0 0, .int .i64 td] 28)).alloc (.cells #[.slice none 0 0, .slice none 0 0, .slice none 0 0, .slice none 0 0, .slice none 0 0, .int .i64 0] 28)).cell? ⟨w.heap.size, 2, none⟩ = some (.slice none 0 0) := cell_at k0 2
  have q3 : ((w.alloc (.cells #[.slice (some ⟨b, o, none⟩) ts.length cap, .slice (some ⟨d, u, none⟩) es.length cap2, .slice none 0 0, .slice none 0 0, .slice none 0 0, .int .i64 td] 28)).alloc (.cells #[.slice none 0 0, .slice none 0 0, .slice none 0 0, .slice none 0 0, .slice none 0 0, .int .i64 0] 28)).cell? ⟨w.heap.size, 3, none⟩ = some (.slice none 0 0) := cell_at k0 3
  have q4 : ((w.alloc (.cells #[.slice (some ⟨b, o, none⟩) ts.length cap, .slice (some ⟨d, u, none⟩) es.length cap2, .slice none 0 0, .slice none 0 0, .slice none 0 0, .int .i64 td] 28)).alloc (.cells #[.slice none 0 0, .slice none 0 0, .slice none 0 0, .slice none 0 0, .slice none 0 0, .int .i64 0] 28)).cell? ⟨w.heap.size, 4, none⟩ = some (.slice none 0 0) := cell_at k0 4
  have q5 : ((w.alloc (.cells #[.slice (some ⟨b, o, none⟩) ts.length cap, .slice (some ⟨d, u, none⟩) es.length cap2, .slice none 0 0, .slice none 0 0, .slice none 0 0, .int .i64 td] 28)).alloc (.cells #[.slice none 0 0, .slice none 0 0, .slice none 0 0, .slice none 0 0, .slice none 0 0, .int .i64 0] 28)).cell? ⟨w.heap.size, 5, none⟩ = some (.int .i64 td) := cell_at k0 5
  go_enter Tryz.func35, Tryz.ntmps35
  go_wp2_with fail
  refine (HO.out _ N).mono ?_
  generalize ((w.alloc (.cells #[.slice (some ⟨b, o, none⟩) ts.length cap, .slice (some ⟨d, u, none⟩) es.length cap2, .slice none 0 0, .slice none 0 0, .slice none 0 0, .int .i64 td] 28)).alloc (.cells #[.slice none 0 0, .slice none 0 0, .slice none 0 0, .slice none 0 0, .slice none 0 0, .int .i64 0] 28)) = v0 at *
  rintro e w4 ⟨a2, c2, rfl, S4, L4⟩
  have m0 := kept L4 (lt_of k0) k0
  have m1 := kept L4 (lt_of k1) k1
  have N4 := join_below N L4
  have hv4 : v0.heap.size ≤ w4.heap.size := L4.size
  have hlo : w.heap.size + 1 < v0.heap.size := by omega
  clear q0 q1 q2 q3 q4 q5 k0 k1 L4 N HO
  have s0 : (w4.setCell ⟨w.heap.size, 0, none⟩ (.slice a2 ts.length c2)).heap[w.heap.size]? = some (.cells #[.slice a2 ts.length c2, .slice (some ⟨d, u, none⟩) es.length cap2, .slice none 0 0, .slice none 0 0, .slice none 0 0, .int .i64 td] 28) := h_set (i := 0) m0 _
  have s1 : (w4.setCell ⟨w.heap.size, 0, none⟩ (.slice a2 ts.length c2)).heap[w.heap.size + 1]? = some (.cells #[.slice none 0 0, .slice none 0 0, .slice none 0 0, .slice none 0 0, .slice none 0 0, .int .i64 0] 28) := h_other (i := 0) m1 (by omega) _
  have t0 := heap_old s0 (.cells #[] 52)
  have t1 := heap_old s1 (.cells #[] 52)
  have O5 := nil_row (w4.setCell ⟨w.heap.size, 0, none⟩ (.slice a2 ts.length c2)) 52 3
  rw [World.size_setCell] at O5
  have B5 : Below w.heap.size w ((w4.setCell ⟨w.heap.size, 0, none⟩ (.slice a2 ts.length c2)).alloc (.cells #[] 52)) := join_below (N4.setCell (Nat.le_refl _) _) (new_below _ _)
  have J5 := J.on B5
  have H5 := edges_cells J5
  have hz5 : w4.heap.size ≤ ((w4.setCell ⟨w.heap.size, 0, none⟩ (.slice a2 ts.length c2)).alloc (.cells #[] 52)).heap.size := by rw [show ((w4.setCell ⟨w.heap.size, 0, none⟩ (.slice a2 ts.length c2)).alloc (.cells #[] 52)).heap.size = (w4.setCell ⟨w.heap.size, 0, none⟩ (.slice a2 ts.length c2)).heap.size + 1 from Array.size_push .., World.size_setCell]; omega
  have q0 : w4.cell? ⟨w.heap.size, 0, none⟩ = some (.slice (some ⟨b, o, none⟩) ts.length cap) := cell_at m0 0
  have q1 : w4.cell? ⟨w.heap.size, 1, none⟩ = some (.slice (some ⟨d, u, none⟩) es.length cap2) := cell_at m0 1
  have q2 : w4.cell? ⟨w.heap.size, 2, none⟩ = some (.slice none 0 0) := cell_at m0 2
  have q3 : w4.cell? ⟨w.heap.size, 3, none⟩ = some (.slice none 0 0) := cell_at m0 3
  have q4 : w4.cell? ⟨w.heap.size, 4, none⟩ = some (.slice none 0 0) := cell_at m0 4
  have q5 : w4.cell? ⟨w.heap.size, 5, none⟩ = some (.int .i64 td) := cell_at m0 5
  have r0 : w4.frozen? ⟨w.heap.size, 0, none⟩ = false := frozen_at m0 0
  have p1 : ((w4.setCell ⟨w.heap.size, 0, none⟩ (.slice a2 ts.length c2)).alloc (.cells #[] 52)).cell? ⟨w.heap.size, 1, none⟩ = some (.slice (some ⟨d, u, none⟩) es.length cap2) := cell_at t0 1
  go_wp2_with (at_builtin; refine wpList_append_own_at _ rfl _ _ 23 rfl w4.heap.size 52 i0 (Tf.lgV ⟨0, 0, 0⟩) 3 24 Tryz.underlying23 hi hz0 hz1 hz2 rfl (by decide) _ _ _ rfl O5 ⟨d, u, none⟩ es.length cap2 (snap ((w4.setCell ⟨w.heap.size, 0, none⟩ (.slice a2 ts.length c2)).alloc (.cells #[] 52)) d u (es.length * 3)) rfl ?c0 ?c1 ?c2 ?c3 ?c4 ?c5 ?_)
  case c0 => rw [snap_len]
  case c1 => exact snap_get H5
  case c2 => exact snap_one H5
  case c3 => unfold maxLen; omega
  case c4 => omega
  case c5 => exact hz5
  intro v' w6 O6 G6 _ _
  have L6 : Below w4.heap.size ((w4.setCell ⟨w.heap.size, 0, none⟩ (.slice a2 ts.length c2)).alloc (.cells #[] 52)) w6 := (Below.refl _ _).grown G6 hz5 (fun j hj => (O5.lt j hj).1)
  try rw [Nat.zero_add, List.nil_append] at O6
  obtain ⟨a3, c3, rfl, -⟩ := own_form O6
  have n0 := kept L6 (by omega) t0
  have n1 := kept L6 (by omega) t1
  have HE : Hid (∀ W, Kp v0.heap.size w6 W → Edges W a3 es) := by
    intro W k
    refine edges_kq (et_mk (lo := w4.heap.size) J5 ?_) hv4 k
    by_cases h0 : es.length = 0
    · exact Or.inl h0
    · obtain ⟨g, c, hv, h1, h2, h3, h4⟩ := own_g O6 (by omega)
      simp only [Value.slice.injEq] at hv
      refine Or.inr ⟨g, hv.1, h1, h2, fun j hj => ?_, h4⟩
      obtain ⟨z, hz, -⟩ := H5 j hj
      rw [hz]
      exact h3 j z (by rw [snap_at H5 j hj, hz])
  have K6 : Kp v0.heap.size w4 w6 := ⟨Nat.le_trans hz5 G6.size, fun p h1 h2 => (L6.cell h2).trans ((new_below _ _).cell (by rw [World.size_setCell]; exact h2) |>.trans (Od.cell_other (by omega)))⟩
  have HT := S4.kp K6
  have B6 : Below w.heap.size w w6 := B5.grown G6 B5.size (fun j hj => by have := (O5.lt j hj).1; omega)
  have hs6 : w4.heap.size ≤ w6.heap.size := K6.1
  clear O5 O6 G6 L6 S4 H5 hz5 B5 J J5 t0 t1 s0 s1 m0 m1 q0 q1 q2 q3 q4 q5 r0 p1 N4 hi hz0 hz1 hz2
  have s0 : (w6.setCell ⟨w.heap.size, 1, none⟩ (.slice a3 es.length c3)).heap[w.heap.size]? = some (.cells #[.slice a2 ts.length c2, .slice a3 es.length c3, .slice none 0 0, .slice none 0 0, .slice none 0 0, .int .i64 td] 28) := h_set (i := 1) n0 _
  have s1 : (w6.setCell ⟨w.heap.size, 1, none⟩ (.slice a3 es.length c3)).heap[w.heap.size + 1]? = some (.cells #[.slice none 0 0, .slice none 0 0, .slice none 0 0, .slice none 0 0, .slice none 0 0, .int .i64 0] 28) := h_other (i := 1) n1 (by omega) _
  have t0 := heap_old s0 (.cells #[] 98)
  have t1 := heap_old s1 (.cells #[] 98)
  have O7 := nil_row (w6.setCell ⟨w.heap.size, 1, none⟩ (.slice a3 es.length c3)) 98 7
  rw [World.size_setCell] at O7
  have q0 : w6.cell? ⟨w.heap.size, 0, none⟩ = some (.slice a2 ts.length c2) := cell_at n0 0
  have q1 : w6.cell? ⟨w.heap.size, 1, none⟩ = some (.slice (some ⟨d, u, none⟩) es.length cap2) := cell_at n0 1
  have q2 : w6.cell? ⟨w.heap.size, 2, none⟩ = some (.slice none 0 0) := cell_at n0 2
  have q3 : w6.cell? ⟨w.heap.size, 3, none⟩ = some (.slice none 0 0) := cell_at n0 3
  have q4 : w6.cell? ⟨w.heap.size, 4, none⟩ = some (.slice none 0 0) := cell_at n0 4
  have q5 : w6.cell? ⟨w.heap.size, 5, none⟩ = some (.int .i64 td) := cell_at n0 5
  have r1 : w6.frozen? ⟨w.heap.size, 1, none⟩ = false := frozen_at n0 1
  have p2 : ((w6.setCell ⟨w.heap.size, 1, none⟩ (.slice a3 es.length c3)).alloc (.cells #[] 98)).cell? ⟨w.heap.size, 2, none⟩ = some (.slice none 0 0) := cell_at t0 2
  have x2 : ((w6.setCell ⟨w.heap.size, 1, none⟩ (.slice a3 es.length c3)).alloc (.cells #[] 98)).frozen? ⟨w.heap.size, 2, none⟩ = false := frozen_at t0 2
  go_wp2_with (at_builtin; refine wpList_append_own_none rfl _ _ 24 rfl w6.heap.size 98 i1 7 Tryz.underlying24 hi1 _ _ _ rfl O7 rfl ?_)
  have HQ : Hid (∀ W, Kp v0.heap.size w6 W → Trains W a2 ts ∧ Edges W a3 es) := fun W k => ⟨(HT.kp k).trains, HE.out W k⟩
  go_wp2
  go_loopw [3, 4] (fun s i wr => i = .int .i64 0 ∧ Hid (∃ g2 g3, s = .slice (some ⟨g3, 0, none⟩) 0 0 ∧ wr.heap[w.heap.size]? = some (.cells #[.slice a2 ts.length c2, .slice a3 es.length c3, .slice (some ⟨g2, 0, none⟩) 0 0, .slice none 0 0, .slice none 0 0, .int .i64 td] 28) ∧ wr.heap[w.heap.size + 1]? = some (.cells #[.slice none 0 0, .slice none 0 0, .slice none 0 0, .slice none 0 0, .slice none 0 0, .int .i64 0] 28) ∧ Kp v0.heap.size w6 wr ∧ Below w.heap.size w wr)) (fun _ _ _ => 0)
  case atStart =>
    refine ⟨rfl, w6.heap.size, _, rfl, ?_, ?_, ?_, ?_⟩
    · exact heap_old (h_set (i := 2) t0 _) _
    · exact heap_old (h_other (i := 2) t1 (by omega) _) _
    · exact Kp.allocR (Kp.setR (Kp.allocR (Kp.setR (Kp.refl _ _) (by omega))) (by omega))
    · exact join_below (Below.setCell (join_below (B6.setCell (Nat.le_refl _) _) (new_below _ _)) (Nat.le_refl _) _) (new_below _ _)
  case round =>
    obtain ⟨rfl, HR⟩ := hrel
    obtain ⟨g2, g3, rfl, j0, j1, KR, BR⟩ := HR.out
    clear HR O7 s0 s1 t0 t1 q0 q1 q2 q3 q4 q5 r1 p2 x2 n0 n1
    have s0 : (wr.setCell ⟨w.heap.size, 3, none⟩ (.slice (some ⟨g3, 0, none⟩) 0 0)).heap[w.heap.size]? = some (.cells #[.slice a2 ts.length c2, .slice a3 es.length c3, .slice (some ⟨g2, 0, none⟩) 0 0, .slice (some ⟨g3, 0, none⟩) 0 0, .slice none 0 0, .int .i64 td] 28) := h_set (i := 3) j0 _
    have s1 : (wr.setCell ⟨w.heap.size, 3, none⟩ (.slice (some ⟨g3, 0, none⟩) 0 0)).heap[w.heap.size + 1]? = some (.cells #[.slice none 0 0, .slice none 0 0, .slice none 0 0, .slice none 0 0, .slice none 0 0, .int .i64 0] 28) := h_other (i := 3) j1 (by omega) _
    have t0 := heap_old s0 (.cells #[] 103)
    have t1 := heap_old s1 (.cells #[] 103)
    have O9 := nil_row (wr.setCell ⟨w.heap.size, 3, none⟩ (.slice (some ⟨g3, 0, none⟩) 0 0)) 103 4
    rw [World.size_setCell] at O9
    have y0 : (((wr.setCell ⟨w.heap.size, 3, none⟩ (.slice (some ⟨g3, 0, none⟩) 0 0)).alloc (.cells #[] 103)).setCell ⟨w.heap.size, 4, none⟩ (.slice (some ⟨wr.heap.size, 0, none⟩) 0 0)).heap[w.heap.size]? = some (.cells #[.slice a2 ts.length c2, .slice a3 es.length c3, .slice (some ⟨g2, 0, none⟩) 0 0, .slice (some ⟨g3, 0, none⟩) 0 0, .slice (some ⟨wr.heap.size, 0, none⟩) 0 0, .int .i64 td] 28) := h_set (i := 4) t0 _
    have y1 : (((wr.setCell ⟨w.heap.size, 3, none⟩ (.slice (some ⟨g3, 0, none⟩) 0 0)).alloc (.cells #[] 103)).setCell ⟨w.heap.size, 4, none⟩ (.slice (some ⟨wr.heap.size, 0, none⟩) 0 0)).heap[w.heap.size + 1]? = some (.cells #[.slice none 0 0, .slice none 0 0, .slice none 0 0, .slice none 0 0, .slice none 0 0, .int .i64 0] 28) := h_other (i := 4) t1 (by omega) _
    have q3 : wr.cell? ⟨w.heap.size, 3, none⟩ = some (.slice none 0 0) := cell_at j0 3
    have r3 : wr.frozen? ⟨w.heap.size, 3, none⟩ = false := frozen_at j0 3
    have p4 : ((wr.setCell ⟨w.heap.size, 3, none⟩ (.slice (some ⟨g3, 0, none⟩) 0 0)).alloc (.cells #[] 103)).cell? ⟨w.heap.size, 4, none⟩ = some (.slice none 0 0) := cell_at t0 4
    have x4 : ((wr.setCell ⟨w.heap.size, 3, none⟩ (.slice (some ⟨g3, 0, none⟩) 0 0)).alloc (.cells #[] 103)).frozen? ⟨w.heap.size, 4, none⟩ = false := frozen_at t0 4
    have l0 : (((wr.setCell ⟨w.heap.size, 3, none⟩ (.slice (some ⟨g3, 0, none⟩) 0 0)).alloc (.cells #[] 103)).setCell ⟨w.heap.size, 4, none⟩ (.slice (some ⟨wr.heap.size, 0, none⟩) 0 0)).cell? ⟨w.heap.size, 0, none⟩ = some (.slice a2 ts.length c2) := cell_at y0 0
    have l1 : (((wr.setCell ⟨w.heap.size, 3, none⟩ (.slice (some ⟨g3, 0, none⟩) 0 0)).alloc (.cells #[] 103)).setCell ⟨w.heap.size, 4, none⟩ (.slice (some ⟨wr.heap.size, 0, none⟩) 0 0)).cell? ⟨w.heap.size, 1, none⟩ = some (.slice a3 es.length c3) := cell_at y0 1
    have l2 : (((wr.setCell ⟨w.heap.size, 3, none⟩ (.slice (some ⟨g3, 0, none⟩) 0 0)).alloc (.cells #[] 103)).setCell ⟨w.heap.size, 4, none⟩ (.slice (some ⟨wr.heap.size, 0, none⟩) 0 0)).cell? ⟨w.heap.size, 2, none⟩ = some (.slice (some ⟨g2, 0, none⟩) 0 0) := cell_at y0 2
    have l3 : (((wr.setCell ⟨w.heap.size, 3, none⟩ (.slice (some ⟨g3, 0, none⟩) 0 0)).alloc (.cells #[] 103)).setCell ⟨w.heap.size, 4, none⟩ (.slice (some ⟨wr.heap.size, 0, none⟩) 0 0)).cell? ⟨w.heap.size, 3, none⟩ = some (.slice (some ⟨g3, 0, none⟩) 0 0) := cell_at y0 3
    have l4 : (((wr.setCell ⟨w.heap.size, 3, none⟩ (.slice (some ⟨g3, 0, none⟩) 0 0)).alloc (.cells #[] 103)).setCell ⟨w.heap.size, 4, none⟩ (.slice (some ⟨wr.heap.size, 0, none⟩) 0 0)).cell? ⟨w.heap.size, 4, none⟩ = some (.slice (some ⟨wr.heap.size, 0, none⟩) 0 0) := cell_at y0 4
    have l5 : (((wr.setCell ⟨w.heap.size, 3, none⟩ (.slice (some ⟨g3, 0, none⟩) 0 0)).alloc (.cells #[] 103)).setCell ⟨w.heap.size, 4, none⟩ (.slice (some ⟨wr.heap.size, 0, none⟩) 0 0)).cell? ⟨w.heap.size, 5, none⟩ = some (.int .i64 td) := cell_at y0 5
    have z0 : (((wr.setCell ⟨w.heap.size, 3, none⟩ (.slice (some ⟨g3, 0, none⟩) 0 0)).alloc (.cells #[] 103)).setCell ⟨w.heap.size, 4, none⟩ (.slice (some ⟨wr.heap.size, 0, none⟩) 0 0)).cell? ⟨w.heap.size + 1, 0, none⟩ = some (.slice none 0 0) := cell_at y1 0
    have z1 : (((wr.setCell ⟨w.heap.size, 3, none⟩ (.slice (some ⟨g3, 0, none⟩) 0 0)).alloc (.cells #[] 103)).setCell ⟨w.heap.size, 4, none⟩ (.slice (some ⟨wr.heap.size, 0, none⟩) 0 0)).cell? ⟨w.heap.size + 1, 1, none⟩ = some (.slice none 0 0) := cell_at y1 1
    have z2 : (((wr.setCell ⟨w.heap.size, 3, none⟩ (.slice (some ⟨g3, 0, none⟩) 0 0)).alloc (.cells #[] 103)).setCell ⟨w.heap.size, 4, none⟩ (.slice (some ⟨wr.heap.size, 0, none⟩) 0 0)).cell? ⟨w.heap.size + 1, 2, none⟩ = some (.slice none 0 0) := cell_at y1 2
    have z3 : (((wr.setCell ⟨w.heap.size, 3, none⟩ (.slice (some ⟨g3, 0, none⟩) 0 0)).alloc (.cells #[] 103)).setCell ⟨w.heap.size, 4, none⟩ (.slice (some ⟨wr.heap.size, 0, none⟩) 0 0)).cell? ⟨w.heap.size + 1, 3, none⟩ = some (.slice none 0 0) := cell_at y1 3
    have z4 : (((wr.setCell ⟨w.heap.size, 3, none⟩ (.slice (some ⟨g3, 0, none⟩) 0 0)).alloc (.cells #[] 103)).setCell ⟨w.heap.size, 4, none⟩ (.slice (some ⟨wr.heap.size, 0, none⟩) 0 0)).cell? ⟨w.heap.size + 1, 4, none⟩ = some (.slice none 0 0) := cell_at y1 4
    have z5 : (((wr.setCell ⟨w.heap.size, 3, none⟩ (.slice (some ⟨g3, 0, none⟩) 0 0)).alloc (.cells #[] 103)).setCell ⟨w.heap.size, 4, none⟩ (.slice (some ⟨wr.heap.size, 0, none⟩) 0 0)).cell? ⟨w.heap.size + 1, 5, none⟩ = some (.int .i64 0) := cell_at y1 5
    have f0 : (((wr.setCell ⟨w.heap.size, 3, none⟩ (.slice (some ⟨g3, 0, none⟩) 0 0)).alloc (.cells #[] 103)).setCell ⟨w.heap.size, 4, none⟩ (.slice (some ⟨wr.heap.size, 0, none⟩) 0 0)).frozen? ⟨w.heap.size + 1, 0, none⟩ = false := frozen_at y1 0
    have f1 : (((wr.setCell ⟨w.heap.size, 3, none⟩ (.slice (some ⟨g3, 0, none⟩) 0 0)).alloc (.cells #[] 103)).setCell ⟨w.heap.size, 4, none⟩ (.slice (some ⟨wr.heap.size, 0, none⟩) 0 0)).frozen? ⟨w.heap.size + 1, 1, none⟩ = false := frozen_at y1 1
    have f2 : (((wr.setCell ⟨w.heap.size, 3, none⟩ (.slice (some ⟨g3, 0, none⟩) 0 0)).alloc (.cells #[] 103)).setCell ⟨w.heap.size, 4, none⟩ (.slice (some ⟨wr.heap.size, 0, none⟩) 0 0)).frozen? ⟨w.heap.size + 1, 2, none⟩ = false := frozen_at y1 2
    have f3 : (((wr.setCell ⟨w.heap.size, 3, none⟩ (.slice (some ⟨g3, 0, none⟩) 0 0)).alloc (.cells #[] 103)).setCell ⟨w.heap.size, 4, none⟩ (.slice (some ⟨wr.heap.size, 0, none⟩) 0 0)).frozen? ⟨w.heap.size + 1, 3, none⟩ = false := frozen_at y1 3
    have f4 : (((wr.setCell ⟨w.heap.size, 3, none⟩ (.slice (some ⟨g3, 0, none⟩) 0 0)).alloc (.cells #[] 103)).setCell ⟨w.heap.size, 4, none⟩ (.slice (some ⟨wr.heap.size, 0, none⟩) 0 0)).frozen? ⟨w.heap.size + 1, 4, none⟩ = false := frozen_at y1 4
    have f5 : (((wr.setCell ⟨w.heap.size, 3, none⟩ (.slice (some ⟨g3, 0, none⟩) 0 0)).alloc (.cells #[] 103)).setCell ⟨w.heap.size, 4, none⟩ (.slice (some ⟨wr.heap.size, 0, none⟩) 0 0)).frozen? ⟨w.heap.size + 1, 5, none⟩ = false := frozen_at y1 5
    go_wp2_with (at_builtin; refine wpList_append_own_none rfl _ _ 26 rfl wr.heap.size 103 i2 4 Tryz.underlying26 hi2 _ _ _ rfl O9 rfl ?_)
    go_wp2
    refine bodyPost_ret (v := .agg #[.slice a2 ts.length c2, .slice a3 es.length c3, .slice (some ⟨g2, 0, none⟩) 0 0, .slice (some ⟨g3, 0, none⟩) 0 0, .slice (some ⟨wr.heap.size, 0, none⟩) 0 0, .int .i64 td]) (by simp [results, Tryz.results35, go_sem, z0, z1, z2, z3, z4, z5]) rfl ?_
    have hbr : w.heap.size ≤ wr.heap.size := BR.size
    have HK : ∀ W, Kp v0.heap.size wr W → In W ⟨a2, a3, some ⟨g2, 0, none⟩, some ⟨g3, 0, none⟩, some ⟨wr.heap.size, 0, none⟩, c2, c3, 0, 0, 0⟩ ⟨ts, es, [], [], [], td⟩ := fun W k => ⟨(HQ.out W (KR.trans k)).1, (HQ.out W (KR.trans k)).2, Or.inl rfl, Or.inl rfl, Or.inl rfl⟩
    refine ⟨⟨a2, a3, some ⟨g2, 0, none⟩, some ⟨g3, 0, none⟩, some ⟨wr.heap.size, 0, none⟩, c2, c3, 0, 0, 0⟩, rfl, fun W k => HK W (Kp.trans ?_ (k.mono (by omega))), ?_⟩
    · (repeat' (first | with_reducible exact Kp.refl _ _ | with_reducible apply Kp.setR | with_reducible apply Kp.allocR)) <;> omega
    · (repeat' (first | with_reducible exact BR | apply Below.setCell | apply Below.alloc)) <;> first | (simp; done) | (simp; omega)

end Dk
end Go.Proofs.YtmoinacceildcaaGreatDoor

/- Texts laid into one, in their order: OfGen2, DkCopy, OfGenS, OfGenT, OfSold, SeMeetS, SeHoldsS, SeMap, SeAdd, SeFree, OfOk, OfOkS. -/
import Derived.Test.YtehmlnojjfeheaaGreatOfGen
import Derived.Test.YtehmlnojjfeheaaGreatOfAnyZ
import Derived.Laws.AppendOwnNone
import Derived.Test.YtehmlnojjfeheaaGreatOfOff
import Derived.Test.YtehmlnojjfeheaaGreatSeOk
import Derived.Maps.RangeWalk
import Derived.Test.YtehmlnojjfeheaaGreatSeMeet
import Derived.Maps.AppendAt
import Derived.BigRegion
import Derived.DeepKeys4
import Derived.WideKeyEntry
import Derived.Test.YtehmlnojjfeheaaGreatTnLinesS
import Derived.Test.YtehmlnojjfeheaaGreatTfOkS
import Derived.BigQuiet
/- closed and copyOffice of the program, over any office whose lists are slices as they come. -/
namespace Go.Proofs.YtehmlnojjfeheaaGreat
namespace Of
open Go.ChangeShapes Go.WideShapes Go.ChangeAt Go.RowKit
open Pk (new_below join_below cell_at heap_new frozen_at lt_of kept heap_old info_of Room own_form)
open Rd (Ri Rides)
open Od (Oo)
open Tn (Tr Trains)
set_option linter.unusedSimpArgs false
set_option linter.unusedVariables false

theorem closedG_val (x : Pl) (o : Offc) (w : World) :
    Calls Tryz.prog 57 #[.agg #[.slice x.a2 o.ho.length x.c2, .slice x.a0 o.ln.length x.c0, .slice x.a1 o.ta.length x.c1, .slice x.a3 o.od.length x.c3, .slice x.a4 o.to.length x.c4, .int .i64 o.td]] w fun e w' => e = .returned (ofV x o) ∧ Below w.heap.size w w' := by
  go_enter Tryz.func57, Tryz.ntmps57
  go_wp2
  refine bodyPost_ret (v := .agg #[.slice x.a0 o.ln.length x.c0, .slice x.a1 o.ta.length x.c1, .slice x.a2 o.ho.length x.c2, .slice x.a3 o.od.length x.c3, .slice x.a4 o.to.length x.c4, .int .i64 o.td]) (by simp [results, Tryz.results57, go_sem]) rfl ?_
  refine ⟨rfl, ?_⟩
  (repeat' (first | apply Below.setCell | apply Below.alloc | exact Below.refl _ _)) <;> first | (simp; done) | (simp; omega)

set_option maxRecDepth 100000 in
set_option maxHeartbeats 4000000 in
theorem copyOffG_val (HCS : ∀ (s : ByteArray) (W : World), s.size ≤ 1048576 → Calls Tryz.prog 109 #[.string s] W fun e w' => e = .returned (.string s) ∧ Below W.heap.size W w') (b0 p0 b1 p1 b2 p2 b3 p3 b4 p4 k0 k1 k2 k3 k4 : Nat) (o : Offc) (w : World) (hb0 : b0 < w.heap.size) (hb1 : b1 < w.heap.size) (hb2 : b2 < w.heap.size) (hb3 : b3 < w.heap.size) (hb4 : b4 < w.heap.size) (hn : o.ln.length ≤ 1048576 ∧ o.ta.length ≤ 1048576 ∧ o.ho.length ≤ 1048576 ∧ o.od.length ≤ 1048576 ∧ o.to.length ≤ 1048576) (hs : ∀ i (h : i < o.ln.length), 1 ≤ o.ln[i].l.length ∧ o.ln[i].l.length ≤ 1048576) (hr : ∀ i (h : i < o.od.length), o.od[i].l.length ≤ 1048576 ∧ o.od[i].h.nm.size ≤ 1048576) (I0 : Trains w (some ⟨b0, p0, none⟩) o.ln) (I1 : Tf.Edges w (some ⟨b1, p1, none⟩) o.ta) (I2 : Se.Holds w (some ⟨b2, p2, none⟩) o.ho) (I3 : OrdS w b3 p3 o.od) (I4 : Rp.Replys w (some ⟨b4, p4, none⟩) o.to) :
    Calls Tryz.prog 26 #[.agg #[.slice (some ⟨b0, p0, none⟩) o.ln.length k0, .slice (some ⟨b1, p1, none⟩) o.ta.length k1, .slice (some ⟨b2, p2, none⟩) o.ho.length k2, .slice (some ⟨b3, p3, none⟩) o.od.length k3, .slice (some ⟨b4, p4, none⟩) o.to.length k4, .int .i64 o.td]] w fun e w' => ∃ (x : Pl) (m0 m1 m2 m3 m4 m5 : Nat) (gf cf hf : Nat → Nat), e = .returned (ofV x o) ∧ w.heap.size ≤ m0 ∧ OG w' m0 m1 m2 m3 m4 m5 x o gf cf hf ∧ Below w.heap.size w w' := by
  have j0 : ((w.alloc (.cells #[.slice (some ⟨b0, p0, none⟩) o.ln.length k0, .slice (some ⟨b1, p1, none⟩) o.ta.length k1, .slice (some ⟨b2, p2, none⟩) o.ho.length k2, .slice (some ⟨b3, p3, none⟩) o.od.length k3, .slice (some ⟨b4, p4, none⟩) o.to.length k4, .int .i64 o.td] 36)).alloc (.cells #[.slice none 0 0, .slice none 0 0, .slice none 0 0, .slice none 0 0, .slice none 0 0, .int .i64 0] 36)).heap[w.heap.size]? = some (.cells #[.slice (some ⟨b0, p0, none⟩) o.ln.length k0, .slice (some ⟨b1, p1, none⟩) o.ta.length k1, .slice (some ⟨b2, p2, none⟩) o.ho.length k2, .slice (some ⟨b3, p3, none⟩) o.od.length k3, .slice (some ⟨b4, p4, none⟩) o.to.length k4, .int .i64 o.td] 36) := heap_old (heap_new w _) _
  have j1 : ((w.alloc (.cells #[.slice (some ⟨b0, p0, none⟩) o.ln.length k0, .slice (some ⟨b1, p1, none⟩) o.ta.length k1, .slice (some ⟨b2, p2, none⟩) o.ho.length k2, .slice (some ⟨b3, p3, none⟩) o.od.length k3, .slice (some ⟨b4, p4, none⟩) o.to.length k4, .int .i64 o.td] 36)).alloc (.cells #[.slice none 0 0, .slice none 0 0, .slice none 0 0, .slice none 0 0, .slice none 0 0, .int .i64 0] 36)).heap[w.heap.size + 1]? = some (.cells #[.slice none 0 0, .slice none 0 0, .slice none 0 0, .slice none 0 0, .slice none 0 0, .int .i64 0] 36) := by rw [← show (w.alloc (.cells #[.slice (some ⟨b0, p0, none⟩) o.ln.length k0, .slice (some ⟨b1, p1, none⟩) o.ta.length k1, .slice (some ⟨b2, p2, none⟩) o.ho.length k2, .slice (some ⟨b3, p3, none⟩) o.od.length k3, .slice (some ⟨b4, p4, none⟩) o.to.length k4, .int .i64 o.td] 36)).heap.size = w.heap.size + 1 from Array.size_push ..]; exact heap_new _ _
  have N : Below w.heap.size w ((w.alloc (.cells #[.slice (some ⟨b0, p0, none⟩) o.ln.length k0, .slice (some ⟨b1, p1, none⟩) o.ta.length k1, .slice (some ⟨b2, p2, none⟩) o.ho.length k2, .slice (some ⟨b3, p3, none⟩) o.od.length k3, .slice (some ⟨b4, p4, none⟩) o.to.length k4, .int .i64 o.td] 36)).alloc (.cells #[.slice none 0 0, .slice none 0 0, .slice none 0 0, .slice none 0 0, .slice none 0 0, .int .i64 0] 36)) := join_below (new_below _ _) (new_below _ _)
  have HO : Hid (∀ W, Below w.heap.size w W → _) := fun W (L : Below w.heap.size w W) => openedG_val HCS b0 p0 b1 p1 b2 p2 b3 p3 b4 p4 k0 k1 k2 k3 k4 o W (Nat.lt_of_lt_of_le hb0 L.size) (Nat.lt_of_lt_of_le hb1 L.size) (Nat.lt_of_lt_of_le hb2 L.size) (Nat.lt_of_lt_of_le hb3 L.size) (Nat.lt_of_lt_of_le hb4 L.size) hn hs hr (I0.on L) (I1.on L) (I2.on L) (I3.on L hb3) (I4.on L)
  have HC : Hid (∀ (x : Pl) (W : World), _) := fun x W => closedG_val x o W
  clear I0 I1 I2 I3 I4 hs hr hn HCS hb0 hb1 hb2 hb3 hb4
  have s0 : ((w.alloc (.cells #[.slice (some ⟨b0, p0, none⟩) o.ln.length k0, .slice (some ⟨b1, p1, none⟩) o.ta.length k1, .slice (some ⟨b2, p2, none⟩) o.ho.length k2, .slice (some ⟨b3, p3, none⟩) o.od.length k3, .slice (some ⟨b4, p4, none⟩) o.to.length k4, .int .i64 o.td] 36)).alloc (.cells #[.slice none 0 0, .slice none 0 0, .slice none 0 0, .slice none 0 0, .slice none 0 0, .int .i64 0] 36)).cell? ⟨w.heap.size, 0, none⟩ = some (.slice (some ⟨b0, p0, none⟩) o.ln.length k0) := cell_at j0 0
  have s1 : ((w.alloc (.cells #[.slice (some ⟨b0, p0, none⟩) o.ln.length k0, .slice (some ⟨b1, p1, none⟩) o.ta.length k1, .slice (some ⟨b2, p2, none⟩) o.ho.length k2, .slice (some ⟨b3, p3, none⟩) o.od.length k3, .slice (some ⟨b4, p4, none⟩) o.to.length k4, .int .i64 o.td] 36)).alloc (.cells #[.slice none 0 0, .slice none 0 0, .slice none 0 0, .slice none 0 0, .slice none 0 0, .int .i64 0] 36)).cell? ⟨w.heap.size, 1, none⟩ = some (.slice (some ⟨b1, p1, none⟩) o.ta.length k1) := cell_at j0 1
  have s2 : ((w.alloc (.cells #[.slice (some ⟨b0, p0, none⟩) o.ln.length k0, .slice (some ⟨b1, p1, none⟩) o.ta.length k1, .slice (some ⟨b2, p2, none⟩) o.ho.length k2, .slice (some ⟨b3, p3, none⟩) o.od.length k3, .slice (some ⟨b4, p4, none⟩) o.to.length k4, .int .i64 o.td] 36)).alloc (.cells #[.slice none 0 0, .slice none 0 0, .slice none 0 0, .slice none 0 0, .slice none 0 0, .int .i64 0] 36)).cell? ⟨w.heap.size, 2, none⟩ = some (.slice (some ⟨b2, p2, none⟩) o.ho.length k2) := cell_at j0 2
  have s3 : ((w.alloc (.cells #[.slice (some ⟨b0, p0, none⟩) o.ln.length k0, .slice (some ⟨b1, p1, none⟩) o.ta.length k1, .slice (some ⟨b2, p2, none⟩) o.ho.length k2, .slice (some ⟨b3, p3, none⟩) o.od.length k3, .slice (some ⟨b4, p4, none⟩) o.to.length k4, .int .i64 o.td] 36)).alloc (.cells #[.slice none 0 0, .slice none 0 0, .slice none 0 0, .slice none 0 0, .slice none 0 0, .int .i64 0] 36)).cell? ⟨w.heap.size, 3, none⟩ = some (.slice (some ⟨b3, p3, none⟩) o.od.length k3) := cell_at j0 3
  have s4 : ((w.alloc (.cells #[.slice (some ⟨b0, p0, none⟩) o.ln.length k0, .slice (some ⟨b1, p1, none⟩) o.ta.length k1, .slice (some ⟨b2, p2, none⟩) o.ho.length k2, .slice (some ⟨b3, p3, none⟩) o.od.length k3, .slice (some ⟨b4, p4, none⟩) o.to.length k4, .int .i64 o.td] 36)).alloc (.cells #[.slice none 0 0, .slice none 0 0, .slice none 0 0, .slice none 0 0, .slice none 0 0, .int .i64 0] 36)).cell? ⟨w.heap.size, 4, none⟩ = some (.slice (some ⟨b4, p4, none⟩) o.to.length k4) := cell_at j0 4
  have s5 : ((w.alloc (.cells #[.slice (some ⟨b0, p0, none⟩) o.ln.length k0, .slice (some ⟨b1, p1, none⟩) o.ta.length k1, .slice (some ⟨b2, p2, none⟩) o.ho.length k2, .slice (some ⟨b3, p3, none⟩) o.od.length k3, .slice (some ⟨b4, p4, none⟩) o.to.length k4, .int .i64 o.td] 36)).alloc (.cells #[.slice none 0 0, .slice none 0 0, .slice none 0 0, .slice none 0 0, .slice none 0 0, .int .i64 0] 36)).cell? ⟨w.heap.size, 5, none⟩ = some (.int .i64 o.td) := cell_at j0 5
  go_enter Tryz.func26, Tryz.ntmps26
  go_wp2_with fail
  refine (HO.out _ N).mono ?_
  generalize ((w.alloc (.cells #[.slice (some ⟨b0, p0, none⟩) o.ln.length k0, .slice (some ⟨b1, p1, none⟩) o.ta.length k1, .slice (some ⟨b2, p2, none⟩) o.ho.length k2, .slice (some ⟨b3, p3, none⟩) o.od.length k3, .slice (some ⟨b4, p4, none⟩) o.to.length k4, .int .i64 o.td] 36)).alloc (.cells #[.slice none 0 0, .slice none 0 0, .slice none 0 0, .slice none 0 0, .slice none 0 0, .int .i64 0] 36)) = v0 at *
  rintro e w4 ⟨x, m0, m1, m2, m3, m4, m5, gf, cf, hf, rfl, hm0, S4, L4⟩
  have q4 := kept L4 (lt_of j1) j1
  have N4 := join_below N L4
  have hv0 : w.heap.size + 1 < v0.heap.size := lt_of j1
  go_wp2_with fail
  refine (HC.out x _).mono ?_
  rintro e w5 ⟨rfl, L5⟩
  have q5 := kept L5 (lt_of q4) q4
  have S5 := S4.kh ((Kh.refl _ _).of L5)
  have N5 := join_below N4 L5
  have z0 : w5.cell? ⟨w.heap.size + 1, 0, none⟩ = some (.slice none 0 0) := cell_at q5 0
  have z1 : w5.cell? ⟨w.heap.size + 1, 1, none⟩ = some (.slice none 0 0) := cell_at q5 1
  have z2 : w5.cell? ⟨w.heap.size + 1, 2, none⟩ = some (.slice none 0 0) := cell_at q5 2
  have z3 : w5.cell? ⟨w.heap.size + 1, 3, none⟩ = some (.slice none 0 0) := cell_at q5 3
  have z4 : w5.cell? ⟨w.heap.size + 1, 4, none⟩ = some (.slice none 0 0) := cell_at q5 4
  have z5 : w5.cell? ⟨w.heap.size + 1, 5, none⟩ = some (.int .i64 0) := cell_at q5 5
  have f0 : w5.frozen? ⟨w.heap.size + 1, 0, none⟩ = false := frozen_at q5 0
  have f1 : w5.frozen? ⟨w.heap.size + 1, 1, none⟩ = false := frozen_at q5 1
  have f2 : w5.frozen? ⟨w.heap.size + 1, 2, none⟩ = false := frozen_at q5 2
  have f3 : w5.frozen? ⟨w.heap.size + 1, 3, none⟩ = false := frozen_at q5 3
  have f4 : w5.frozen? ⟨w.heap.size + 1, 4, none⟩ = false := frozen_at q5 4
  have f5 : w5.frozen? ⟨w.heap.size + 1, 5, none⟩ = false := frozen_at q5 5
  clear q4 q5 S4 N4 L5 L4 j0 j1 s0 s1 s2 s3 s4 s5
  go_wp2
  refine bodyPost_ret (v := .agg #[.slice x.a0 o.ln.length x.c0, .slice x.a1 o.ta.length x.c1, .slice x.a2 o.ho.length x.c2, .slice x.a3 o.od.length x.c3, .slice x.a4 o.to.length x.c4, .int .i64 o.td]) (by simp [results, Tryz.results26, go_sem, z0, z1, z2, z3, z4, z5]) rfl ?_
  refine ⟨x, m0, m1, m2, m3, m4, m5, gf, cf, hf, rfl, by omega, S5.kh ?_, ?_⟩
  · (repeat' (first | with_reducible exact Kh.refl _ _ | with_reducible apply Kh.setG | with_reducible apply Kh.drewG)) <;> omega
  · (repeat' (first | with_reducible exact N5 | with_reducible apply Below.setCell | with_reducible apply Below.drew)) <;> first | (simp; done) | (simp; omega)

end Of
end Go.Proofs.YtehmlnojjfeheaaGreat

/- Copies of an office that begins (no holds, orders, replies): the program's copyOffice, the model's l09Copy. -/
namespace Go.Proofs.YtehmlnojjfeheaaGreat
namespace Dk
open Go.ChangeShapes Go.WideShapes Go.ChangeAt Go.RowKit
open Pk (new_below join_below cell_at heap_new frozen_at lt_of kept heap_old info_of Room own_form)
open Of (Kp put6 put6_below St Et Lw opened_val closed_val copyS_val nil_row edges_cells snap snap_len snap_get snap_one snap_at own_g et_mk h_set h_other Offc Pl ofV In)
open Tn (Tr Trains)
open Tf (Ed Edges)
set_option linter.unusedSimpArgs false
set_option linter.unusedVariables false

theorem two_blocks (w : World) (a b : Obj) : ((w.alloc a).alloc b).heap[w.heap.size]? = some a ∧ ((w.alloc a).alloc b).heap[w.heap.size + 1]? = some b ∧ ((w.alloc a).alloc b).heap.size = w.heap.size + 1 + 1 := by
  have e1 : (w.alloc a).heap.size = w.heap.size + 1 := Array.size_push ..
  refine ⟨heap_old (heap_new w a) b, ?_, ?_⟩
  · rw [← e1]; exact heap_new (w.alloc a) b
  · rw [← e1]; exact Array.size_push ..

theorem _root_.Go.Proofs.YtehmlnojjfeheaaGreat.Of.Kp.mono {lo lo' : Nat} {w w1 : World} (k : Kp lo w w1) (h : lo ≤ lo') : Kp lo' w w1 := ⟨k.1, fun p h1 h2 => k.2 p (Nat.le_trans h h1) h2⟩

/-- Its lists lie from lo on. -/
def InK (lo : Nat) (w : World) (x : Pl) (o : Offc) : Prop := ∀ W, Kp lo w W → In W x o

theorem InK.kp {lo : Nat} {w w1 : World} {x : Pl} {o : Offc} (h : InK lo w x o) (k : Kp lo w w1) : InK lo w1 x o := fun W k2 => h W (k.trans k2)
theorem InK.on {lo : Nat} {w w1 : World} {x : Pl} {o : Offc} (h : InK lo w x o) (L : Below w.heap.size w w1) : InK lo w1 x o := h.kp (Kp.of L)
theorem InK.wide {lo lo' : Nat} {w : World} {x : Pl} {o : Offc} (h : InK lo w x o) (hl : lo' ≤ lo) : InK lo' w x o := fun W k => h W (k.mono hl)
theorem InK.in {lo : Nat} {w : World} {x : Pl} {o : Offc} (h : InK lo w x o) : In w x o := h w ⟨Nat.le_refl _, fun _ _ _ => rfl⟩

theorem Kp.refl (lo : Nat) (w : World) : Kp lo w w := ⟨Nat.le_refl _, fun _ _ _ => rfl⟩
theorem Kp.setR {lo g i : Nat} {w W : World} {v : Value} (k : Kp lo w W) (h : g < lo) : Kp lo w (W.setCell ⟨g, i, none⟩ v) := k.trans (Kp.set v h)
theorem Kp.allocR {lo : Nat} {w W : World} {x : Obj} (k : Kp lo w W) : Kp lo w (W.alloc x) := k.trans (Kp.of (new_below _ _))

set_option maxRecDepth 100000 in
set_option maxHeartbeats 4000000 in
theorem copyOff_val (b o d u : Nat) (ts : List Tr) (es : List Ed) (cap cap2 : Nat) (td : Int) (w : World) (hn : ts.length ≤ 1048576) (hm : es.length ≤ 1048576) (hb : b < w.heap.size) (hd : d < w.heap.size) (hs : ∀ i (h : i < ts.length), 1 ≤ ts[i].l.length ∧ ts[i].l.length ≤ 1048576) (I : Trains w (some ⟨b, o, none⟩) ts) (J : Edges w (some ⟨d, u, none⟩) es) :
    Calls Tryz.prog 26 #[.agg #[.slice (some ⟨b, o, none⟩) ts.length cap, .slice (some ⟨d, u, none⟩) es.length cap2, .slice none 0 0, .slice none 0 0, .slice none 0 0, .int .i64 td]] w fun e w' => ∃ a2 c2 a3 c3, e = .returned (.agg #[.slice a2 ts.length c2, .slice a3 es.length c3, .slice none 0 0, .slice none 0 0, .slice none 0 0, .int .i64 td]) ∧ St w' w.heap.size a2 a3 ts es ∧ Below w.heap.size w w' := by
  obtain ⟨k0, k1, hsz⟩ := two_blocks w (.cells #[.slice (some ⟨b, o, none⟩) ts.length cap, .slice (some ⟨d, u, none⟩) es.length cap2, .slice none 0 0, .slice none 0 0, .slice none 0 0, .int .i64 td] 36) (.cells #[.slice none 0 0, .slice none 0 0, .slice none 0 0, .slice none 0 0, .slice none 0 0, .int .i64 0] 36)
  have N : Below w.heap.size w ((w.alloc (.cells #[.slice (some ⟨b, o, none⟩) ts.length cap, .slice (some ⟨d, u, none⟩) es.length cap2, .slice none 0 0, .slice none 0 0, .slice none 0 0, .int .i64 td] 36)).alloc (.cells #[.slice none 0 0, .slice none 0 0, .slice none 0 0, .slice none 0 0, .slice none 0 0, .int .i64 0] 36)) := join_below (new_below _ _) (new_below _ _)
  have HO : Hid (∀ wx, Below w.heap.size w wx → _) := fun wx (L : Below w.heap.size w wx) => opened_val b o d u ts es cap cap2 td wx hn hm (Nat.lt_of_lt_of_le hb L.size) (Nat.lt_of_lt_of_le hd L.size) hs (I.on L) (J.on L)
  have HC : Hid (∀ a2 c2 a3 c3 wx, _) := fun a2 c2 a3 c3 wx => closed_val a2 a3 ts.length es.length c2 c3 td wx
  clear I J hm hb hd hn hs
  have a0 : ((w.alloc (.cells #[.slice (some ⟨b, o, none⟩) ts.length cap, .slice (some ⟨d, u, none⟩) es.length cap2, .slice none 0 0, .slice none 0 0, .slice none 0 0, .int .i64 td] 36)).alloc (.cells #[.slice none 0 0, .slice none 0 0, .slice none 0 0, .slice none 0 0, .slice none 0 0, .int .i64 0] 36)).cell? ⟨w.heap.size, 0, none⟩ = some (.slice (some ⟨b, o, none⟩) ts.length cap) := cell_at k0 0
  have a1 : ((w.alloc (.cells #[.slice (some ⟨b, o, none⟩) ts.length cap, .slice (some ⟨d, u, none⟩) es.length cap2, .slice none 0 0, .slice none 0 0, .slice none 0 0, .int .i64 td] 36)).alloc (.cells #[.slice none 0 0, .slice none 0 0, .slice none 0 0, .slice none 0 0, .slice none 0 0, .int .i64 0] 36)).cell? ⟨w.heap.size, 1, none⟩ = some (.slice (some ⟨d, u, none⟩) es.length cap2) := cell_at k0 1
  have aa2 : ((w.alloc (.cells #[.slice (some ⟨b, o, none⟩) ts.length cap, .slice (some ⟨d, u, none⟩) es.length cap2, .slice none 0 0, .slice none 0 0, .slice none 0 0, .int .i64 td] 36)).alloc (.cells #[.slice none 0 0, .slice none 0 0, .slice none 0 0, .slice none 0 0, .slice none 0 0, .int .i64 0] 36)).cell? ⟨w.heap.size, 2, none⟩ = some (.slice none 0 0) := cell_at k0 2
  have aa3 : ((w.alloc (.cells #[.slice (some ⟨b, o, none⟩) ts.length cap, .slice (some ⟨d, u, none⟩) es.length cap2, .slice none 0 0, .slice none 0 0, .slice none 0 0, .int .i64 td] 36)).alloc (.cells #[.slice none 0 0, .slice none 0 0, .slice none 0 0, .slice none 0 0, .slice none 0 0, .int .i64 0] 36)).cell? ⟨w.heap.size, 3, none⟩ = some (.slice none 0 0) := cell_at k0 3
  have a4 : ((w.alloc (.cells #[.slice (some ⟨b, o, none⟩) ts.length cap, .slice (some ⟨d, u, none⟩) es.length cap2, .slice none 0 0, .slice none 0 0, .slice none 0 0, .int .i64 td] 36)).alloc (.cells #[.slice none 0 0, .slice none 0 0, .slice none 0 0, .slice none 0 0, .slice none 0 0, .int .i64 0] 36)).cell? ⟨w.heap.size, 4, none⟩ = some (.slice none 0 0) := cell_at k0 4
  have a5 : ((w.alloc (.cells #[.slice (some ⟨b, o, none⟩) ts.length cap, .slice (some ⟨d, u, none⟩) es.length cap2, .slice none 0 0, .slice none 0 0, .slice none 0 0, .int .i64 td] 36)).alloc (.cells #[.slice none 0 0, .slice none 0 0, .slice none 0 0, .slice none 0 0, .slice none 0 0, .int .i64 0] 36)).cell? ⟨w.heap.size, 5, none⟩ = some (.int .i64 td) := cell_at k0 5
  go_enter Tryz.func26, Tryz.ntmps26
  go_wp2_with fail
  refine (HO.out _ N).mono ?_
  generalize ((w.alloc (.cells #[.slice (some ⟨b, o, none⟩) ts.length cap, .slice (some ⟨d, u, none⟩) es.length cap2, .slice none 0 0, .slice none 0 0, .slice none 0 0, .int .i64 td] 36)).alloc (.cells #[.slice none 0 0, .slice none 0 0, .slice none 0 0, .slice none 0 0, .slice none 0 0, .int .i64 0] 36)) = v0 at *
  rintro e w4 ⟨a2, c2, a3, c3, rfl, S4, L4⟩
  have m4 := kept L4 (lt_of k1) k1
  have N4 := join_below N L4
  go_wp2_with fail
  refine (HC.out a2 c2 a3 c3 _).mono ?_
  rintro e w5 ⟨rfl, L5⟩
  have m5 := kept L5 (lt_of m4) m4
  have S5 := S4.on L5
  have N5 := join_below N4 L5
  have z0 : w5.cell? ⟨w.heap.size + 1, 0, none⟩ = some (.slice none 0 0) := cell_at m5 0
  have z1 : w5.cell? ⟨w.heap.size + 1, 1, none⟩ = some (.slice none 0 0) := cell_at m5 1
  have z2 : w5.cell? ⟨w.heap.size + 1, 2, none⟩ = some (.slice none 0 0) := cell_at m5 2
  have z3 : w5.cell? ⟨w.heap.size + 1, 3, none⟩ = some (.slice none 0 0) := cell_at m5 3
  have z4 : w5.cell? ⟨w.heap.size + 1, 4, none⟩ = some (.slice none 0 0) := cell_at m5 4
  have z5 : w5.cell? ⟨w.heap.size + 1, 5, none⟩ = some (.int .i64 0) := cell_at m5 5
  have f0 : w5.frozen? ⟨w.heap.size + 1, 0, none⟩ = false := frozen_at m5 0
  have f1 : w5.frozen? ⟨w.heap.size + 1, 1, none⟩ = false := frozen_at m5 1
  have f2 : w5.frozen? ⟨w.heap.size + 1, 2, none⟩ = false := frozen_at m5 2
  have f3 : w5.frozen? ⟨w.heap.size + 1, 3, none⟩ = false := frozen_at m5 3
  have f4 : w5.frozen? ⟨w.heap.size + 1, 4, none⟩ = false := frozen_at m5 4
  have f5 : w5.frozen? ⟨w.heap.size + 1, 5, none⟩ = false := frozen_at m5 5
  have hR : w.heap.size + 1 < v0.heap.size := by omega
  clear m4 m5 S4 N4 L5 L4 k0 k1
  go_wp2
  refine bodyPost_ret (v := .agg #[.slice a2 ts.length c2, .slice a3 es.length c3, .slice none 0 0, .slice none 0 0, .slice none 0 0, .int .i64 td]) (by simp [results, Tryz.results26, go_sem, z0, z1, z2, z3, z4, z5]) rfl ?_
  exact ⟨a2, c2, a3, c3, rfl, (S5.put hR _ _ _ _ _ _).wide (by omega), put6_below N5 (Nat.le_succ _) _ _ _ _ _ _⟩

theorem edges_kq {w W : World} {lo lo' : Nat} {a : Option Addr} {es : List Ed} (h : Et w lo a es) (hl : lo' ≤ lo) (k : Kp lo' w W) : Edges W a es := by
  rcases h with h | ⟨g, rfl, h1, h2, h3, -⟩
  · exact Or.inl (List.length_eq_zero_iff.1 h)
  · rcases h3 with h3 | ⟨b, o, e, hb, hc⟩
    · exact Or.inl h3
    · refine Or.inr ⟨b, o, e, Nat.lt_of_lt_of_le hb k.1, fun i hi => ?_⟩
      simp only [Option.some.injEq, Addr.mk.injEq, and_true] at e
      obtain ⟨rfl, rfl⟩ := e
      rw [k.2 ⟨g, 0 + i * 3, none⟩ (Nat.le_trans hl h1) hb, k.2 ⟨g, 0 + i * 3 + 1, none⟩ (Nat.le_trans hl h1) hb, k.2 ⟨g, 0 + i * 3 + 2, none⟩ (Nat.le_trans hl h1) hb]
      exact hc i hi

set_option maxRecDepth 100000 in
set_option maxHeartbeats 4000000 in
theorem copyS_off (b o d u : Nat) (ts : List Tr) (es : List Ed) (cap cap2 : Nat) (td : Int) (w : World) (hn : ts.length ≤ 1048576) (hm : es.length ≤ 1048576) (hb : b < w.heap.size) (hd : d < w.heap.size) (hs : ∀ i (h : i < ts.length), 1 ≤ ts[i].l.length ∧ ts[i].l.length ≤ 1048576) (I : Trains w (some ⟨b, o, none⟩) ts) (J : Edges w (some ⟨d, u, none⟩) es) :
    Calls Tryz.prog 19 #[.agg #[.slice (some ⟨b, o, none⟩) ts.length cap, .slice (some ⟨d, u, none⟩) es.length cap2, .slice none 0 0, .slice none 0 0, .slice none 0 0, .int .i64 td]] w fun e w' => ∃ x : Pl, e = .returned (ofV x ⟨ts, es, [], [], [], td⟩) ∧ InK w.heap.size w' x ⟨ts, es, [], [], [], td⟩ ∧ Below w.heap.size w w' := by
  obtain ⟨k0, k1, hsz⟩ := two_blocks w (.cells #[.slice (some ⟨b, o, none⟩) ts.length cap, .slice (some ⟨d, u, none⟩) es.length cap2, .slice none 0 0, .slice none 0 0, .slice none 0 0, .int .i64 td] 36) (.cells #[.slice none 0 0, .slice none 0 0, .slice none 0 0, .slice none 0 0, .slice none 0 0, .int .i64 0] 36)
  obtain ⟨i0, hi, hz0, hz1, hz2⟩ := info_of Tf.info_edge
  obtain ⟨i1, hi1, -, -, -⟩ := info_of Se.info_hold
  obtain ⟨i2, hi2, -, -, -⟩ := info_of Rp.info_reply
  have N : Below w.heap.size w ((w.alloc (.cells #[.slice (some ⟨b, o, none⟩) ts.length cap, .slice (some ⟨d, u, none⟩) es.length cap2, .slice none 0 0, .slice none 0 0, .slice none 0 0, .int .i64 td] 36)).alloc (.cells #[.slice none 0 0, .slice none 0 0, .slice none 0 0, .slice none 0 0, .slice none 0 0, .int .i64 0] 36)) := join_below (new_below _ _) (new_below _ _)
  have HO : Hid (∀ wx, Below w.heap.size w wx → _) := fun wx (L : Below w.heap.size w wx) => copyS_val (some ⟨b, o, none⟩) ts cap wx hn hs (I.on L)
  clear I hb hn hs
  have q0 : ((w.alloc (.cells #[.slice (some ⟨b, o, none⟩) ts.length cap, .slice (some ⟨d, u, none⟩) es.length cap2, .slice none 0 0, .slice none 0 0, .slice none 0 0, .int .i64 td] 36)).alloc (.cells #[.slice none 0 0, .slice none 0 0, .slice none 0 0, .slice none 0 0, .slice none 0 0, .int .i64 0] 36)).cell? ⟨w.heap.size, 0, none⟩ = some (.slice (some ⟨b, o, none⟩) ts.length cap) := cell_at k0 0
  have q1 : ((w.alloc (.cells #[.slice (some ⟨b, o, none⟩) ts.length cap, .slice (some ⟨d, u, none⟩) es.length cap2, .slice none 0 0, .slice none 0 0, .slice none 0 0, .int .i64 td] 36)).alloc (.cells #[.slice none 0 0, .slice none 0 0, .slice none 0 0, .slice none 0 0, .slice none 0 0, .int .i64 0] 36)).cell? ⟨w.heap.size, 1, none⟩ = some (.slice (some ⟨d, u, none⟩) es.length cap2) := cell_at k0 1
  have q2 : ((w.alloc (.cells #[.slice (some ⟨b, o, none⟩) ts.length cap, .slice (some ⟨d, u, none⟩) es.length cap2, .slice none 0 0, .slice none 0 0, .slice none 0 0, .int .i64 td] 36)).alloc (.cells #[.slice none 0 0, .slice none 0 0, .slice none 0 0, .slice none 0 0, .slice none 0 0, .int .i64 0] 36)).cell? ⟨w.heap.size, 2, none⟩ = some (.slice none 0 0) := cell_at k0 2
  have q3 : ((w.alloc (.cells #[.slice (some ⟨b, o, none⟩) ts.length cap, .slice (some ⟨d, u, none⟩) es.length cap2, .slice none 0 0, .slice none 0 0, .slice none 0 0, .int .i64 td] 36)).alloc (.cells #[.slice none 0 0, .slice none 0 0, .slice none 0 0, .slice none 0 0, .slice none 0 0, .int .i64 0] 36)).cell? ⟨w.heap.size, 3, none⟩ = some (.slice none 0 0) := cell_at k0 3
  have q4 : ((w.alloc (.cells #[.slice (some ⟨b, o, none⟩) ts.length cap, .slice (some ⟨d, u, none⟩) es.length cap2, .slice none 0 0, .slice none 0 0, .slice none 0 0, .int .i64 td] 36)).alloc (.cells #[.slice none 0 0, .slice none 0 0, .slice none 0 0, .slice none 0 0, .slice none 0 0, .int .i64 0] 36)).cell? ⟨w.heap.size, 4, none⟩ = some (.slice none 0 0) := cell_at k0 4
  have q5 : ((w.alloc (.cells #[.slice (some ⟨b, o, none⟩) ts.length cap, .slice (some ⟨d, u, none⟩) es.length cap2, .slice none 0 0, .slice none 0 0, .slice none 0 0, .int .i64 td] 36)).alloc (.cells #[.slice none 0 0, .slice none 0 0, .slice none 0 0, .slice none 0 0, .slice none 0 0, .int .i64 0] 36)).cell? ⟨w.heap.size, 5, none⟩ = some (.int .i64 td) := cell_at k0 5
  go_enter Tryz.func19, Tryz.ntmps19
  go_wp2_with fail
  refine (HO.out _ N).mono ?_
  generalize ((w.alloc (.cells #[.slice (some ⟨b, o, none⟩) ts.length cap, .slice (some ⟨d, u, none⟩) es.length cap2, .slice none 0 0, .slice none 0 0, .slice none 0 0, .int .i64 td] 36)).alloc (.cells #[.slice none 0 0, .slice none 0 0, .slice none 0 0, .slice none 0 0, .slice none 0 0, .int .i64 0] 36)) = v0 at *
  rintro e w4 ⟨a2, c2, rfl, S4, L4⟩
  have m0 := kept L4 (lt_of k0) k0
  have m1 := kept L4 (lt_of k1) k1
  have N4 := join_below N L4
  have hv4 : v0.heap.size ≤ w4.heap.size := L4.size
  have hlo : w.heap.size + 1 < v0.heap.size := by omega
  clear q0 q1 q2 q3 q4 q5 k0 k1 L4 N HO
  have s0 : (w4.setCell ⟨w.heap.size, 0, none⟩ (.slice a2 ts.length c2)).heap[w.heap.size]? = some (.cells #[.slice a2 ts.length c2, .slice (some ⟨d, u, none⟩) es.length cap2, .slice none 0 0, .slice none 0 0, .slice none 0 0, .int .i64 td] 36) := h_set (i := 0) m0 _
  have s1 : (w4.setCell ⟨w.heap.size, 0, none⟩ (.slice a2 ts.length c2)).heap[w.heap.size + 1]? = some (.cells #[.slice none 0 0, .slice none 0 0, .slice none 0 0, .slice none 0 0, .slice none 0 0, .int .i64 0] 36) := h_other (i := 0) m1 (by omega) _
  have t0 := heap_old s0 (.cells #[] 94)
  have t1 := heap_old s1 (.cells #[] 94)
  have O5 := nil_row (w4.setCell ⟨w.heap.size, 0, none⟩ (.slice a2 ts.length c2)) 94 3
  rw [World.size_setCell] at O5
  have B5 : Below w.heap.size w ((w4.setCell ⟨w.heap.size, 0, none⟩ (.slice a2 ts.length c2)).alloc (.cells #[] 94)) := join_below (N4.setCell (Nat.le_refl _) _) (new_below _ _)
  have J5 := J.on B5
  have H5 := edges_cells J5
  have hz5 : w4.heap.size ≤ ((w4.setCell ⟨w.heap.size, 0, none⟩ (.slice a2 ts.length c2)).alloc (.cells #[] 94)).heap.size := by rw [show ((w4.setCell ⟨w.heap.size, 0, none⟩ (.slice a2 ts.length c2)).alloc (.cells #[] 94)).heap.size = (w4.setCell ⟨w.heap.size, 0, none⟩ (.slice a2 ts.length c2)).heap.size + 1 from Array.size_push .., World.size_setCell]; omega
  have q0 : w4.cell? ⟨w.heap.size, 0, none⟩ = some (.slice (some ⟨b, o, none⟩) ts.length cap) := cell_at m0 0
  have q1 : w4.cell? ⟨w.heap.size, 1, none⟩ = some (.slice (some ⟨d, u, none⟩) es.length cap2) := cell_at m0 1
  have q2 : w4.cell? ⟨w.heap.size, 2, none⟩ = some (.slice none 0 0) := cell_at m0 2
  have q3 : w4.cell? ⟨w.heap.size, 3, none⟩ = some (.slice none 0 0) := cell_at m0 3
  have q4 : w4.cell? ⟨w.heap.size, 4, none⟩ = some (.slice none 0 0) := cell_at m0 4
  have q5 : w4.cell? ⟨w.heap.size, 5, none⟩ = some (.int .i64 td) := cell_at m0 5
  have r0 : w4.frozen? ⟨w.heap.size, 0, none⟩ = false := frozen_at m0 0
  have p1 : ((w4.setCell ⟨w.heap.size, 0, none⟩ (.slice a2 ts.length c2)).alloc (.cells #[] 94)).cell? ⟨w.heap.size, 1, none⟩ = some (.slice (some ⟨d, u, none⟩) es.length cap2) := cell_at t0 1
  go_wp2_with (at_builtin; refine wpList_append_own_at _ rfl _ _ 31 rfl w4.heap.size 94 i0 (Tf.lgV ⟨0, 0, 0⟩) 3 24 Tryz.underlying31 hi hz0 hz1 hz2 rfl (by decide) _ _ _ rfl O5 ⟨d, u, none⟩ es.length cap2 (snap ((w4.setCell ⟨w.heap.size, 0, none⟩ (.slice a2 ts.length c2)).alloc (.cells #[] 94)) d u (es.length * 3)) rfl ?c0 ?c1 ?c2 ?c3 ?c4 ?c5 ?_)
  case c0 => rw [snap_len]
  case c1 => exact snap_get H5
  case c2 => exact snap_one H5
  case c3 => unfold maxLen; omega
  case c4 => omega
  case c5 => exact hz5
  intro v' w6 O6 G6 _ _
  have L6 : Below w4.heap.size ((w4.setCell ⟨w.heap.size, 0, none⟩ (.slice a2 ts.length c2)).alloc (.cells #[] 94)) w6 := (Below.refl _ _).grown G6 hz5 (fun j hj => (O5.lt j hj).1)
  try rw [Nat.zero_add, List.nil_append] at O6
  obtain ⟨a3, c3, rfl, -⟩ := own_form O6
  have n0 := kept L6 (by omega) t0
  have n1 := kept L6 (by omega) t1
  have HE : Hid (∀ W, Kp v0.heap.size w6 W → Edges W a3 es) := by
    intro W k
    refine edges_kq (et_mk (lo := w4.heap.size) J5 ?_) hv4 k
    by_cases h0 : es.length = 0
    · exact Or.inl h0
    · obtain ⟨g, c, hv, h1, h2, h3, h4⟩ := own_g O6 (by omega)
      simp only [Value.slice.injEq] at hv
      refine Or.inr ⟨g, hv.1, h1, h2, fun j hj => ?_, h4⟩
      obtain ⟨z, hz, -⟩ := H5 j hj
      rw [hz]
      exact h3 j z (by rw [snap_at H5 j hj, hz])
  have K6 : Kp v0.heap.size w4 w6 := ⟨Nat.le_trans hz5 G6.size, fun p h1 h2 => (L6.cell h2).trans ((new_below _ _).cell (by rw [World.size_setCell]; exact h2) |>.trans (Od.cell_other (by omega)))⟩
  have HT := S4.kp K6
  have B6 : Below w.heap.size w w6 := B5.grown G6 B5.size (fun j hj => by have := (O5.lt j hj).1; omega)
  have hs6 : w4.heap.size ≤ w6.heap.size := K6.1
  clear O5 O6 G6 L6 S4 H5 hz5 B5 J J5 t0 t1 s0 s1 m0 m1 q0 q1 q2 q3 q4 q5 r0 p1 N4 hi hz0 hz1 hz2
  have s0 : (w6.setCell ⟨w.heap.size, 1, none⟩ (.slice a3 es.length c3)).heap[w.heap.size]? = some (.cells #[.slice a2 ts.length c2, .slice a3 es.length c3, .slice none 0 0, .slice none 0 0, .slice none 0 0, .int .i64 td] 36) := h_set (i := 1) n0 _
  have s1 : (w6.setCell ⟨w.heap.size, 1, none⟩ (.slice a3 es.length c3)).heap[w.heap.size + 1]? = some (.cells #[.slice none 0 0, .slice none 0 0, .slice none 0 0, .slice none 0 0, .slice none 0 0, .int .i64 0] 36) := h_other (i := 1) n1 (by omega) _
  have t0 := heap_old s0 (.cells #[] 81)
  have t1 := heap_old s1 (.cells #[] 81)
  have O7 := nil_row (w6.setCell ⟨w.heap.size, 1, none⟩ (.slice a3 es.length c3)) 81 7
  rw [World.size_setCell] at O7
  have q0 : w6.cell? ⟨w.heap.size, 0, none⟩ = some (.slice a2 ts.length c2) := cell_at n0 0
  have q1 : w6.cell? ⟨w.heap.size, 1, none⟩ = some (.slice (some ⟨d, u, none⟩) es.length cap2) := cell_at n0 1
  have q2 : w6.cell? ⟨w.heap.size, 2, none⟩ = some (.slice none 0 0) := cell_at n0 2
  have q3 : w6.cell? ⟨w.heap.size, 3, none⟩ = some (.slice none 0 0) := cell_at n0 3
  have q4 : w6.cell? ⟨w.heap.size, 4, none⟩ = some (.slice none 0 0) := cell_at n0 4
  have q5 : w6.cell? ⟨w.heap.size, 5, none⟩ = some (.int .i64 td) := cell_at n0 5
  have r1 : w6.frozen? ⟨w.heap.size, 1, none⟩ = false := frozen_at n0 1
  have p2 : ((w6.setCell ⟨w.heap.size, 1, none⟩ (.slice a3 es.length c3)).alloc (.cells #[] 81)).cell? ⟨w.heap.size, 2, none⟩ = some (.slice none 0 0) := cell_at t0 2
  have x2 : ((w6.setCell ⟨w.heap.size, 1, none⟩ (.slice a3 es.length c3)).alloc (.cells #[] 81)).frozen? ⟨w.heap.size, 2, none⟩ = false := frozen_at t0 2
  go_wp2_with (at_builtin; refine wpList_append_own_none rfl _ _ 32 rfl w6.heap.size 81 i1 7 Tryz.underlying32 hi1 _ _ _ rfl O7 rfl ?_)
  have HQ : Hid (∀ W, Kp v0.heap.size w6 W → Trains W a2 ts ∧ Edges W a3 es) := fun W k => ⟨(HT.kp k).trains, HE.out W k⟩
  go_wp2
  go_loopw [3, 4] (fun s i wr => i = .int .i64 0 ∧ Hid (∃ g2 g3, s = .slice (some ⟨g3, 0, none⟩) 0 0 ∧ wr.heap[w.heap.size]? = some (.cells #[.slice a2 ts.length c2, .slice a3 es.length c3, .slice (some ⟨g2, 0, none⟩) 0 0, .slice none 0 0, .slice none 0 0, .int .i64 td] 36) ∧ wr.heap[w.heap.size + 1]? = some (.cells #[.slice none 0 0, .slice none 0 0, .slice none 0 0, .slice none 0 0, .slice none 0 0, .int .i64 0] 36) ∧ Kp v0.heap.size w6 wr ∧ Below w.heap.size w wr)) (fun _ _ _ => 0)
  case atStart =>
    refine ⟨rfl, w6.heap.size, _, rfl, ?_, ?_, ?_, ?_⟩
    · exact heap_old (h_set (i := 2) t0 _) _
    · exact heap_old (h_other (i := 2) t1 (by omega) _) _
    · exact Kp.allocR (Kp.setR (Kp.allocR (Kp.setR (Kp.refl _ _) (by omega))) (by omega))
    · exact join_below (Below.setCell (join_below (B6.setCell (Nat.le_refl _) _) (new_below _ _)) (Nat.le_refl _) _) (new_below _ _)
  case round =>
    obtain ⟨rfl, HR⟩ := hrel
    obtain ⟨g2, g3, rfl, j0, j1, KR, BR⟩ := HR.out
    clear HR O7 s0 s1 t0 t1 q0 q1 q2 q3 q4 q5 r1 p2 x2 n0 n1
    have s0 : (wr.setCell ⟨w.heap.size, 3, none⟩ (.slice (some ⟨g3, 0, none⟩) 0 0)).heap[w.heap.size]? = some (.cells #[.slice a2 ts.length c2, .slice a3 es.length c3, .slice (some ⟨g2, 0, none⟩) 0 0, .slice (some ⟨g3, 0, none⟩) 0 0, .slice none 0 0, .int .i64 td] 36) := h_set (i := 3) j0 _
    have s1 : (wr.setCell ⟨w.heap.size, 3, none⟩ (.slice (some ⟨g3, 0, none⟩) 0 0)).heap[w.heap.size + 1]? = some (.cells #[.slice none 0 0, .slice none 0 0, .slice none 0 0, .slice none 0 0, .slice none 0 0, .int .i64 0] 36) := h_other (i := 3) j1 (by omega) _
    have t0 := heap_old s0 (.cells #[] 87)
    have t1 := heap_old s1 (.cells #[] 87)
    have O9 := nil_row (wr.setCell ⟨w.heap.size, 3, none⟩ (.slice (some ⟨g3, 0, none⟩) 0 0)) 87 4
    rw [World.size_setCell] at O9
    have y0 : (((wr.setCell ⟨w.heap.size, 3, none⟩ (.slice (some ⟨g3, 0, none⟩) 0 0)).alloc (.cells #[] 87)).setCell ⟨w.heap.size, 4, none⟩ (.slice (some ⟨wr.heap.size, 0, none⟩) 0 0)).heap[w.heap.size]? = some (.cells #[.slice a2 ts.length c2, .slice a3 es.length c3, .slice (some ⟨g2, 0, none⟩) 0 0, .slice (some ⟨g3, 0, none⟩) 0 0, .slice (some ⟨wr.heap.size, 0, none⟩) 0 0, .int .i64 td] 36) := h_set (i := 4) t0 _
    have y1 : (((wr.setCell ⟨w.heap.size, 3, none⟩ (.slice (some ⟨g3, 0, none⟩) 0 0)).alloc (.cells #[] 87)).setCell ⟨w.heap.size, 4, none⟩ (.slice (some ⟨wr.heap.size, 0, none⟩) 0 0)).heap[w.heap.size + 1]? = some (.cells #[.slice none 0 0, .slice none 0 0, .slice none 0 0, .slice none 0 0, .slice none 0 0, .int .i64 0] 36) := h_other (i := 4) t1 (by omega) _
    have q3 : wr.cell? ⟨w.heap.size, 3, none⟩ = some (.slice none 0 0) := cell_at j0 3
    have r3 : wr.frozen? ⟨w.heap.size, 3, none⟩ = false := frozen_at j0 3
    have p4 : ((wr.setCell ⟨w.heap.size, 3, none⟩ (.slice (some ⟨g3, 0, none⟩) 0 0)).alloc (.cells #[] 87)).cell? ⟨w.heap.size, 4, none⟩ = some (.slice none 0 0) := cell_at t0 4
    have x4 : ((wr.setCell ⟨w.heap.size, 3, none⟩ (.slice (some ⟨g3, 0, none⟩) 0 0)).alloc (.cells #[] 87)).frozen? ⟨w.heap.size, 4, none⟩ = false := frozen_at t0 4
    have l0 : (((wr.setCell ⟨w.heap.size, 3, none⟩ (.slice (some ⟨g3, 0, none⟩) 0 0)).alloc (.cells #[] 87)).setCell ⟨w.heap.size, 4, none⟩ (.slice (some ⟨wr.heap.size, 0, none⟩) 0 0)).cell? ⟨w.heap.size, 0, none⟩ = some (.slice a2 ts.length c2) := cell_at y0 0
    have l1 : (((wr.setCell ⟨w.heap.size, 3, none⟩ (.slice (some ⟨g3, 0, none⟩) 0 0)).alloc (.cells #[] 87)).setCell ⟨w.heap.size, 4, none⟩ (.slice (some ⟨wr.heap.size, 0, none⟩) 0 0)).cell? ⟨w.heap.size, 1, none⟩ = some (.slice a3 es.length c3) := cell_at y0 1
    have l2 : (((wr.setCell ⟨w.heap.size, 3, none⟩ (.slice (some ⟨g3, 0, none⟩) 0 0)).alloc (.cells #[] 87)).setCell ⟨w.heap.size, 4, none⟩ (.slice (some ⟨wr.heap.size, 0, none⟩) 0 0)).cell? ⟨w.heap.size, 2, none⟩ = some (.slice (some ⟨g2, 0, none⟩) 0 0) := cell_at y0 2
    have l3 : (((wr.setCell ⟨w.heap.size, 3, none⟩ (.slice (some ⟨g3, 0, none⟩) 0 0)).alloc (.cells #[] 87)).setCell ⟨w.heap.size, 4, none⟩ (.slice (some ⟨wr.heap.size, 0, none⟩) 0 0)).cell? ⟨w.heap.size, 3, none⟩ = some (.slice (some ⟨g3, 0, none⟩) 0 0) := cell_at y0 3
    have l4 : (((wr.setCell ⟨w.heap.size, 3, none⟩ (.slice (some ⟨g3, 0, none⟩) 0 0)).alloc (.cells #[] 87)).setCell ⟨w.heap.size, 4, none⟩ (.slice (some ⟨wr.heap.size, 0, none⟩) 0 0)).cell? ⟨w.heap.size, 4, none⟩ = some (.slice (some ⟨wr.heap.size, 0, none⟩) 0 0) := cell_at y0 4
    have l5 : (((wr.setCell ⟨w.heap.size, 3, none⟩ (.slice (some ⟨g3, 0, none⟩) 0 0)).alloc (.cells #[] 87)).setCell ⟨w.heap.size, 4, none⟩ (.slice (some ⟨wr.heap.size, 0, none⟩) 0 0)).cell? ⟨w.heap.size, 5, none⟩ = some (.int .i64 td) := cell_at y0 5
    have z0 : (((wr.setCell ⟨w.heap.size, 3, none⟩ (.slice (some ⟨g3, 0, none⟩) 0 0)).alloc (.cells #[] 87)).setCell ⟨w.heap.size, 4, none⟩ (.slice (some ⟨wr.heap.size, 0, none⟩) 0 0)).cell? ⟨w.heap.size + 1, 0, none⟩ = some (.slice none 0 0) := cell_at y1 0
    have z1 : (((wr.setCell ⟨w.heap.size, 3, none⟩ (.slice (some ⟨g3, 0, none⟩) 0 0)).alloc (.cells #[] 87)).setCell ⟨w.heap.size, 4, none⟩ (.slice (some ⟨wr.heap.size, 0, none⟩) 0 0)).cell? ⟨w.heap.size + 1, 1, none⟩ = some (.slice none 0 0) := cell_at y1 1
    have z2 : (((wr.setCell ⟨w.heap.size, 3, none⟩ (.slice (some ⟨g3, 0, none⟩) 0 0)).alloc (.cells #[] 87)).setCell ⟨w.heap.size, 4, none⟩ (.slice (some ⟨wr.heap.size, 0, none⟩) 0 0)).cell? ⟨w.heap.size + 1, 2, none⟩ = some (.slice none 0 0) := cell_at y1 2
    have z3 : (((wr.setCell ⟨w.heap.size, 3, none⟩ (.slice (some ⟨g3, 0, none⟩) 0 0)).alloc (.cells #[] 87)).setCell ⟨w.heap.size, 4, none⟩ (.slice (some ⟨wr.heap.size, 0, none⟩) 0 0)).cell? ⟨w.heap.size + 1, 3, none⟩ = some (.slice none 0 0) := cell_at y1 3
    have z4 : (((wr.setCell ⟨w.heap.size, 3, none⟩ (.slice (some ⟨g3, 0, none⟩) 0 0)).alloc (.cells #[] 87)).setCell ⟨w.heap.size, 4, none⟩ (.slice (some ⟨wr.heap.size, 0, none⟩) 0 0)).cell? ⟨w.heap.size + 1, 4, none⟩ = some (.slice none 0 0) := cell_at y1 4
    have z5 : (((wr.setCell ⟨w.heap.size, 3, none⟩ (.slice (some ⟨g3, 0, none⟩) 0 0)).alloc (.cells #[] 87)).setCell ⟨w.heap.size, 4, none⟩ (.slice (some ⟨wr.heap.size, 0, none⟩) 0 0)).cell? ⟨w.heap.size + 1, 5, none⟩ = some (.int .i64 0) := cell_at y1 5
    have f0 : (((wr.setCell ⟨w.heap.size, 3, none⟩ (.slice (some ⟨g3, 0, none⟩) 0 0)).alloc (.cells #[] 87)).setCell ⟨w.heap.size, 4, none⟩ (.slice (some ⟨wr.heap.size, 0, none⟩) 0 0)).frozen? ⟨w.heap.size + 1, 0, none⟩ = false := frozen_at y1 0
    have f1 : (((wr.setCell ⟨w.heap.size, 3, none⟩ (.slice (some ⟨g3, 0, none⟩) 0 0)).alloc (.cells #[] 87)).setCell ⟨w.heap.size, 4, none⟩ (.slice (some ⟨wr.heap.size, 0, none⟩) 0 0)).frozen? ⟨w.heap.size + 1, 1, none⟩ = false := frozen_at y1 1
    have f2 : (((wr.setCell ⟨w.heap.size, 3, none⟩ (.slice (some ⟨g3, 0, none⟩) 0 0)).alloc (.cells #[] 87)).setCell ⟨w.heap.size, 4, none⟩ (.slice (some ⟨wr.heap.size, 0, none⟩) 0 0)).frozen? ⟨w.heap.size + 1, 2, none⟩ = false := frozen_at y1 2
    have f3 : (((wr.setCell ⟨w.heap.size, 3, none⟩ (.slice (some ⟨g3, 0, none⟩) 0 0)).alloc (.cells #[] 87)).setCell ⟨w.heap.size, 4, none⟩ (.slice (some ⟨wr.heap.size, 0, none⟩) 0 0)).frozen? ⟨w.heap.size + 1, 3, none⟩ = false := frozen_at y1 3
    have f4 : (((wr.setCell ⟨w.heap.size, 3, none⟩ (.slice (some ⟨g3, 0, none⟩) 0 0)).alloc (.cells #[] 87)).setCell ⟨w.heap.size, 4, none⟩ (.slice (some ⟨wr.heap.size, 0, none⟩) 0 0)).frozen? ⟨w.heap.size + 1, 4, none⟩ = false := frozen_at y1 4
    have f5 : (((wr.setCell ⟨w.heap.size, 3, none⟩ (.slice (some ⟨g3, 0, none⟩) 0 0)).alloc (.cells #[] 87)).setCell ⟨w.heap.size, 4, none⟩ (.slice (some ⟨wr.heap.size, 0, none⟩) 0 0)).frozen? ⟨w.heap.size + 1, 5, none⟩ = false := frozen_at y1 5
    go_wp2_with (at_builtin; refine wpList_append_own_none rfl _ _ 34 rfl wr.heap.size 87 i2 4 Tryz.underlying34 hi2 _ _ _ rfl O9 rfl ?_)
    go_wp2
    refine bodyPost_ret (v := .agg #[.slice a2 ts.length c2, .slice a3 es.length c3, .slice (some ⟨g2, 0, none⟩) 0 0, .slice (some ⟨g3, 0, none⟩) 0 0, .slice (some ⟨wr.heap.size, 0, none⟩) 0 0, .int .i64 td]) (by simp [results, Tryz.results19, go_sem, z0, z1, z2, z3, z4, z5]) rfl ?_
    have hbr : w.heap.size ≤ wr.heap.size := BR.size
    have HK : ∀ W, Kp v0.heap.size wr W → In W ⟨a2, a3, some ⟨g2, 0, none⟩, some ⟨g3, 0, none⟩, some ⟨wr.heap.size, 0, none⟩, c2, c3, 0, 0, 0⟩ ⟨ts, es, [], [], [], td⟩ := fun W k => ⟨(HQ.out W (KR.trans k)).1, (HQ.out W (KR.trans k)).2, Or.inl rfl, Or.inl rfl, Or.inl rfl⟩
    refine ⟨⟨a2, a3, some ⟨g2, 0, none⟩, some ⟨g3, 0, none⟩, some ⟨wr.heap.size, 0, none⟩, c2, c3, 0, 0, 0⟩, rfl, fun W k => HK W (Kp.trans ?_ (k.mono (by omega))), ?_⟩
    · (repeat' (first | with_reducible exact Kp.refl _ _ | with_reducible apply Kp.setR | with_reducible apply Kp.allocR)) <;> omega
    · (repeat' (first | with_reducible exact BR | apply Below.setCell | apply Below.alloc)) <;> first | (simp; done) | (simp; omega)

end Dk
end Go.Proofs.YtehmlnojjfeheaaGreat

/- The model's copy of any office whose lists are slices as they come. -/
namespace Go.Proofs.YtehmlnojjfeheaaGreat
namespace Of
open Go.ChangeShapes Go.WideShapes Go.ChangeAt Go.RowKit
open Pk (new_below join_below cell_at heap_new frozen_at lt_of kept heap_old info_of Room own_form)
open Rd (Ri Rides)
open Od (Oo)
open Tn (Tr Trains)
set_option linter.unusedSimpArgs false
set_option linter.unusedVariables false

/-- An order's cells. -/
def tc9 (t : Od.Hd) (v : Value) : List Value := [.int .i64 t.id, .int .i64 t.st, .string t.nm, .int .i64 t.cl, .int .i64 t.ca, v, .int .i64 t.pr, .int .i64 t.pa, .int .i64 t.fi]

/-- The cells of the first k orders, whose rides are the slices ps. -/
structure XsO (xs : List Value) (k : Nat) (ts : List Oo) (ps : Nat → Value) : Prop where
  len : xs.length = k * 9
  at_ : ∀ i (h : i < ts.length), i < k → ∀ r, r < 9 → xs[i * 9 + r]? = (tc9 ts[i].h (ps i))[r]?

theorem XsO.snoc {xs : List Value} {k : Nat} {ts : List Oo} {ps : Nat → Value} (h : XsO xs k ts ps) (hk : k < ts.length) (v : Value) : XsO (xs ++ tc9 ts[k].h v) (k + 1) ts (fun i => if i = k then v else ps i) := by
  refine ⟨by rw [List.length_append, h.len]; simp [tc9]; omega, fun i hi hik r hr => ?_⟩
  by_cases e : i = k
  · subst e
    simp only [if_true]
    rw [List.getElem?_append_right (by rw [h.len]; omega), h.len]
    congr 1
    omega
  · simp only [if_neg e]
    rw [List.getElem?_append_left (by rw [h.len]; omega)]
    exact h.at_ i hi (by omega) r hr

/-- Rides in a block of their kind from base on. -/
def RideAt (w : World) (base : Nat) (a : Option Addr) (l : List Ri) : Prop := l.length = 0 ∨ ∃ (g : Nat) (cs : Array Value) (f : Nat × Nat), a = some ⟨g, 0, none⟩ ∧ base ≤ g ∧ w.heap[g]? = some (Obj.cells cs 142 f) ∧ Rides w (some ⟨g, 0, none⟩) l

theorem RideAt.keep {w w1 : World} {base : Nat} {a : Option Addr} {l : List Ri} (h : RideAt w base a l) (hz : w.heap.size ≤ w1.heap.size) (hk : ∀ (g : Nat) (cs : Array Value) (f : Nat × Nat), w.heap[g]? = some (Obj.cells cs 142 f) → w1.heap[g]? = w.heap[g]?) : RideAt w1 base a l := by
  rcases h with h | ⟨g, cs, f, rfl, h1, h2, h3⟩
  · exact Or.inl h
  · have e := hk g cs f h2
    refine Or.inr ⟨g, cs, f, rfl, h1, e.trans h2, ?_⟩
    rcases h3 with h3 | ⟨b, o, q, hb, hc⟩
    · exact Or.inl h3
    · simp only [Option.some.injEq, Addr.mk.injEq, and_true] at q
      obtain ⟨rfl, rfl⟩ := q
      refine Or.inr ⟨g, 0, rfl, Nat.lt_of_lt_of_le hb hz, fun i hi => ?_⟩
      rw [World.cell?_of_block (a := ⟨g, 0 + i * 4, none⟩) e, World.cell?_of_block (a := ⟨g, 0 + i * 4 + 1, none⟩) e, World.cell?_of_block (a := ⟨g, 0 + i * 4 + 2, none⟩) e, World.cell?_of_block (a := ⟨g, 0 + i * 4 + 3, none⟩) e]
      exact hc i hi

def RowsO (w : World) (base k : Nat) (ts : List Oo) (ps : Nat → Value) : Prop := ∀ i (h : i < ts.length), i < k → ∃ a c, ps i = .slice a ts[i].l.length c ∧ RideAt w base a ts[i].l

/-- Orders, all of whose blocks lie from lo on. -/
def LwO (w : World) (lo : Nat) (a : Option Addr) (ts : List Oo) : Prop := ts.length = 0 ∨ ∃ g, a = some ⟨g, 0, none⟩ ∧ lo ≤ g ∧ g < w.heap.size ∧ ∀ i (h : i < ts.length), Od.Nums w g (i * 9) ts[i].h ∧ ∃ ai ci, w.cell? ⟨g, i * 9 + 5, none⟩ = some (.slice ai ts[i].l.length ci) ∧ (ts[i].l.length = 0 ∨ ∃ gi, ai = some ⟨gi, 0, none⟩ ∧ lo ≤ gi ∧ Rides w (some ⟨gi, 0, none⟩) ts[i].l)

theorem LwO.kp {w w1 : World} {lo : Nat} {a : Option Addr} {ts : List Oo} (h : LwO w lo a ts) (k : Kp lo w w1) : LwO w1 lo a ts := by
  rcases h with h | ⟨g, h0, h1, h2, h3⟩
  · exact Or.inl h
  · refine Or.inr ⟨g, h0, h1, Nat.lt_of_lt_of_le h2 k.1, fun i hi => ?_⟩
    obtain ⟨n, ai, ci, q1, q2⟩ := h3 i hi
    exact ⟨n.on fun j => k.2 ⟨g, j, none⟩ h1 h2, ai, ci, by rw [k.2 ⟨g, i * 9 + 5, none⟩ h1 h2]; exact q1, q2.imp_right fun ⟨gi, r1, r2, r3⟩ => ⟨gi, r1, r2, rides_kp r3 r2 k⟩⟩

theorem LwO.orders {w : World} {lo : Nat} {a : Option Addr} {ts : List Oo} (h : LwO w lo a ts) : Od.Orders w a ts := by
  rcases h with h | ⟨g, rfl, h1, h2, h3⟩
  · exact Or.inl (List.eq_nil_of_length_eq_zero h)
  · refine Or.inr ⟨g, 0, rfl, h2, fun i hi => ?_⟩
    obtain ⟨n, ai, ci, q1, q2⟩ := h3 i hi
    rw [Nat.zero_add]
    refine ⟨n, ai, ci, q1, ?_⟩
    rcases q2 with q2 | ⟨gi, rfl, -, q3⟩
    · exact Or.inl (List.eq_nil_of_length_eq_zero q2)
    · exact q3

theorem rows_orders {w : World} {base : Nat} {a : Option Addr} {c : Nat} {xs : List Value} {ts : List Oo} {ps : Nat → Value} (O : w.ownsRow base 85 9 (.slice a ts.length c) ts.length xs) (X : XsO xs ts.length ts ps) (R : RowsO w base ts.length ts ps) : LwO w base a ts := by
  by_cases h0 : ts.length = 0
  · exact Or.inl h0
  · obtain ⟨g, cap, hv, h1, h2, h3, h4⟩ := own_g O (by omega)
    simp only [Value.slice.injEq] at hv
    obtain ⟨rfl, -, rfl⟩ := hv
    refine Or.inr ⟨g, rfl, h1, h2, fun i hi => ?_⟩
    obtain ⟨ai, ci, he, RA⟩ := R i hi hi
    refine ⟨⟨h3 _ _ ?_, h3 _ _ ?_, h3 _ _ ?_, h3 _ _ ?_, h3 _ _ ?_, h3 _ _ ?_, h3 _ _ ?_, h3 _ _ ?_⟩, ai, ci, h3 _ _ ?_, RA.imp_right fun ⟨gi, _, _, q1, q2, _, q3⟩ => ⟨gi, q1, q2, q3⟩⟩
    · have := X.at_ i hi hi 0 (by omega); rw [Nat.add_zero] at this; rw [this]; rfl
    · rw [X.at_ i hi hi 1 (by omega)]; rfl
    · rw [X.at_ i hi hi 2 (by omega)]; rfl
    · rw [X.at_ i hi hi 3 (by omega)]; rfl
    · rw [X.at_ i hi hi 4 (by omega)]; rfl
    · rw [X.at_ i hi hi 6 (by omega)]; rfl
    · rw [X.at_ i hi hi 7 (by omega)]; rfl
    · rw [X.at_ i hi hi 8 (by omega)]; rfl
    · rw [X.at_ i hi hi 5 (by omega), he]; rfl

theorem nine_at {w : World} {b : Nat} {t : Od.Hd} {v : Value} {ty : TypeId} {f : Nat × Nat} (h : w.heap[b]? = some (.cells #[.int .i64 t.id, .int .i64 t.st, .string t.nm, .int .i64 t.cl, .int .i64 t.ca, v, .int .i64 t.pr, .int .i64 t.pa, .int .i64 t.fi] ty f)) : ∀ j u, (tc9 t v)[j]? = some u → w.cell? (Addr.add ⟨b, 0, none⟩ j) = some u := by
  intro j u hu
  rw [Od.add_plain, Nat.zero_add, cell_at h j]
  have hj := (List.getElem?_eq_some_iff.1 hu).1
  simpa [tc9] using hu

/-- A copied list of rides is such rides. -/
theorem ride_of {w w1 : World} {b o base n : Nat} {a : Option Addr} {c : Nat} {l : List Ri} {xs : List Value} (I : Rides w (some ⟨b, o, none⟩) l) (hn : n = l.length) (O : w1.ownsRow base 142 4 (.slice a n c) n xs) (hx : ∀ j, j < l.length * 4 → xs[j]? = w.cell? ⟨b, o + j, none⟩) : RideAt w1 base a l := by
  subst hn
  by_cases h0 : l.length = 0
  · exact Or.inl h0
  · obtain ⟨g, cap, hv, h1, h2, h3, h4⟩ := own_g O (by omega)
    simp only [Value.slice.injEq] at hv
    obtain ⟨rfl, -, rfl⟩ := hv
    obtain ⟨-, q⟩ := O
    rcases q with ⟨q, -⟩ | ⟨g', cap', cur, q, -, hh, -⟩
    · cases q
    · simp only [Value.slice.injEq, Option.some.injEq, Addr.mk.injEq, and_true] at q
      obtain ⟨rfl, -⟩ := q
      refine Or.inr ⟨g, cur, _, rfl, h1, hh, rides_moved I h2 fun j hj => ?_⟩
      obtain ⟨z, hz, -⟩ := rides_cells I j hj
      rw [hz]
      exact h3 j z (by rw [hx j hj, hz])

end Of
end Go.Proofs.YtehmlnojjfeheaaGreat

/- The model's l09Copy over any office. -/
namespace Go.Proofs.YtehmlnojjfeheaaGreat
namespace Of
open Go.ChangeShapes Go.WideShapes Go.ChangeAt Go.RowKit
open Pk (new_below join_below cell_at heap_new frozen_at lt_of kept heap_old info_of Room own_form)
open Rd (Ri Rides)
open Od (Oo)
open Tn (Tr Trains)
set_option linter.unusedSimpArgs false
set_option linter.unusedVariables false

theorem own_setX {w : World} {lo e size n Q i : Nat} {v u : Value} {xs : List Value} (h : w.ownsRow lo e size v n xs) (hne : ∀ k, v.ownBlock = some k → k ≠ Q) : (w.setCell ⟨Q, i, none⟩ u).ownsRow lo e size v n xs := by
  obtain ⟨h1, h2⟩ := h
  refine ⟨h1, ?_⟩
  rcases h2 with h2 | ⟨g, cap, cur, hv, hg, hh, hr⟩
  · exact Or.inl h2
  · refine Or.inr ⟨g, cap, cur, hv, hg, ?_, hr⟩
    rw [Below.heap_setCell w ⟨Q, i, none⟩ u g (hne g (by rw [hv]; rfl))]
    exact hh

theorem RideAt.lower {w : World} {base base' : Nat} {a : Option Addr} {l : List Ri} (h : RideAt w base a l) (hl : base' ≤ base) : RideAt w base' a l := h.imp_right fun ⟨g, cs, f, h1, h2, h3⟩ => ⟨g, cs, f, h1, Nat.le_trans hl h2, h3⟩

set_option maxRecDepth 100000 in
set_option maxHeartbeats 8000000 in
theorem copyS_offG (b0 p0 b1 p1 b2 p2 b3 p3 b4 p4 k0 k1 k2 k3 k4 : Nat) (o : Offc) (w : World) (hb0 : b0 < w.heap.size) (hb1 : b1 < w.heap.size) (hb2 : b2 < w.heap.size) (hb3 : b3 < w.heap.size) (hb4 : b4 < w.heap.size) (hn : o.ln.length ≤ 1048576 ∧ o.ta.length ≤ 1048576 ∧ o.ho.length ≤ 1048576 ∧ o.od.length ≤ 1048576 ∧ o.to.length ≤ 1048576) (hs : ∀ i (h : i < o.ln.length), 1 ≤ o.ln[i].l.length ∧ o.ln[i].l.length ≤ 1048576) (hr : ∀ i (h : i < o.od.length), o.od[i].l.length ≤ 1048576 ∧ o.od[i].h.nm.size ≤ 1048576) (I0 : Trains w (some ⟨b0, p0, none⟩) o.ln) (I1 : Tf.Edges w (some ⟨b1, p1, none⟩) o.ta) (I2 : Se.Holds w (some ⟨b2, p2, none⟩) o.ho) (I3 : OrdS w b3 p3 o.od) (I4 : Rp.Replys w (some ⟨b4, p4, none⟩) o.to) :
    Calls Tryz.prog 19 #[.agg #[.slice (some ⟨b0, p0, none⟩) o.ln.length k0, .slice (some ⟨b1, p1, none⟩) o.ta.length k1, .slice (some ⟨b2, p2, none⟩) o.ho.length k2, .slice (some ⟨b3, p3, none⟩) o.od.length k3, .slice (some ⟨b4, p4, none⟩) o.to.length k4, .int .i64 o.td]] w fun e w' => ∃ x : Pl, e = .returned (ofV x o) ∧ Dk.InK w.heap.size w' x o ∧ Below w.heap.size w w' := by
  obtain ⟨k0', k1', hsz⟩ := Dk.two_blocks w (.cells #[.slice (some ⟨b0, p0, none⟩) o.ln.length k0, .slice (some ⟨b1, p1, none⟩) o.ta.length k1, .slice (some ⟨b2, p2, none⟩) o.ho.length k2, .slice (some ⟨b3, p3, none⟩) o.od.length k3, .slice (some ⟨b4, p4, none⟩) o.to.length k4, .int .i64 o.td] 36) (.cells #[.slice none 0 0, .slice none 0 0, .slice none 0 0, .slice none 0 0, .slice none 0 0, .int .i64 0] 36)
  obtain ⟨iE, hiE, hxE, hyE, hzE⟩ := info_of Tf.info_edge
  obtain ⟨iH, hiH, hxH, hyH, hzH⟩ := info_of Se.info_hold
  obtain ⟨iR, hiR, hxR, hyR, hzR⟩ := info_of Rp.info_reply
  obtain ⟨iD, hiD, hxD, hyD, hzD⟩ := info_of Rd.info_ride
  obtain ⟨iO, hiO, hxO, hyO, hzO⟩ := info_of Od.info_order
  obtain ⟨l0, l1, l2, l3, l4⟩ := hn
  have N : Below w.heap.size w ((w.alloc (.cells #[.slice (some ⟨b0, p0, none⟩) o.ln.length k0, .slice (some ⟨b1, p1, none⟩) o.ta.length k1, .slice (some ⟨b2, p2, none⟩) o.ho.length k2, .slice (some ⟨b3, p3, none⟩) o.od.length k3, .slice (some ⟨b4, p4, none⟩) o.to.length k4, .int .i64 o.td] 36)).alloc (.cells #[.slice none 0 0, .slice none 0 0, .slice none 0 0, .slice none 0 0, .slice none 0 0, .int .i64 0] 36)) := join_below (new_below _ _) (new_below _ _)
  have HO : Hid (∀ wx, Below w.heap.size w wx → _) := fun wx (L : Below w.heap.size w wx) => copyS_val (some ⟨b0, p0, none⟩) o.ln k0 wx l0 hs (I0.on L)
  clear I0 hs
  have q0 : ((w.alloc (.cells #[.slice (some ⟨b0, p0, none⟩) o.ln.length k0, .slice (some ⟨b1, p1, none⟩) o.ta.length k1, .slice (some ⟨b2, p2, none⟩) o.ho.length k2, .slice (some ⟨b3, p3, none⟩) o.od.length k3, .slice (some ⟨b4, p4, none⟩) o.to.length k4, .int .i64 o.td] 36)).alloc (.cells #[.slice none 0 0, .slice none 0 0, .slice none 0 0, .slice none 0 0, .slice none 0 0, .int .i64 0] 36)).cell? ⟨w.heap.size, 0, none⟩ = some (.slice (some ⟨b0, p0, none⟩) o.ln.length k0) := cell_at k0' 0
  have q1 : ((w.alloc (.cells #[.slice (some ⟨b0, p0, none⟩) o.ln.length k0, .slice (some ⟨b1, p1, none⟩) o.ta.length k1, .slice (some ⟨b2, p2, none⟩) o.ho.length k2, .slice (some ⟨b3, p3, none⟩) o.od.length k3, .slice (some ⟨b4, p4, none⟩) o.to.length k4, .int .i64 o.td] 36)).alloc (.cells #[.slice none 0 0, .slice none 0 0, .slice none 0 0, .slice none 0 0, .slice none 0 0, .int .i64 0] 36)).cell? ⟨w.heap.size, 1, none⟩ = some (.slice (some ⟨b1, p1, none⟩) o.ta.length k1) := cell_at k0' 1
  have q2 : ((w.alloc (.cells #[.slice (some ⟨b0, p0, none⟩) o.ln.length k0, .slice (some ⟨b1, p1, none⟩) o.ta.length k1, .slice (some ⟨b2, p2, none⟩) o.ho.length k2, .slice (some ⟨b3, p3, none⟩) o.od.length k3, .slice (some ⟨b4, p4, none⟩) o.to.length k4, .int .i64 o.td] 36)).alloc (.cells #[.slice none 0 0, .slice none 0 0, .slice none 0 0, .slice none 0 0, .slice none 0 0, .int .i64 0] 36)).cell? ⟨w.heap.size, 2, none⟩ = some (.slice (some ⟨b2, p2, none⟩) o.ho.length k2) := cell_at k0' 2
  have q3 : ((w.alloc (.cells #[.slice (some ⟨b0, p0, none⟩) o.ln.length k0, .slice (some ⟨b1, p1, none⟩) o.ta.length k1, .slice (some ⟨b2, p2, none⟩) o.ho.length k2, .slice (some ⟨b3, p3, none⟩) o.od.length k3, .slice (some ⟨b4, p4, none⟩) o.to.length k4, .int .i64 o.td] 36)).alloc (.cells #[.slice none 0 0, .slice none 0 0, .slice none 0 0, .slice none 0 0, .slice none 0 0, .int .i64 0] 36)).cell? ⟨w.heap.size, 3, none⟩ = some (.slice (some ⟨b3, p3, none⟩) o.od.length k3) := cell_at k0' 3
  have q4 : ((w.alloc (.cells #[.slice (some ⟨b0, p0, none⟩) o.ln.length k0, .slice (some ⟨b1, p1, none⟩) o.ta.length k1, .slice (some ⟨b2, p2, none⟩) o.ho.length k2, .slice (some ⟨b3, p3, none⟩) o.od.length k3, .slice (some ⟨b4, p4, none⟩) o.to.length k4, .int .i64 o.td] 36)).alloc (.cells #[.slice none 0 0, .slice none 0 0, .slice none 0 0, .slice none 0 0, .slice none 0 0, .int .i64 0] 36)).cell? ⟨w.heap.size, 4, none⟩ = some (.slice (some ⟨b4, p4, none⟩) o.to.length k4) := cell_at k0' 4
  have q5 : ((w.alloc (.cells #[.slice (some ⟨b0, p0, none⟩) o.ln.length k0, .slice (some ⟨b1, p1, none⟩) o.ta.length k1, .slice (some ⟨b2, p2, none⟩) o.ho.length k2, .slice (some ⟨b3, p3, none⟩) o.od.length k3, .slice (some ⟨b4, p4, none⟩) o.to.length k4, .int .i64 o.td] 36)).alloc (.cells #[.slice none 0 0, .slice none 0 0, .slice none 0 0, .slice none 0 0, .slice none 0 0, .int .i64 0] 36)).cell? ⟨w.heap.size, 5, none⟩ = some (.int .i64 o.td) := cell_at k0' 5
  go_enter Tryz.func19, Tryz.ntmps19
  go_wp2_with fail
  refine (HO.out _ N).mono ?_
  generalize ((w.alloc (.cells #[.slice (some ⟨b0, p0, none⟩) o.ln.length k0, .slice (some ⟨b1, p1, none⟩) o.ta.length k1, .slice (some ⟨b2, p2, none⟩) o.ho.length k2, .slice (some ⟨b3, p3, none⟩) o.od.length k3, .slice (some ⟨b4, p4, none⟩) o.to.length k4, .int .i64 o.td] 36)).alloc (.cells #[.slice none 0 0, .slice none 0 0, .slice none 0 0, .slice none 0 0, .slice none 0 0, .int .i64 0] 36)) = v0 at *
  rintro e w4 ⟨a0, c0, rfl, S4, L4⟩
  have m0 := kept L4 (lt_of k0') k0'
  have m1 := kept L4 (lt_of k1') k1'
  have Bw4 := join_below N L4
  have hv4 : v0.heap.size ≤ w4.heap.size := L4.size
  have hlo : w.heap.size + 1 < v0.heap.size := by omega
  have HX0 : Hid (∀ X, Kp v0.heap.size w4 X → Trains X a0 o.ln) := fun X k => (S4.kp k).trains
  clear q0 q1 q2 q3 q4 q5 k0' k1' L4 N HO S4 hsz
  have s0 : (w4.setCell ⟨w.heap.size, 0, none⟩ (.slice a0 o.ln.length c0)).heap[w.heap.size]? = some (.cells #[.slice a0 o.ln.length c0, .slice (some ⟨b1, p1, none⟩) o.ta.length k1, .slice (some ⟨b2, p2, none⟩) o.ho.length k2, .slice (some ⟨b3, p3, none⟩) o.od.length k3, .slice (some ⟨b4, p4, none⟩) o.to.length k4, .int .i64 o.td] 36) := h_set (i := 0) m0 _
  have s1 : (w4.setCell ⟨w.heap.size, 0, none⟩ (.slice a0 o.ln.length c0)).heap[w.heap.size + 1]? = some (.cells #[.slice none 0 0, .slice none 0 0, .slice none 0 0, .slice none 0 0, .slice none 0 0, .int .i64 0] 36) := h_other (i := 0) m1 (by omega) _
  have t0 := heap_old s0 (.cells #[] 94)
  have t1 := heap_old s1 (.cells #[] 94)
  have O5 := nil_row (w4.setCell ⟨w.heap.size, 0, none⟩ (.slice a0 o.ln.length c0)) 94 3
  rw [World.size_setCell] at O5
  have B5 : Below w.heap.size w ((w4.setCell ⟨w.heap.size, 0, none⟩ (.slice a0 o.ln.length c0)).alloc (.cells #[] 94)) := join_below (Bw4.setCell (Nat.le_refl _) _) (new_below _ _)
  have J5 := I1.on B5
  have H5 := edges_cells J5
  have hz5 : w4.heap.size ≤ ((w4.setCell ⟨w.heap.size, 0, none⟩ (.slice a0 o.ln.length c0)).alloc (.cells #[] 94)).heap.size := by rw [show ((w4.setCell ⟨w.heap.size, 0, none⟩ (.slice a0 o.ln.length c0)).alloc (.cells #[] 94)).heap.size = (w4.setCell ⟨w.heap.size, 0, none⟩ (.slice a0 o.ln.length c0)).heap.size + 1 from Array.size_push .., World.size_setCell]; omega
  have q0 : w4.cell? ⟨w.heap.size, 0, none⟩ = some (.slice (some ⟨b0, p0, none⟩) o.ln.length k0) := cell_at m0 0
  have q1 : w4.cell? ⟨w.heap.size, 1, none⟩ = some (.slice (some ⟨b1, p1, none⟩) o.ta.length k1) := cell_at m0 1
  have q2 : w4.cell? ⟨w.heap.size, 2, none⟩ = some (.slice (some ⟨b2, p2, none⟩) o.ho.length k2) := cell_at m0 2
  have q3 : w4.cell? ⟨w.heap.size, 3, none⟩ = some (.slice (some ⟨b3, p3, none⟩) o.od.length k3) := cell_at m0 3
  have q4 : w4.cell? ⟨w.heap.size, 4, none⟩ = some (.slice (some ⟨b4, p4, none⟩) o.to.length k4) := cell_at m0 4
  have q5 : w4.cell? ⟨w.heap.size, 5, none⟩ = some (.int .i64 o.td) := cell_at m0 5
  have r0 : w4.frozen? ⟨w.heap.size, 0, none⟩ = false := frozen_at m0 0
  have pc1 : ((w4.setCell ⟨w.heap.size, 0, none⟩ (.slice a0 o.ln.length c0)).alloc (.cells #[] 94)).cell? ⟨w.heap.size, 1, none⟩ = some (.slice (some ⟨b1, p1, none⟩) o.ta.length k1) := cell_at t0 1
  go_wp2_with (at_builtin; refine wpList_append_own_at _ rfl _ _ 31 rfl w4.heap.size 94 iE (Tf.lgV ⟨0, 0, 0⟩) 3 24 Tryz.underlying31 hiE hxE hyE hzE rfl (by decide) _ _ _ rfl O5 ⟨b1, p1, none⟩ o.ta.length k1 (snap ((w4.setCell ⟨w.heap.size, 0, none⟩ (.slice a0 o.ln.length c0)).alloc (.cells #[] 94)) b1 p1 (o.ta.length * 3)) rfl ?c0 ?c1 ?c2 ?c3 ?c4 ?c5 ?_)
  case c0 => rw [snap_len]
  case c1 => exact snap_get H5
  case c2 => exact snap_one H5
  case c3 => unfold maxLen; omega
  case c4 => omega
  case c5 => exact hz5
  intro v' w6 O6 G6 _ _
  have L6 : Below w4.heap.size ((w4.setCell ⟨w.heap.size, 0, none⟩ (.slice a0 o.ln.length c0)).alloc (.cells #[] 94)) w6 := (Below.refl _ _).grown G6 hz5 (fun j hj => (O5.lt j hj).1)
  try rw [Nat.zero_add, List.nil_append] at O6
  obtain ⟨a1, c1, rfl, -⟩ := own_form O6
  have n0w6 := kept L6 (by omega) t0
  have n1w6 := kept L6 (by omega) t1
  have HX1 : Hid (∀ X, Kp v0.heap.size w6 X → Tf.Edges X a1 o.ta) := by
    intro X k
    by_cases h0 : o.ta.length = 0
    · exact Or.inl (List.eq_nil_of_length_eq_zero h0)
    · obtain ⟨g, c, hv, h1, h2, h3, h4⟩ := own_g O6 (by omega)
      simp only [Value.slice.injEq] at hv
      obtain ⟨rfl, -, rfl⟩ := hv
      refine edges_kp (edges_moved J5 h2 fun j hj => ?_) (by omega) k
      obtain ⟨z, hz, -⟩ := H5 j hj
      rw [hz]
      exact h3 j z (by rw [snap_at H5 j hj, hz])
  have K6 : Kp v0.heap.size w4 w6 := ⟨Nat.le_trans hz5 G6.size, fun p h1 h2 => (L6.cell h2).trans ((new_below _ _).cell (by rw [World.size_setCell]; exact h2) |>.trans (Od.cell_other (by omega)))⟩
  have Bw6 : Below w.heap.size w w6 := B5.grown G6 B5.size (fun j hj => by have := (O5.lt j hj).1; omega)
  have hsw6 : w4.heap.size ≤ w6.heap.size := K6.1
  have HY0 : Hid (∀ X, Kp v0.heap.size w6 X → Trains X a0 o.ln) := fun X k => HX0.out X (K6.trans k)
  clear O5 O6 G6 L6 H5 hz5 B5 J5 t0 t1 s0 s1 q0 q1 q2 q3 q4 q5 r0 pc1 K6 HX0 m0 m1
  have s0 : (w6.setCell ⟨w.heap.size, 1, none⟩ (.slice a1 o.ta.length c1)).heap[w.heap.size]? = some (.cells #[.slice a0 o.ln.length c0, .slice a1 o.ta.length c1, .slice (some ⟨b2, p2, none⟩) o.ho.length k2, .slice (some ⟨b3, p3, none⟩) o.od.length k3, .slice (some ⟨b4, p4, none⟩) o.to.length k4, .int .i64 o.td] 36) := h_set (i := 1) n0w6 _
  have s1 : (w6.setCell ⟨w.heap.size, 1, none⟩ (.slice a1 o.ta.length c1)).heap[w.heap.size + 1]? = some (.cells #[.slice none 0 0, .slice none 0 0, .slice none 0 0, .slice none 0 0, .slice none 0 0, .int .i64 0] 36) := h_other (i := 1) n1w6 (by omega) _
  have t0 := heap_old s0 (.cells #[] 81)
  have t1 := heap_old s1 (.cells #[] 81)
  have O5 := nil_row (w6.setCell ⟨w.heap.size, 1, none⟩ (.slice a1 o.ta.length c1)) 81 7
  rw [World.size_setCell] at O5
  have B5 : Below w.heap.size w ((w6.setCell ⟨w.heap.size, 1, none⟩ (.slice a1 o.ta.length c1)).alloc (.cells #[] 81)) := join_below (Bw6.setCell (Nat.le_refl _) _) (new_below _ _)
  have J5 := I2.on B5
  have H5 := holds_cells J5
  have hz5 : w6.heap.size ≤ ((w6.setCell ⟨w.heap.size, 1, none⟩ (.slice a1 o.ta.length c1)).alloc (.cells #[] 81)).heap.size := by rw [show ((w6.setCell ⟨w.heap.size, 1, none⟩ (.slice a1 o.ta.length c1)).alloc (.cells #[] 81)).heap.size = (w6.setCell ⟨w.heap.size, 1, none⟩ (.slice a1 o.ta.length c1)).heap.size + 1 from Array.size_push .., World.size_setCell]; omega
  have q0 : w6.cell? ⟨w.heap.size, 0, none⟩ = some (.slice a0 o.ln.length c0) := cell_at n0w6 0
  have q1 : w6.cell? ⟨w.heap.size, 1, none⟩ = some (.slice (some ⟨b1, p1, none⟩) o.ta.length k1) := cell_at n0w6 1
  have q2 : w6.cell? ⟨w.heap.size, 2, none⟩ = some (.slice (some ⟨b2, p2, none⟩) o.ho.length k2) := cell_at n0w6 2
  have q3 : w6.cell? ⟨w.heap.size, 3, none⟩ = some (.slice (some ⟨b3, p3, none⟩) o.od.length k3) := cell_at n0w6 3
  have q4 : w6.cell? ⟨w.heap.size, 4, none⟩ = some (.slice (some ⟨b4, p4, none⟩) o.to.length k4) := cell_at n0w6 4
  have q5 : w6.cell? ⟨w.heap.size, 5, none⟩ = some (.int .i64 o.td) := cell_at n0w6 5
  have r1 : w6.frozen? ⟨w.heap.size, 1, none⟩ = false := frozen_at n0w6 1
  have pc2 : ((w6.setCell ⟨w.heap.size, 1, none⟩ (.slice a1 o.ta.length c1)).alloc (.cells #[] 81)).cell? ⟨w.heap.size, 2, none⟩ = some (.slice (some ⟨b2, p2, none⟩) o.ho.length k2) := cell_at t0 2
  go_wp2_with (at_builtin; refine wpList_append_own_at _ rfl _ _ 32 rfl w6.heap.size 81 iH (Se.lgV ⟨0, 0, 0, 0, 0, 0, 0⟩) 7 56 Tryz.underlying32 hiH hxH hyH hzH rfl (by decide) _ _ _ rfl O5 ⟨b2, p2, none⟩ o.ho.length k2 (snap ((w6.setCell ⟨w.heap.size, 1, none⟩ (.slice a1 o.ta.length c1)).alloc (.cells #[] 81)) b2 p2 (o.ho.length * 7)) rfl ?c0 ?c1 ?c2 ?c3 ?c4 ?c5 ?_)
  case c0 => rw [snap_len]
  case c1 => exact snap_get H5
  case c2 => exact snap_one H5
  case c3 => unfold maxLen; omega
  case c4 => omega
  case c5 => exact hz5
  intro v' w8 O6 G6 _ _
  have L6 : Below w6.heap.size ((w6.setCell ⟨w.heap.size, 1, none⟩ (.slice a1 o.ta.length c1)).alloc (.cells #[] 81)) w8 := (Below.refl _ _).grown G6 hz5 (fun j hj => (O5.lt j hj).1)
  try rw [Nat.zero_add, List.nil_append] at O6
  obtain ⟨a2, c2, rfl, -⟩ := own_form O6
  have n0w8 := kept L6 (by omega) t0
  have n1w8 := kept L6 (by omega) t1
  have HX2 : Hid (∀ X, Kp v0.heap.size w8 X → Se.Holds X a2 o.ho) := by
    intro X k
    by_cases h0 : o.ho.length = 0
    · exact Or.inl (List.eq_nil_of_length_eq_zero h0)
    · obtain ⟨g, c, hv, h1, h2, h3, h4⟩ := own_g O6 (by omega)
      simp only [Value.slice.injEq] at hv
      obtain ⟨rfl, -, rfl⟩ := hv
      refine holds_kp (holds_moved J5 h2 fun j hj => ?_) (by omega) k
      obtain ⟨z, hz, -⟩ := H5 j hj
      rw [hz]
      exact h3 j z (by rw [snap_at H5 j hj, hz])
  have K6 : Kp v0.heap.size w6 w8 := ⟨Nat.le_trans hz5 G6.size, fun p h1 h2 => (L6.cell h2).trans ((new_below _ _).cell (by rw [World.size_setCell]; exact h2) |>.trans (Od.cell_other (by omega)))⟩
  have Bw8 : Below w.heap.size w w8 := B5.grown G6 B5.size (fun j hj => by have := (O5.lt j hj).1; omega)
  have hsw8 : w6.heap.size ≤ w8.heap.size := K6.1
  have HZ0 : Hid (∀ X, Kp v0.heap.size w8 X → Trains X a0 o.ln ∧ Tf.Edges X a1 o.ta ∧ Se.Holds X a2 o.ho) := fun X k => ⟨HY0.out X (K6.trans k), HX1.out X (K6.trans k), HX2.out X k⟩
  clear O5 O6 G6 L6 H5 hz5 B5 J5 t0 t1 s0 s1 q0 q1 q2 q3 q4 q5 r1 pc2 K6 HY0 HX1 HX2 n0w6 n1w6
  have s0 : (w8.setCell ⟨w.heap.size, 2, none⟩ (.slice a2 o.ho.length c2)).heap[w.heap.size]? = some (.cells #[.slice a0 o.ln.length c0, .slice a1 o.ta.length c1, .slice a2 o.ho.length c2, .slice (some ⟨b3, p3, none⟩) o.od.length k3, .slice (some ⟨b4, p4, none⟩) o.to.length k4, .int .i64 o.td] 36) := h_set (i := 2) n0w8 _
  have s1 : (w8.setCell ⟨w.heap.size, 2, none⟩ (.slice a2 o.ho.length c2)).heap[w.heap.size + 1]? = some (.cells #[.slice none 0 0, .slice none 0 0, .slice none 0 0, .slice none 0 0, .slice none 0 0, .int .i64 0] 36) := h_other (i := 2) n1w8 (by omega) _
  have t0 := heap_old s0 (.cells #[] 85)
  have t1 := heap_old s1 (.cells #[] 85)
  have O8 := nil_row (w8.setCell ⟨w.heap.size, 2, none⟩ (.slice a2 o.ho.length c2)) 85 9
  rw [World.size_setCell] at O8
  have B8 : Below w.heap.size w ((w8.setCell ⟨w.heap.size, 2, none⟩ (.slice a2 o.ho.length c2)).alloc (.cells #[] 85)) := join_below (Bw8.setCell (Nat.le_refl _) _) (new_below _ _)
  have hz8 : w8.heap.size ≤ ((w8.setCell ⟨w.heap.size, 2, none⟩ (.slice a2 o.ho.length c2)).alloc (.cells #[] 85)).heap.size := by rw [show ((w8.setCell ⟨w.heap.size, 2, none⟩ (.slice a2 o.ho.length c2)).alloc (.cells #[] 85)).heap.size = (w8.setCell ⟨w.heap.size, 2, none⟩ (.slice a2 o.ho.length c2)).heap.size + 1 from Array.size_push .., World.size_setCell]; omega
  have K8 : Kp v0.heap.size w8 ((w8.setCell ⟨w.heap.size, 2, none⟩ (.slice a2 o.ho.length c2)).alloc (.cells #[] 85)) := Dk.Kp.allocR (Dk.Kp.setR (Dk.Kp.refl _ _) (by omega))
  have q0 : w8.cell? ⟨w.heap.size, 0, none⟩ = some (.slice a0 o.ln.length c0) := cell_at n0w8 0
  have q1 : w8.cell? ⟨w.heap.size, 1, none⟩ = some (.slice a1 o.ta.length c1) := cell_at n0w8 1
  have q2 : w8.cell? ⟨w.heap.size, 2, none⟩ = some (.slice (some ⟨b2, p2, none⟩) o.ho.length k2) := cell_at n0w8 2
  have q3 : w8.cell? ⟨w.heap.size, 3, none⟩ = some (.slice (some ⟨b3, p3, none⟩) o.od.length k3) := cell_at n0w8 3
  have q4 : w8.cell? ⟨w.heap.size, 4, none⟩ = some (.slice (some ⟨b4, p4, none⟩) o.to.length k4) := cell_at n0w8 4
  have q5 : w8.cell? ⟨w.heap.size, 5, none⟩ = some (.int .i64 o.td) := cell_at n0w8 5
  have r2 : w8.frozen? ⟨w.heap.size, 2, none⟩ = false := frozen_at n0w8 2
  go_wp2
  generalize ((w8.setCell ⟨w.heap.size, 2, none⟩ (.slice a2 o.ho.length c2)).alloc (.cells #[] 85)) = v8 at *
  go_loopw [3, 4] (fun v i wr => ∃ (k : Nat) (xs : List Value) (ps : Nat → Value), k ≤ o.od.length ∧ i = .int .i64 k ∧ Hid (wr.ownsRow w8.heap.size 85 9 v k xs) ∧ Hid (XsO xs k o.od ps) ∧ Hid (RowsO wr w8.heap.size k o.od ps) ∧ Hid (Below w8.heap.size v8 wr)) (fun _ i _ => o.od.length - (intOf i).toNat)
  case atStart => exact ⟨0, [], fun _ => undef, by omega, rfl, O8, ⟨rfl, fun i hi h => by omega⟩, fun i hi h => by omega, Below.refl _ _⟩
  case round =>
    obtain ⟨k, xs, ps, hk, rfl, HO, HX, HR, HL⟩ := hrel
    obtain ⟨qa, qc, rfl, -⟩ := own_form HO.out
    have LR := HL.out
    have j0 := kept LR (by omega) t0
    have j1 := kept LR (by omega) t1
    have Bwr : Below w.heap.size w wr := B8.trans (LR.mono (by have := Bw8.size; omega))
    have hwr : w8.heap.size ≤ wr.heap.size := Nat.le_trans hz8 LR.size
    clear s0 s1 t0 t1 O8 q0 q1 q2 q3 q4 q5 r2 n0w8 n1w8 HL
    have K8r : Kp v0.heap.size w8 wr := ⟨hwr, fun p h1 h2 => (LR.cell h2).trans (K8.2 p h1 h2)⟩
    by_cases hkn : k < o.od.length
    · obtain ⟨⟨n0, n1, n2, n3, n4, n6, n7, n8⟩, bi, oi, ci, hbi, n5, S⟩ := (I3.on Bwr hb3) k hkn
      have hrk := (hr k hkn).1
      have d3 : wr.cell? ⟨w.heap.size, 3, none⟩ = some (.slice (some ⟨b3, p3, none⟩) o.od.length k3) := cell_at j0 3
      have N01 : Below wr.heap.size wr ((wr.alloc (.cells #[.int .i64 o.od[k].h.id, .int .i64 o.od[k].h.st, .string o.od[k].h.nm, .int .i64 o.od[k].h.cl, .int .i64 o.od[k].h.ca, .slice (some ⟨bi, oi, none⟩) o.od[k].l.length ci, .int .i64 o.od[k].h.pr, .int .i64 o.od[k].h.pa, .int .i64 o.od[k].h.fi] 85)).alloc (.cells #[] 142)) := join_below (new_below _ _) (new_below _ _)
      have e0 : (wr.alloc (.cells #[.int .i64 o.od[k].h.id, .int .i64 o.od[k].h.st, .string o.od[k].h.nm, .int .i64 o.od[k].h.cl, .int .i64 o.od[k].h.ca, .slice (some ⟨bi, oi, none⟩) o.od[k].l.length ci, .int .i64 o.od[k].h.pr, .int .i64 o.od[k].h.pa, .int .i64 o.od[k].h.fi] 85)).heap.size = wr.heap.size + 1 := Array.size_push ..
      have OR0 := nil_row (wr.alloc (.cells #[.int .i64 o.od[k].h.id, .int .i64 o.od[k].h.st, .string o.od[k].h.nm, .int .i64 o.od[k].h.cl, .int .i64 o.od[k].h.ca, .slice (some ⟨bi, oi, none⟩) o.od[k].l.length ci, .int .i64 o.od[k].h.pr, .int .i64 o.od[k].h.pa, .int .i64 o.od[k].h.fi] 85)) 142 4
      rw [e0] at OR0
      have e1 : ((wr.alloc (.cells #[.int .i64 o.od[k].h.id, .int .i64 o.od[k].h.st, .string o.od[k].h.nm, .int .i64 o.od[k].h.cl, .int .i64 o.od[k].h.ca, .slice (some ⟨bi, oi, none⟩) o.od[k].l.length ci, .int .i64 o.od[k].h.pr, .int .i64 o.od[k].h.pa, .int .i64 o.od[k].h.fi] 85)).alloc (.cells #[] 142)).heap.size = wr.heap.size + 1 + 1 := (Array.size_push ..).trans (congrArg (· + 1) e0)
      have hA1 : wr.heap.size + 1 ≤ ((wr.alloc (.cells #[.int .i64 o.od[k].h.id, .int .i64 o.od[k].h.st, .string o.od[k].h.nm, .int .i64 o.od[k].h.cl, .int .i64 o.od[k].h.ca, .slice (some ⟨bi, oi, none⟩) o.od[k].l.length ci, .int .i64 o.od[k].h.pr, .int .i64 o.od[k].h.pa, .int .i64 o.od[k].h.fi] 85)).alloc (.cells #[] 142)).heap.size := by rw [e1]; omega
      clear e0 e1
      have S1 := S.on N01
      have H1 := rides_cells S1
      have xb : ((wr.alloc (.cells #[.int .i64 o.od[k].h.id, .int .i64 o.od[k].h.st, .string o.od[k].h.nm, .int .i64 o.od[k].h.cl, .int .i64 o.od[k].h.ca, .slice (some ⟨bi, oi, none⟩) o.od[k].l.length ci, .int .i64 o.od[k].h.pr, .int .i64 o.od[k].h.pa, .int .i64 o.od[k].h.fi] 85)).alloc (.cells #[] 142)).heap[wr.heap.size]? = some (.cells #[.int .i64 o.od[k].h.id, .int .i64 o.od[k].h.st, .string o.od[k].h.nm, .int .i64 o.od[k].h.cl, .int .i64 o.od[k].h.ca, .slice (some ⟨bi, oi, none⟩) o.od[k].l.length ci, .int .i64 o.od[k].h.pr, .int .i64 o.od[k].h.pa, .int .i64 o.od[k].h.fi] 85) := heap_old (heap_new wr _) _
      have x5 : ((wr.alloc (.cells #[.int .i64 o.od[k].h.id, .int .i64 o.od[k].h.st, .string o.od[k].h.nm, .int .i64 o.od[k].h.cl, .int .i64 o.od[k].h.ca, .slice (some ⟨bi, oi, none⟩) o.od[k].l.length ci, .int .i64 o.od[k].h.pr, .int .i64 o.od[k].h.pa, .int .i64 o.od[k].h.fi] 85)).alloc (.cells #[] 142)).cell? ⟨wr.heap.size, 5, none⟩ = some (.slice (some ⟨bi, oi, none⟩) o.od[k].l.length ci) := cell_at xb 5
      have OA1 := Pk.own_below HO.out N01 (Nat.le_refl _)
      go_wp2_with (at_builtin; refine wpList_append_own_at _ rfl _ _ 83 rfl (wr.heap.size + 1) 142 iD (Rd.lgV ⟨0, 0, 0, 0⟩) 4 32 Tryz.underlying83 hiD hxD hyD hzD rfl (by decide) _ _ _ rfl OR0 ⟨bi, oi, none⟩ o.od[k].l.length ci (snap ((wr.alloc (.cells #[.int .i64 o.od[k].h.id, .int .i64 o.od[k].h.st, .string o.od[k].h.nm, .int .i64 o.od[k].h.cl, .int .i64 o.od[k].h.ca, .slice (some ⟨bi, oi, none⟩) o.od[k].l.length ci, .int .i64 o.od[k].h.pr, .int .i64 o.od[k].h.pa, .int .i64 o.od[k].h.fi] 85)).alloc (.cells #[] 142)) bi oi (o.od[k].l.length * 4)) rfl ?c0 ?c1 ?c2 ?c3 ?c4 ?c5 ?_)
      case c0 => rw [snap_len]
      case c1 => exact snap_get H1
      case c2 => exact snap_one H1
      case c3 => unfold maxLen; omega
      case c4 => omega
      case c5 => exact hA1
      intro v' y1 OR1 GR1 _ _
      try rw [Nat.zero_add, List.nil_append] at OR1
      obtain ⟨va, vc, rfl, -⟩ := own_form OR1
      have LY1 : Below (wr.heap.size + 1) ((wr.alloc (.cells #[.int .i64 o.od[k].h.id, .int .i64 o.od[k].h.st, .string o.od[k].h.nm, .int .i64 o.od[k].h.cl, .int .i64 o.od[k].h.ca, .slice (some ⟨bi, oi, none⟩) o.od[k].l.length ci, .int .i64 o.od[k].h.pr, .int .i64 o.od[k].h.pa, .int .i64 o.od[k].h.fi] 85)).alloc (.cells #[] 142)) y1 := (Below.refl _ _).grown GR1 hA1 (fun j hj => (OR0.lt j hj).1)
      have RA1 : RideAt y1 (wr.heap.size + 1) va o.od[k].l := ride_of S1 rfl OR1 (fun j hj => snap_at H1 j hj)
      have OY1 := own_grown OA1 GR1 (fun g cs f hh => Pk.own_ne OR0 hh (by decide))
      have xb1 := kept LY1 (by omega) xb
      have hy1 : wr.heap.size + 1 ≤ y1.heap.size := Nat.le_trans hA1 LY1.size
      have HKY : Hid (∀ g, g < wr.heap.size → y1.heap[g]? = wr.heap[g]?) := fun g hg => (LY1.block g (by omega)).trans (N01.block g hg)
      have hob : ∀ j, (Value.slice qa k qc).ownBlock = some j → j ≠ wr.heap.size := fun j hj => Nat.ne_of_lt (HO.out.lt j hj).2
      have OB0 : (y1.setCell ⟨wr.heap.size, 5, none⟩ (.slice va o.od[k].l.length vc)).ownsRow w8.heap.size 85 9 (.slice qa k qc) k xs := own_setX OY1 hob
      have OB1 := Pk.own_below OB0 (new_below (y1.setCell ⟨wr.heap.size, 5, none⟩ (.slice va o.od[k].l.length vc)) (.cells #[.int .i64 o.od[k].h.id, .int .i64 o.od[k].h.st, .string o.od[k].h.nm, .int .i64 o.od[k].h.cl, .int .i64 o.od[k].h.ca, .slice va o.od[k].l.length vc, .int .i64 o.od[k].h.pr, .int .i64 o.od[k].h.pa, .int .i64 o.od[k].h.fi] 85)) (Nat.le_refl _)
      have xb2 : (y1.setCell ⟨wr.heap.size, 5, none⟩ (.slice va o.od[k].l.length vc)).heap[wr.heap.size]? = some (.cells #[.int .i64 o.od[k].h.id, .int .i64 o.od[k].h.st, .string o.od[k].h.nm, .int .i64 o.od[k].h.cl, .int .i64 o.od[k].h.ca, .slice va o.od[k].l.length vc, .int .i64 o.od[k].h.pr, .int .i64 o.od[k].h.pa, .int .i64 o.od[k].h.fi] 85) := h_set (i := 5) xb1 _
      have m1 := heap_new (y1.setCell ⟨wr.heap.size, 5, none⟩ (.slice va o.od[k].l.length vc)) (.cells #[.int .i64 o.od[k].h.id, .int .i64 o.od[k].h.st, .string o.od[k].h.nm, .int .i64 o.od[k].h.cl, .int .i64 o.od[k].h.ca, .slice va o.od[k].l.length vc, .int .i64 o.od[k].h.pr, .int .i64 o.od[k].h.pa, .int .i64 o.od[k].h.fi] 85)
      rw [World.size_setCell] at m1
      have LV1 : Below w8.heap.size v8 y1 := ((LR.trans (N01.mono hwr)).grown GR1 (by have := LR.size; omega) (fun j hj => by have := (OR0.lt j hj).1; omega))
      have LV2 : Below w8.heap.size v8 ((y1.setCell ⟨wr.heap.size, 5, none⟩ (.slice va o.od[k].l.length vc)).alloc (.cells #[.int .i64 o.od[k].h.id, .int .i64 o.od[k].h.st, .string o.od[k].h.nm, .int .i64 o.od[k].h.cl, .int .i64 o.od[k].h.ca, .slice va o.od[k].l.length vc, .int .i64 o.od[k].h.pr, .int .i64 o.od[k].h.pa, .int .i64 o.od[k].h.fi] 85)) := ((LV1.setCell (p := ⟨wr.heap.size, 5, none⟩) hwr _).trans ((new_below _ _).mono (by rw [World.size_setCell]; omega)))
      have xx0 : (y1.setCell ⟨wr.heap.size, 5, none⟩ (.slice va o.od[k].l.length vc)).cell? ⟨wr.heap.size, 0, none⟩ = some (.int .i64 o.od[k].h.id) := cell_at xb2 0
      have xx1 : (y1.setCell ⟨wr.heap.size, 5, none⟩ (.slice va o.od[k].l.length vc)).cell? ⟨wr.heap.size, 1, none⟩ = some (.int .i64 o.od[k].h.st) := cell_at xb2 1
      have xx2 : (y1.setCell ⟨wr.heap.size, 5, none⟩ (.slice va o.od[k].l.length vc)).cell? ⟨wr.heap.size, 2, none⟩ = some (.string o.od[k].h.nm) := cell_at xb2 2
      have xx3 : (y1.setCell ⟨wr.heap.size, 5, none⟩ (.slice va o.od[k].l.length vc)).cell? ⟨wr.heap.size, 3, none⟩ = some (.int .i64 o.od[k].h.cl) := cell_at xb2 3
      have xx4 : (y1.setCell ⟨wr.heap.size, 5, none⟩ (.slice va o.od[k].l.length vc)).cell? ⟨wr.heap.size, 4, none⟩ = some (.int .i64 o.od[k].h.ca) := cell_at xb2 4
      have xx5 : (y1.setCell ⟨wr.heap.size, 5, none⟩ (.slice va o.od[k].l.length vc)).cell? ⟨wr.heap.size, 5, none⟩ = some (.slice va o.od[k].l.length vc) := cell_at xb2 5
      have xx6 : (y1.setCell ⟨wr.heap.size, 5, none⟩ (.slice va o.od[k].l.length vc)).cell? ⟨wr.heap.size, 6, none⟩ = some (.int .i64 o.od[k].h.pr) := cell_at xb2 6
      have xx7 : (y1.setCell ⟨wr.heap.size, 5, none⟩ (.slice va o.od[k].l.length vc)).cell? ⟨wr.heap.size, 7, none⟩ = some (.int .i64 o.od[k].h.pa) := cell_at xb2 7
      have xx8 : (y1.setCell ⟨wr.heap.size, 5, none⟩ (.slice va o.od[k].l.length vc)).cell? ⟨wr.heap.size, 8, none⟩ = some (.int .i64 o.od[k].h.fi) := cell_at xb2 8
      have xf5 : y1.frozen? ⟨wr.heap.size, 5, none⟩ = false := frozen_at xb1 5
      have xc5 : y1.cell? ⟨wr.heap.size, 5, none⟩ = some (.slice (some ⟨bi, oi, none⟩) o.od[k].l.length ci) := cell_at xb1 5
      have hB1 : w8.heap.size ≤ ((y1.setCell ⟨wr.heap.size, 5, none⟩ (.slice va o.od[k].l.length vc)).alloc (.cells #[.int .i64 o.od[k].h.id, .int .i64 o.od[k].h.st, .string o.od[k].h.nm, .int .i64 o.od[k].h.cl, .int .i64 o.od[k].h.ca, .slice va o.od[k].l.length vc, .int .i64 o.od[k].h.pr, .int .i64 o.od[k].h.pa, .int .i64 o.od[k].h.fi] 85)).heap.size := Nat.le_trans hz8 LV2.size
      have HRR : Hid (∀ w9, ((y1.setCell ⟨wr.heap.size, 5, none⟩ (.slice va o.od[k].l.length vc)).alloc (.cells #[.int .i64 o.od[k].h.id, .int .i64 o.od[k].h.st, .string o.od[k].h.nm, .int .i64 o.od[k].h.cl, .int .i64 o.od[k].h.ca, .slice va o.od[k].l.length vc, .int .i64 o.od[k].h.pr, .int .i64 o.od[k].h.pa, .int .i64 o.od[k].h.fi] 85)).grownBy w9 (Value.slice qa k qc).ownBlock → RowsO w9 w8.heap.size (k + 1) o.od (fun i => if i = k then .slice va o.od[k].l.length vc else ps i)) := by
        intro w9 G i hi hik
        have hne : ∀ (g : Nat) (cs : Array Value) (f : Nat × Nat), y1.heap[g]? = some (Obj.cells cs 142 f) → w9.heap[g]? = y1.heap[g]? := fun g cs f hh => by
          have hg : g ≠ wr.heap.size := fun e => by rw [e, xb1] at hh; simp at hh
          have q1 : (y1.setCell ⟨wr.heap.size, 5, none⟩ (.slice va o.od[k].l.length vc)).heap[g]? = y1.heap[g]? := Below.heap_setCell y1 ⟨wr.heap.size, 5, none⟩ _ g hg
          have q2 : ((y1.setCell ⟨wr.heap.size, 5, none⟩ (.slice va o.od[k].l.length vc)).alloc (.cells #[.int .i64 o.od[k].h.id, .int .i64 o.od[k].h.st, .string o.od[k].h.nm, .int .i64 o.od[k].h.cl, .int .i64 o.od[k].h.ca, .slice va o.od[k].l.length vc, .int .i64 o.od[k].h.pr, .int .i64 o.od[k].h.pa, .int .i64 o.od[k].h.fi] 85)).heap[g]? = some (Obj.cells cs 142 f) := heap_old (q1.trans hh) _
          exact ((G.block g (lt_of q2) (Pk.own_ne OB1 q2 (by decide))).trans q2).trans hh.symm
        have hsz : y1.heap.size ≤ w9.heap.size := Nat.le_trans (by have := (new_below (y1.setCell ⟨wr.heap.size, 5, none⟩ (.slice va o.od[k].l.length vc)) (.cells #[.int .i64 o.od[k].h.id, .int .i64 o.od[k].h.st, .string o.od[k].h.nm, .int .i64 o.od[k].h.cl, .int .i64 o.od[k].h.ca, .slice va o.od[k].l.length vc, .int .i64 o.od[k].h.pr, .int .i64 o.od[k].h.pa, .int .i64 o.od[k].h.fi] 85)).size; rw [World.size_setCell] at this; exact this) G.size
        by_cases e : i = k
        · subst e
          simp only [if_true]
          exact ⟨va, vc, rfl, (RA1.keep hsz hne).lower (by omega)⟩
        · simp only [if_neg e]
          obtain ⟨a, c, q1, q2⟩ := HR.out i hi (by omega)
          exact ⟨a, c, q1, (q2.keep (by omega) fun g cs f hh => HKY.out g (lt_of hh)).keep hsz hne⟩
      have HSV : Hid (XsO _ _ _ _) := HX.out.snoc hkn (.slice va o.od[k].l.length vc)
      clear OR0 OR1 GR1 LY1 OY1 OA1 OB0 LV1 RA1 HKY S1 H1 S xb xb1 hob HO HX HR hA1 x5
      go_wp2_with (at_builtin; refine wpList_append_own_at _ rfl _ _ 33 rfl w8.heap.size 85 iO (Od.odV ⟨0, 0, ByteArray.empty, 0, 0, 0, 0, 0⟩ none 0 0) 9 96 Tryz.underlying33 hiO hxO hyO hzO rfl (by decide) _ _ _ rfl OB1 ⟨y1.heap.size, 0, none⟩ 1 1 (tc9 o.od[k].h (.slice va o.od[k].l.length vc)) rfl rfl ?c1 ?c2 ?c3 ?c4 ?c5 ?_)
      case c1 => exact nine_at m1
      case c2 => intro u hu; simp [tc9] at hu; rcases hu with rfl | rfl | rfl | rfl | rfl | rfl | rfl | rfl | rfl <;> rfl
      case c3 => unfold maxLen; omega
      case c4 => omega
      case c5 => exact hB1
      intro v2 y2 O2 G2 _ _
      have L2 : Hid (Below w8.heap.size v8 y2) := LV2.grown G2 (by have := LV2.size; omega) (fun j hj => (OB1.lt j hj).1)
      have HR2 : Hid (RowsO _ _ _ _ _) := HRR.out y2 G2
      have HO2 : Hid (World.ownsRow _ _ _ _ _ _ _) := O2
      clear OB1 O2 G2 LV2 HRR m1 xb2
      go_wp2
      go_roundw
      case rel => exact ⟨k + 1, _, _, by omega, by go_num, HO2, HSV, HR2, L2⟩
      case measure => simp [intOf]; omega
    · obtain rfl : k = o.od.length := by omega
      have HLW : Hid (LwO wr w8.heap.size qa o.od) := rows_orders HO.out HX.out HR.out
      clear HO HX HR
      have s0 : (wr.setCell ⟨w.heap.size, 3, none⟩ (.slice qa o.od.length qc)).heap[w.heap.size]? = some (.cells #[.slice a0 o.ln.length c0, .slice a1 o.ta.length c1, .slice a2 o.ho.length c2, .slice qa o.od.length qc, .slice (some ⟨b4, p4, none⟩) o.to.length k4, .int .i64 o.td] 36) := h_set (i := 3) j0 _
      have s1 : (wr.setCell ⟨w.heap.size, 3, none⟩ (.slice qa o.od.length qc)).heap[w.heap.size + 1]? = some (.cells #[.slice none 0 0, .slice none 0 0, .slice none 0 0, .slice none 0 0, .slice none 0 0, .int .i64 0] 36) := h_other (i := 3) j1 (by omega) _
      have t0 := heap_old s0 (.cells #[] 87)
      have t1 := heap_old s1 (.cells #[] 87)
      have O5 := nil_row (wr.setCell ⟨w.heap.size, 3, none⟩ (.slice qa o.od.length qc)) 87 4
      rw [World.size_setCell] at O5
      have B5 : Below w.heap.size w ((wr.setCell ⟨w.heap.size, 3, none⟩ (.slice qa o.od.length qc)).alloc (.cells #[] 87)) := join_below (Bwr.setCell (Nat.le_refl _) _) (new_below _ _)
      have J5 := I4.on B5
      have H5 := reps_cells J5
      have hz5 : wr.heap.size ≤ ((wr.setCell ⟨w.heap.size, 3, none⟩ (.slice qa o.od.length qc)).alloc (.cells #[] 87)).heap.size := by rw [show ((wr.setCell ⟨w.heap.size, 3, none⟩ (.slice qa o.od.length qc)).alloc (.cells #[] 87)).heap.size = (wr.setCell ⟨w.heap.size, 3, none⟩ (.slice qa o.od.length qc)).heap.size + 1 from Array.size_push .., World.size_setCell]; omega
      have q0 : wr.cell? ⟨w.heap.size, 0, none⟩ = some (.slice a0 o.ln.length c0) := cell_at j0 0
      have q1 : wr.cell? ⟨w.heap.size, 1, none⟩ = some (.slice a1 o.ta.length c1) := cell_at j0 1
      have q2 : wr.cell? ⟨w.heap.size, 2, none⟩ = some (.slice a2 o.ho.length c2) := cell_at j0 2
      have q3 : wr.cell? ⟨w.heap.size, 3, none⟩ = some (.slice (some ⟨b3, p3, none⟩) o.od.length k3) := cell_at j0 3
      have q4 : wr.cell? ⟨w.heap.size, 4, none⟩ = some (.slice (some ⟨b4, p4, none⟩) o.to.length k4) := cell_at j0 4
      have q5 : wr.cell? ⟨w.heap.size, 5, none⟩ = some (.int .i64 o.td) := cell_at j0 5
      have r3 : wr.frozen? ⟨w.heap.size, 3, none⟩ = false := frozen_at j0 3
      have pc4 : ((wr.setCell ⟨w.heap.size, 3, none⟩ (.slice qa o.od.length qc)).alloc (.cells #[] 87)).cell? ⟨w.heap.size, 4, none⟩ = some (.slice (some ⟨b4, p4, none⟩) o.to.length k4) := cell_at t0 4
      go_wp2_with (at_builtin; refine wpList_append_own_at _ rfl _ _ 34 rfl wr.heap.size 87 iR (Rp.lgV ⟨0, 0, 0, 0⟩) 4 32 Tryz.underlying34 hiR hxR hyR hzR rfl (by decide) _ _ _ rfl O5 ⟨b4, p4, none⟩ o.to.length k4 (snap ((wr.setCell ⟨w.heap.size, 3, none⟩ (.slice qa o.od.length qc)).alloc (.cells #[] 87)) b4 p4 (o.to.length * 4)) rfl ?c0 ?c1 ?c2 ?c3 ?c4 ?c5 ?_)
      case c0 => rw [snap_len]
      case c1 => exact snap_get H5
      case c2 => exact snap_one H5
      case c3 => unfold maxLen; omega
      case c4 => omega
      case c5 => exact hz5
      intro v' w10 O6 G6 _ _
      have L6 : Below wr.heap.size ((wr.setCell ⟨w.heap.size, 3, none⟩ (.slice qa o.od.length qc)).alloc (.cells #[] 87)) w10 := (Below.refl _ _).grown G6 hz5 (fun j hj => (O5.lt j hj).1)
      try rw [Nat.zero_add, List.nil_append] at O6
      obtain ⟨a4, c4, rfl, -⟩ := own_form O6
      have n0w10 := kept L6 (by omega) t0
      have n1w10 := kept L6 (by omega) t1
      have HX4 : Hid (∀ X, Kp v0.heap.size w10 X → Rp.Replys X a4 o.to) := by
        intro X k
        by_cases h0 : o.to.length = 0
        · exact Or.inl (List.eq_nil_of_length_eq_zero h0)
        · obtain ⟨g, c, hv, h1, h2, h3, h4⟩ := own_g O6 (by omega)
          simp only [Value.slice.injEq] at hv
          obtain ⟨rfl, -, rfl⟩ := hv
          refine reps_kp (reps_moved J5 h2 fun j hj => ?_) (by omega) k
          obtain ⟨z, hz, -⟩ := H5 j hj
          rw [hz]
          exact h3 j z (by rw [snap_at H5 j hj, hz])
      have K6 : Kp v0.heap.size wr w10 := ⟨Nat.le_trans hz5 G6.size, fun p h1 h2 => (L6.cell h2).trans ((new_below _ _).cell (by rw [World.size_setCell]; exact h2) |>.trans (Od.cell_other (by omega)))⟩
      have Bw10 : Below w.heap.size w w10 := B5.grown G6 B5.size (fun j hj => by have := (O5.lt j hj).1; omega)
      have hsw10 : wr.heap.size ≤ w10.heap.size := K6.1
      have y0 : (w10.setCell ⟨w.heap.size, 4, none⟩ (.slice a4 o.to.length c4)).heap[w.heap.size]? = some (.cells #[.slice a0 o.ln.length c0, .slice a1 o.ta.length c1, .slice a2 o.ho.length c2, .slice qa o.od.length qc, .slice a4 o.to.length c4, .int .i64 o.td] 36) := h_set (i := 4) n0w10 _
      have y1 : (w10.setCell ⟨w.heap.size, 4, none⟩ (.slice a4 o.to.length c4)).heap[w.heap.size + 1]? = some (.cells #[.slice none 0 0, .slice none 0 0, .slice none 0 0, .slice none 0 0, .slice none 0 0, .int .i64 0] 36) := h_other (i := 4) n1w10 (by omega) _
      have HK : Hid (∀ W, Kp v0.heap.size w10 W → In W ⟨a0, a1, a2, qa, a4, c0, c1, c2, qc, c4⟩ o) := fun W k => ⟨(HZ0.out W (K8r.trans (K6.trans k))).1, (HZ0.out W (K8r.trans (K6.trans k))).2.1, (HZ0.out W (K8r.trans (K6.trans k))).2.2, (HLW.out.kp ((K6.trans k).mono (by omega))).orders, HX4.out W k⟩
      clear O5 O6 G6 L6 H5 hz5 B5 J5 t0 t1 s0 s1 q0 q1 q2 q3 q4 q5 r3 pc4 K6 K8r HLW HX4 HZ0
      have u4 : w10.cell? ⟨w.heap.size, 4, none⟩ = some (.slice (some ⟨b4, p4, none⟩) o.to.length k4) := cell_at n0w10 4
      have g4 : w10.frozen? ⟨w.heap.size, 4, none⟩ = false := frozen_at n0w10 4
      have ll0 : (w10.setCell ⟨w.heap.size, 4, none⟩ (.slice a4 o.to.length c4)).cell? ⟨w.heap.size, 0, none⟩ = some (.slice a0 o.ln.length c0) := cell_at y0 0
      have ll1 : (w10.setCell ⟨w.heap.size, 4, none⟩ (.slice a4 o.to.length c4)).cell? ⟨w.heap.size, 1, none⟩ = some (.slice a1 o.ta.length c1) := cell_at y0 1
      have ll2 : (w10.setCell ⟨w.heap.size, 4, none⟩ (.slice a4 o.to.length c4)).cell? ⟨w.heap.size, 2, none⟩ = some (.slice a2 o.ho.length c2) := cell_at y0 2
      have ll3 : (w10.setCell ⟨w.heap.size, 4, none⟩ (.slice a4 o.to.length c4)).cell? ⟨w.heap.size, 3, none⟩ = some (.slice qa o.od.length qc) := cell_at y0 3
      have ll4 : (w10.setCell ⟨w.heap.size, 4, none⟩ (.slice a4 o.to.length c4)).cell? ⟨w.heap.size, 4, none⟩ = some (.slice a4 o.to.length c4) := cell_at y0 4
      have ll5 : (w10.setCell ⟨w.heap.size, 4, none⟩ (.slice a4 o.to.length c4)).cell? ⟨w.heap.size, 5, none⟩ = some (.int .i64 o.td) := cell_at y0 5
      have z0 : (w10.setCell ⟨w.heap.size, 4, none⟩ (.slice a4 o.to.length c4)).cell? ⟨w.heap.size + 1, 0, none⟩ = some (.slice none 0 0) := cell_at y1 0
      have z1 : (w10.setCell ⟨w.heap.size, 4, none⟩ (.slice a4 o.to.length c4)).cell? ⟨w.heap.size + 1, 1, none⟩ = some (.slice none 0 0) := cell_at y1 1
      have z2 : (w10.setCell ⟨w.heap.size, 4, none⟩ (.slice a4 o.to.length c4)).cell? ⟨w.heap.size + 1, 2, none⟩ = some (.slice none 0 0) := cell_at y1 2
      have z3 : (w10.setCell ⟨w.heap.size, 4, none⟩ (.slice a4 o.to.length c4)).cell? ⟨w.heap.size + 1, 3, none⟩ = some (.slice none 0 0) := cell_at y1 3
      have z4 : (w10.setCell ⟨w.heap.size, 4, none⟩ (.slice a4 o.to.length c4)).cell? ⟨w.heap.size + 1, 4, none⟩ = some (.slice none 0 0) := cell_at y1 4
      have z5 : (w10.setCell ⟨w.heap.size, 4, none⟩ (.slice a4 o.to.length c4)).cell? ⟨w.heap.size + 1, 5, none⟩ = some (.int .i64 0) := cell_at y1 5
      have f0 : (w10.setCell ⟨w.heap.size, 4, none⟩ (.slice a4 o.to.length c4)).frozen? ⟨w.heap.size + 1, 0, none⟩ = false := frozen_at y1 0
      have f1 : (w10.setCell ⟨w.heap.size, 4, none⟩ (.slice a4 o.to.length c4)).frozen? ⟨w.heap.size + 1, 1, none⟩ = false := frozen_at y1 1
      have f2 : (w10.setCell ⟨w.heap.size, 4, none⟩ (.slice a4 o.to.length c4)).frozen? ⟨w.heap.size + 1, 2, none⟩ = false := frozen_at y1 2
      have f3 : (w10.setCell ⟨w.heap.size, 4, none⟩ (.slice a4 o.to.length c4)).frozen? ⟨w.heap.size + 1, 3, none⟩ = false := frozen_at y1 3
      have f4 : (w10.setCell ⟨w.heap.size, 4, none⟩ (.slice a4 o.to.length c4)).frozen? ⟨w.heap.size + 1, 4, none⟩ = false := frozen_at y1 4
      have f5 : (w10.setCell ⟨w.heap.size, 4, none⟩ (.slice a4 o.to.length c4)).frozen? ⟨w.heap.size + 1, 5, none⟩ = false := frozen_at y1 5
      go_wp2
      refine bodyPost_ret (v := .agg #[.slice a0 o.ln.length c0, .slice a1 o.ta.length c1, .slice a2 o.ho.length c2, .slice qa o.od.length qc, .slice a4 o.to.length c4, .int .i64 o.td]) (by simp [results, Tryz.results19, go_sem, z0, z1, z2, z3, z4, z5]) rfl ?_
      refine ⟨⟨a0, a1, a2, qa, a4, c0, c1, c2, qc, c4⟩, rfl, fun W k => HK.out W (Kp.trans ?_ (k.mono (by omega))), ?_⟩
      · (repeat' (first | with_reducible exact Dk.Kp.refl _ _ | with_reducible apply Dk.Kp.setR | with_reducible apply Dk.Kp.allocR)) <;> omega
      · (repeat' (first | with_reducible exact Bw10 | apply Below.setCell | apply Below.alloc)) <;> first | (simp; done) | (simp; omega)

end Of
end Go.Proofs.YtehmlnojjfeheaaGreat

/- Which orders are sold; orders by their numbers; replies of which no two are of one request: the program's. -/
namespace Go.Proofs.YtehmlnojjfeheaaGreat
namespace Of
open Go.ChangeShapes Go.WideShapes Go.ChangeAt Go.RowKit Go.Joins
open Pk (new_below join_below cell_at heap_new frozen_at lt_of kept heap_old info_of Room)
set_option linter.unusedSimpArgs false
set_option linter.unusedVariables false

open Se (inB in_is in_not)
open Go.Maps (Keyed)

/-- No order. -/
def od0 : Od.Oo := ⟨⟨0, 0, ByteArray.empty, 0, 0, 0, 0, 0⟩, []⟩

/-- Whether the order of a number is sold. -/
def soldB (l : List Od.Oo) (n : Int) : Bool := inB n 1 l.length && decide ((l.getD (n - 1).toNat od0).h.st = 1)

theorem sold_out {l : List Od.Oo} {n : Int} (h : inB n 1 l.length = false) : soldB l n = false := by
  unfold soldB
  rw [h]
  rfl

theorem sold_in {l : List Od.Oo} {n : Int} (h : inB n 1 l.length = true) : ∃ k, ∃ hk : k < l.length, n = (k : Int) + 1 ∧ soldB l n = decide (l[k].h.st = 1) := by
  obtain ⟨h1, h2⟩ := in_is.1 h
  refine ⟨(n - 1).toNat, by omega, by omega, ?_⟩
  unfold soldB
  rw [h, Bool.true_and, List.getD_eq_getElem?_getD, List.getElem?_eq_getElem (by omega), Option.getD_some]

/-- Whether order i has the number i + 1. -/
def idsB (l : List Od.Oo) : Bool := (List.range l.length).all fun i => decide ((l.getD i od0).h.id = (i : Int) + 1)

theorem getD_at (l : List Od.Oo) (k : Nat) (h : k < l.length) : l.getD k od0 = l[k] := by
  rw [List.getD_eq_getElem?_getD, List.getElem?_eq_getElem h, Option.getD_some]

theorem ids_yes {l : List Od.Oo} (h : ∀ i, i < l.length → (l.getD i od0).h.id = (i : Int) + 1) : idsB l = true := by
  unfold idsB
  rw [List.all_eq_true]
  intro i hi
  exact decide_eq_true (h i (List.mem_range.1 hi))

theorem ids_no {l : List Od.Oo} {k : Nat} (hk : k < l.length) (h : ¬ (l.getD k od0).h.id = (k : Int) + 1) : idsB l = false := by
  cases e : idsB l
  · rfl
  · exfalso
    unfold idsB at e
    rw [List.all_eq_true] at e
    exact h (of_decide_eq_true (e k (List.mem_range.2 hk)))

/-- No reply. -/
def rp0 : Rp.Rr := ⟨0, 0, 0, 0⟩

/-- The request of a reply. -/
def rqAt (l : List Rp.Rr) (i : Nat) : Int := (l.getD i rp0).rq

theorem rq_at (l : List Rp.Rr) (k : Nat) (h : k < l.length) : rqAt l k = l[k].rq := by
  unfold rqAt
  rw [List.getD_eq_getElem?_getD, List.getElem?_eq_getElem h, Option.getD_some]

/-- Of the first k replies no two are of one request. -/
def Dis (l : List Rp.Rr) (k : Nat) : Prop := ∀ i j, i < k → j < i → rqAt l i ≠ rqAt l j

/-- Whether no two replies are of one request. -/
def disB (l : List Rp.Rr) : Bool := (List.range l.length).all fun i => (List.range i).all fun j => decide (rqAt l i ≠ rqAt l j)

theorem dis_yes {l : List Rp.Rr} (h : Dis l l.length) : disB l = true := by
  unfold disB
  rw [List.all_eq_true]
  intro i hi
  rw [List.all_eq_true]
  intro j hj
  exact decide_eq_true (h i j (List.mem_range.1 hi) (List.mem_range.1 hj))

theorem dis_no {l : List Rp.Rr} (h : ¬ Dis l l.length) : disB l = false := by
  cases e : disB l
  · rfl
  · exfalso
    apply h
    intro i j hi hj
    unfold disB at e
    rw [List.all_eq_true] at e
    have e1 := e i (List.mem_range.2 hi)
    rw [List.all_eq_true] at e1
    exact of_decide_eq_true (e1 j (List.mem_range.2 hj))

theorem dis_two {l : List Rp.Rr} {i j : Nat} (hi : i < l.length) (hj : j < i) (h : rqAt l i = rqAt l j) : disB l = false := dis_no fun d => d i j hi hj h

/-- All replies but the number of them. -/
def idsOk (l : List Od.Oo) : Bool := idsB l && decide ((l.length : Int) ≤ 100)
def toldOk (l : List Rp.Rr) : Bool := disB l && decide ((l.length : Int) ≤ 300)

theorem ret_b {a b : Bool} (h : b = a) : Ending.returned (.bool a) = .returned (.bool b) := by rw [h]

abbrev zeroB (ty : TypeId) : Obj := .cells #[.int .i64 0, .int .i64 0, .string ⟨#[]⟩, .int .i64 0, .int .i64 0, .slice none 0 0, .int .i64 0, .int .i64 0, .int .i64 0] ty

set_option maxHeartbeats 2000000 in
theorem soldOrder_val (a : Option Addr) (l : List Od.Oo) (cap : Nat) (n : Int) (w : World) (hl : l.length ≤ maxLen) (I : Od.Orders w a l) :
    Calls Tryz.prog 55 #[.slice a l.length cap, .int .i64 n] w fun e w' => (∃ t b m c, e = .returned (.tuple #[Od.odV t b m c, .bool (soldB l n)])) ∧ Below w.heap.size w w' := by
  unfold maxLen at hl
  have N := new_below w (zeroB 85)
  have m0 := heap_new w (zeroB 85)
  have z0 : (w.alloc (zeroB 85)).cell? ⟨w.heap.size, 0, none⟩ = some (.int .i64 0) := cell_at m0 0
  have z1 : (w.alloc (zeroB 85)).cell? ⟨w.heap.size, 1, none⟩ = some (.int .i64 0) := cell_at m0 1
  have z2 : (w.alloc (zeroB 85)).cell? ⟨w.heap.size, 2, none⟩ = some (.string ⟨#[]⟩) := cell_at m0 2
  have z3 : (w.alloc (zeroB 85)).cell? ⟨w.heap.size, 3, none⟩ = some (.int .i64 0) := cell_at m0 3
  have z4 : (w.alloc (zeroB 85)).cell? ⟨w.heap.size, 4, none⟩ = some (.int .i64 0) := cell_at m0 4
  have z5 : (w.alloc (zeroB 85)).cell? ⟨w.heap.size, 5, none⟩ = some (.slice none 0 0) := cell_at m0 5
  have z6 : (w.alloc (zeroB 85)).cell? ⟨w.heap.size, 6, none⟩ = some (.int .i64 0) := cell_at m0 6
  have z7 : (w.alloc (zeroB 85)).cell? ⟨w.heap.size, 7, none⟩ = some (.int .i64 0) := cell_at m0 7
  have z8 : (w.alloc (zeroB 85)).cell? ⟨w.heap.size, 8, none⟩ = some (.int .i64 0) := cell_at m0 8
  have y0 : (w.alloc (zeroB 85)).frozen? ⟨w.heap.size, 0, none⟩ = false := frozen_at m0 0
  have y1 : (w.alloc (zeroB 85)).frozen? ⟨w.heap.size, 1, none⟩ = false := frozen_at m0 1
  have y2 : (w.alloc (zeroB 85)).frozen? ⟨w.heap.size, 2, none⟩ = false := frozen_at m0 2
  have y3 : (w.alloc (zeroB 85)).frozen? ⟨w.heap.size, 3, none⟩ = false := frozen_at m0 3
  have y4 : (w.alloc (zeroB 85)).frozen? ⟨w.heap.size, 4, none⟩ = false := frozen_at m0 4
  have y5 : (w.alloc (zeroB 85)).frozen? ⟨w.heap.size, 5, none⟩ = false := frozen_at m0 5
  have y6 : (w.alloc (zeroB 85)).frozen? ⟨w.heap.size, 6, none⟩ = false := frozen_at m0 6
  have y7 : (w.alloc (zeroB 85)).frozen? ⟨w.heap.size, 7, none⟩ = false := frozen_at m0 7
  have y8 : (w.alloc (zeroB 85)).frozen? ⟨w.heap.size, 8, none⟩ = false := frozen_at m0 8
  have I0 := I.on N
  cases hb : inB n 1 l.length
  · have HB : Hid (∀ w, _) := fun w => Se.btw_no n 1 l.length w hb
    rw [sold_out hb]
    clear hb
    go_enter Tryz.func55, Tryz.ntmps55
    go_wp2_with fail
    refine (HB.out _).mono ?_
    rintro e w1 ⟨rfl, rfl⟩
    generalize w.alloc (zeroB 85) = W at *
    go_wp2
    refine bodyPost_ret (v := .tuple #[Od.odV ⟨0, 0, ⟨#[]⟩, 0, 0, 0, 0, 0⟩ none 0 0, .bool false]) (by first | (simp [results, Tryz.results55, go_sem, z0, z1, z2, z3, z4, z5, z6, z7, z8]; done) | (simp [results, Tryz.results55, go_sem, z0, z1, z2, z3, z4, z5, z6, z7, z8]; rfl)) rfl ?_
    refine ⟨⟨_, _, _, _, rfl⟩, ?_⟩
    (repeat' (first | apply Below.setCell | exact N)) <;> exact Nat.le_refl _
  · have HB : Hid (∀ w, _) := fun w => Se.btw_yes n 1 l.length w hb
    obtain ⟨k, hk, rfl, hs⟩ := sold_in hb
    rw [hs]
    clear hs hb
    obtain ⟨b, u, ai, ci, rfl, hlt, c0, c1, c2, c3, c4, c6, c7, c8, c5, J⟩ := I0.at k hk
    have hk1 : wrap64 ((k : Int) + 1 - 1) = (k : Int) := by rw [show (k : Int) + 1 - 1 = k by omega]; unfold wrap64; omega
    have hk2 : IntKind.i64.wrap ((k : Int) + 1 - 1) = (k : Int) := by rw [show (k : Int) + 1 - 1 = k by omega, IntKind.wrap_i64]; omega
    cases hd : decide (l[k].h.st = 1)
    · have hne : ¬ l[k].h.st = 1 := of_decide_eq_false hd
      have hq : (l[k].h.st == 1) = false := by simpa using hne
      clear hd
      generalize l[k].l.length = m at *
      generalize l[k].h = p at *
      go_enter Tryz.func55, Tryz.ntmps55
      go_wp2_with fail
      refine (HB.out _).mono ?_
      rintro e w1 ⟨rfl, rfl⟩
      generalize w.alloc (zeroB 85) = W at *
      go_wp2
      refine bodyPost_ret (v := .tuple #[Od.odV ⟨0, 0, ⟨#[]⟩, 0, 0, 0, 0, 0⟩ none 0 0, .bool false]) (by first | (simp [results, Tryz.results55, go_sem, z0, z1, z2, z3, z4, z5, z6, z7, z8]; done) | (simp [results, Tryz.results55, go_sem, z0, z1, z2, z3, z4, z5, z6, z7, z8]; rfl)) rfl ?_
      refine ⟨⟨_, _, _, _, rfl⟩, ?_⟩
      (repeat' (first | apply Below.setCell | exact N)) <;> exact Nat.le_refl _
    · have hne : l[k].h.st = 1 := of_decide_eq_true hd
      have hq : (l[k].h.st == 1) = true := by simpa using hne
      clear hd hne
      generalize l[k].l.length = m at *
      generalize l[k].h = p at *
      go_enter Tryz.func55, Tryz.ntmps55
      go_wp2_with fail
      refine (HB.out _).mono ?_
      rintro e w1 ⟨rfl, rfl⟩
      generalize w.alloc (zeroB 85) = W at *
      go_wp2
      refine bodyPost_ret (v := .tuple #[Od.odV p ai m ci, .bool true]) (by first | (simp [results, Tryz.results55, go_sem, z0, z1, z2, z3, z4, z5, z6, z7, z8]; done) | (simp [results, Tryz.results55, go_sem, z0, z1, z2, z3, z4, z5, z6, z7, z8]; rfl)) rfl ?_
      refine ⟨⟨_, _, _, _, rfl⟩, ?_⟩
      (repeat' (first | apply Below.setCell | exact N)) <;> exact Nat.le_refl _

set_option maxHeartbeats 2000000 in
theorem ordersOk_val (a : Option Addr) (l : List Od.Oo) (cap : Nat) (w : World) (hl : l.length ≤ maxLen) (I : Od.Orders w a l) :
    Calls Tryz.prog 53 #[.slice a l.length cap] w fun e w' => e = .returned (.bool (idsOk l)) ∧ Below w.heap.size w w' := by
  unfold maxLen at hl
  go_enter Tryz.func53, Tryz.ntmps53
  go_wp2
  go_loopw [7] (fun i wr => ∃ k : Nat, k ≤ l.length ∧ i = .int .i64 k ∧ Below w.heap.size w wr ∧ Hid (∀ i, i < k → (l.getD i od0).h.id = (i : Int) + 1)) (fun i _ => l.length - (intOf i).toNat)
  case atStart => exact ⟨0, by omega, rfl, Below.refl _ _, fun i h => by omega⟩
  case round =>
    obtain ⟨k, hk, rfl, L, H⟩ := hrel
    by_cases hkn : k < l.length
    · obtain ⟨b, u, ai, ci, rfl, hlt, c0, c1, c2, c3, c4, c6, c7, c8, c5, J⟩ := (I.on L).at k hkn
      have hg := getD_at l k hkn
      have L2 := join_below L (new_below wr (Od.odB l[k].h ai l[k].l.length ci 85))
      by_cases he : l[k].h.id = (k : Int) + 1
      · have HS : Hid (∀ i, i < k + 1 → (l.getD i od0).h.id = (i : Int) + 1) := by
          intro i hi
          by_cases e : i = k
          · subst e; rw [hg]; exact he
          · exact H.out i (by omega)
        have hq : (l[k].h.id == (k : Int) + 1) = true := by simpa using he
        clear he H hg
        generalize l[k].l.length = m at *
        generalize l[k].h = p at *
        go_wp2
        go_roundw
        case rel => exact ⟨k + 1, by omega, by go_num, L2, HS⟩
        case measure => simp [intOf]; omega
      · have HS : Hid (idsOk l = false) := by show _ = _; unfold idsOk; rw [ids_no hkn (by rw [hg]; exact he)]; rfl
        have hq : (l[k].h.id == (k : Int) + 1) = false := by simpa using he
        clear he H hg
        generalize l[k].l.length = m at *
        generalize l[k].h = p at *
        go_wp2
        go_ret
        exact ⟨ret_b HS.out, L2⟩
    · obtain rfl : k = l.length := by omega
      have HS : Hid (idsOk l = decide ((l.length : Int) ≤ 100)) := by show _ = _; unfold idsOk; rw [ids_yes H.out]; rfl
      clear H
      go_wp2
      go_ret
      exact ⟨ret_b HS.out, L⟩

theorem klaw : Keyed Tryz.prog 3 := Maps.int_keyed Tryz.underlying3

abbrev kk (k : Int) : Lit := .int .i64 k

theorem kk_of {k : Int} (h : (kk k).wf = true) : keyOf Tryz.prog 3 (.int .i64 k) = some (kk k) := Maps.keyOf_int_mk Tryz.underlying3 h

theorem kk_lit {k : Int} (h : (kk k).wf = true) : WideAt.IsKeyLit (kk k) := klaw.key (kk_of h)

theorem kk_ne {a b : Int} (h : a ≠ b) : kk a ≠ kk b := by
  intro e
  cases e
  exact h rfl

/-- Block b is a map whose keys are the requests of the first k replies: as many of them as there are different ones. -/
def Cn (w : World) (b k : Nat) (l : List Rp.Rr) : Prop := ∃ es : List (Lit × DataW Value), w.ownsMap Tryz.prog 3 (plainElem (H := Value) Tryz.prog 3) b k (.map es) ∧ (∀ z, (kk z).wf = true → (Maps.has (.map es) (kk z) = true ↔ ∃ i, i < k ∧ rqAt l i = z)) ∧ (Dis l k → es.length = k) ∧ (¬ Dis l k → es.length < k)

theorem Cn.lt {w : World} {b k : Nat} {l : List Rp.Rr} (h : Cn w b k l) : b < w.heap.size := by obtain ⟨es, h, -⟩ := h; exact h.lt

theorem Cn.on {w w1 : World} {b k B : Nat} {l : List Rp.Rr} (h : Cn w b k l) (L : Below B w w1) (hb : b < B) : Cn w1 b k l := by
  obtain ⟨es, ⟨xs, clock, hh, r⟩, q⟩ := h
  exact ⟨es, ⟨xs, clock, (L.block b hb).trans hh, r⟩, q⟩

theorem cn_made (w : World) (l : List Rp.Rr) : Cn (w.alloc (.map #[] 0)) w.heap.size 0 l :=
  ⟨[], World.ownsMap_made w _ _ _, fun z hz => ⟨fun h => (by cases h), fun ⟨i, h, _⟩ => (by omega)⟩, fun _ => rfl, fun h => absurd (fun i j hi => by omega) h⟩

theorem zeroI (w : World) : (zeroValue 3).run Tryz.prog w = .ok (.int .i64 0) w := by kernel_rfl

theorem put_len_new (es : List (Lit × DataW Value)) (k : Lit) (d : DataW Value) (h : Maps.has (.map es) k = false) : (ChangeMaps.putKey k d es).length = es.length + 1 := by
  unfold ChangeMaps.putKey
  rw [length_insert]
  congr 1
  rw [List.filter_eq_self.2]
  intro p hp
  rw [Maps.has_eq, List.any_eq_false] at h
  unfold ChangeMaps.notKey
  simpa using h p hp

theorem put_len_old (es : List (Lit × DataW Value)) (k : Lit) (d : DataW Value) (h : Maps.has (.map es) k = true) : (ChangeMaps.putKey k d es).length ≤ es.length := by
  unfold ChangeMaps.putKey
  rw [length_insert]
  rw [Maps.has_eq, List.any_eq_true] at h
  obtain ⟨p, hp, hk⟩ := h
  have : (es.filter (ChangeMaps.notKey k)).length < es.length := by
    apply Nat.lt_of_not_le
    intro hle
    have := List.length_filter_eq_length_iff.1 (Nat.le_antisymm (List.length_filter_le _ _) hle) p hp
    unfold ChangeMaps.notKey at this
    rw [hk] at this
    cases this
  omega

/-- A reply more. -/
theorem Cn.put {w w' : World} {b k : Nat} {l : List Rp.Rr} (hk : k < l.length) (hw : (kk (rqAt l k)).wf = true) {es : List (Lit × DataW Value)} (h1 : w.ownsMap Tryz.prog 3 (plainElem (H := Value) Tryz.prog 3) b k (.map es)) (h2 : ∀ z, (kk z).wf = true → (Maps.has (.map es) (kk z) = true ↔ ∃ i, i < k ∧ rqAt l i = z)) (h3 : Dis l k → es.length = k) (h4 : ¬ Dis l k → es.length < k) {d : DataW Value} (r : w'.ownsMap Tryz.prog 3 (plainElem (H := Value) Tryz.prog 3) b (k + 1) ((DataW.map es).put (kk (rqAt l k)) d)) : Cn w' b (k + 1) l := by
  refine ⟨ChangeMaps.putKey (kk (rqAt l k)) d es, r, fun z hz => ?_, fun hd => ?_, fun hd => ?_⟩
  · by_cases e : z = rqAt l k
    · subst e
      have := Maps.has_put_same h1.isMap (kk_lit hz) d
      rw [DataW.put_eq] at this
      rw [this]
      exact ⟨fun _ => ⟨k, by omega, rfl⟩, fun _ => rfl⟩
    · have := Maps.has_put_other (D := DataW.map es) (d := d) (kk_ne e)
      rw [DataW.put_eq] at this
      rw [this, h2 z hz]
      constructor
      · rintro ⟨i, hi, hr⟩
        exact ⟨i, by omega, hr⟩
      · rintro ⟨i, hi, hr⟩
        refine ⟨i, ?_, hr⟩
        apply Nat.lt_of_not_le
        intro hle
        obtain rfl : i = k := by omega
        exact e hr.symm
  · have hdk : Dis l k := fun i j hi hj => hd i j (by omega) hj
    rw [put_len_new, h3 hdk]
    cases hh : Maps.has (DataW.map es) (kk (rqAt l k))
    · rfl
    · exfalso
      obtain ⟨i, hi, hr⟩ := (h2 _ hw).1 hh
      exact hd k i (by omega) hi hr.symm
  · cases hh : Maps.has (DataW.map es) (kk (rqAt l k))
    · rw [put_len_new _ _ _ hh]
      have hdk : ¬ Dis l k := by
        intro hdk
        apply hd
        intro i j hi hj
        by_cases e : i = k
        · subst e
          intro hr
          have := (h2 _ hw).2 ⟨j, hj, hr.symm⟩
          rw [hh] at this
          cases this
        · exact hdk i j (by omega) hj
      have := h4 hdk
      omega
    · have := put_len_old es _ d hh
      have h5 : es.length ≤ k := by
        by_cases hdk : Dis l k
        · exact Nat.le_of_eq (h3 hdk)
        · exact Nat.le_of_lt (h4 hdk)
      omega

theorem mk_map (w : World) : (Instr.makeMap 131 none).run Tryz.prog w = .ok (.map (some w.heap.size)) (w.alloc (.map #[] 0)) := by simp [Instr.makeMap, go_sem]

theorem wp_len {w : World} {o : Oper} {a : Act} {K : Act → World → Prop} {Q : Exit → Act → World → Prop} (m : Operand) (ho : o.op = Op.call { callee := Callee.builtin Builtin.len, args := #[m], argTypes := #[131] }) (b n : Nat) (es : List (Lit × DataW Value)) (hm : a.eval m = .map (some b)) (I : w.ownsMap Tryz.prog 3 (plainElem (H := Value) Tryz.prog 3) b n (.map es))
    (h : K (a.put o.dst (.int .i64 (es.length : Int))) w) : o.wp Tryz.prog a w K Q := by
  have hr := I.len Tryz.underlying131 o.type
  unfold Oper.wp
  simp [execOp, ho, resolve, invoke, builtin, hm, hr, Result.andThen]
  exact h

theorem Cn.step {w : World} {b k : Nat} {l : List Rp.Rr} (h : Cn w b k l) (hk : k < l.length) (hl : l.length ≤ 1048576) (hw : (kk (rqAt l k)).wf = true) :
    ∃ c w', (Instr.lookup 131 (.map (some b)) (.int .i64 (rqAt l k)) false).run Tryz.prog w = .ok (.int .i64 c) w ∧ (Instr.mapUpdate 131 (.map (some b)) (.int .i64 (rqAt l k)) (.int .i64 (wrap64 (c + 1)))).run Tryz.prog w = .ok () w' ∧ Cn w' b (k + 1) l ∧ w.grownBy w' (some b) := by
  obtain ⟨es, h1, h2, h3, h4⟩ := h
  obtain ⟨c, hrun, -, -⟩ := h1.lookup_int klaw Tryz.underlying131 Tryz.underlying3 (zeroI w) (kk_of hw)
  obtain ⟨w', hst, r1, r2⟩ := h1.update klaw Tryz.underlying131 (by unfold maxLen; omega) (kk_of hw) (val := .int .i64 (wrap64 (c + 1))) (plainElem_int Tryz.underlying3 (RowKit.wrap64_wf _))
  exact ⟨c, w', hrun, hst, Cn.put hk hw h1 h2 h3 h4 r1, r2⟩

set_option maxHeartbeats 2000000 in
theorem toldOk_val (a : Option Addr) (l : List Rp.Rr) (cap : Nat) (w : World) (hl : l.length ≤ 1048576) (I : Rp.Replys w a l) (hwf : Rp.Wfs l) :
    Calls Tryz.prog 54 #[.slice a l.length cap] w fun e w' => e = .returned (.bool (toldOk l)) ∧ Below w.heap.size w w' := by
  have hmk := mk_map
  have M0 := cn_made w l
  have N := new_below w (.map #[] 0)
  go_enter Tryz.func54, Tryz.ntmps54
  go_wp2
  generalize w.alloc (.map #[] 0) = W at *
  go_loopw [9] (fun i wr => ∃ k : Nat, k ≤ l.length ∧ i = .int .i64 k ∧ Below w.heap.size w wr ∧ Hid (Cn wr w.heap.size k l)) (fun i _ => l.length - (intOf i).toNat)
  case atStart => exact ⟨0, by omega, rfl, N, M0⟩
  case round =>
    obtain ⟨k, hk, rfl, L, H⟩ := hrel
    by_cases hkn : k < l.length
    · obtain ⟨b, u, rfl, hlt, c0, c1, c2, c3⟩ := (I.on L).at k hkn
      have NB := new_below wr (.cells #[.int .i64 l[k].rq, .int .i64 l[k].sa, .int .i64 l[k].od, .int .i64 l[k].am] 87)
      have x := heap_new wr (.cells #[.int .i64 l[k].rq, .int .i64 l[k].sa, .int .i64 l[k].od, .int .i64 l[k].am] 87)
      have L1 := join_below L NB
      have hw : (kk (rqAt l k)).wf = true := by rw [rq_at l k hkn]; exact (hwf _ (List.getElem_mem hkn)).rq
      obtain ⟨c, w2, hrun, hst, C2, hg⟩ := (H.out.on NB H.out.lt).step hkn hl hw
      have L2 : Below w.heap.size w w2 := L1.grown hg (L1.size) (fun q hq => by cases hq; exact Nat.le_refl _)
      have HC : Hid (Cn w2 w.heap.size (k + 1) l) := C2
      rw [rq_at l k hkn] at hrun hst
      have d0 : (wr.alloc (.cells #[.int .i64 l[k].rq, .int .i64 l[k].sa, .int .i64 l[k].od, .int .i64 l[k].am] 87)).cell? ⟨wr.heap.size, 0, none⟩ = some (.int .i64 l[k].rq) := cell_at x 0
      clear hw C2 hg H NB L1 x
      generalize l[k] = p at *
      go_wp2
      go_roundw
      case rel => exact ⟨k + 1, by omega, by go_num, L2, HC⟩
      case measure => simp [intOf]; omega
    · obtain rfl : k = l.length := by omega
      obtain ⟨es, h1, h2, h3, h4⟩ := H.out
      have HO : Hid (wr.ownsMap Tryz.prog 3 (plainElem (H := Value) Tryz.prog 3) w.heap.size l.length (.map es)) := h1
      have hR : toldOk l = (decide ((es.length : Int) = (l.length : Int)) && decide ((l.length : Int) ≤ 300)) := by
        unfold toldOk
        congr 1
        by_cases hd : Dis l l.length
        · rw [dis_yes hd, h3 hd]; simp
        · rw [dis_no hd]
          have := h4 hd
          exact (decide_eq_false (by omega)).symm
      have HR : Hid (toldOk l = (decide ((es.length : Int) = (l.length : Int)) && decide ((l.length : Int) ≤ 300))) := hR
      clear hR h1 h2 h3 h4 H
      cases hq : decide ((es.length : Int) = (l.length : Int))
      · have e0 : ((es.length : Int) == (l.length : Int)) = false := by have := of_decide_eq_false hq; simpa using this
        have HQ : Hid (decide ((es.length : Int) = (l.length : Int)) = false) := hq
        clear hq
        go_wp2_with (first | (at_len; refine wpList_plain rfl fun K hK => ?_; refine wp_len _ rfl w.heap.size l.length es rfl HO.out ?_; refine hK _ _ ?_; clear hK K) | go_in)
        go_ret
        exact ⟨ret_b (by rw [HR.out, HQ.out]; rfl), L⟩
      · have e0 : ((es.length : Int) == (l.length : Int)) = true := by have := of_decide_eq_true hq; simpa using this
        have HQ : Hid (decide ((es.length : Int) = (l.length : Int)) = true) := hq
        clear hq
        go_wp2_with (first | (at_len; refine wpList_plain rfl fun K hK => ?_; refine wp_len _ rfl w.heap.size l.length es rfl HO.out ?_; refine hK _ _ ?_; clear hK K) | go_in)
        go_ret
        exact ⟨ret_b (by rw [HR.out, HQ.out]; rfl), L⟩

end Of
end Go.Proofs.YtehmlnojjfeheaaGreat

/- Whether two holds meet, of the model. -/
namespace Go.Proofs.YtehmlnojjfeheaaGreat
namespace Se
open Go.ChangeShapes Go.WideShapes Go.ChangeAt Go.RowKit
open Pk (new_below join_below cell_at heap_new frozen_at lt_of kept heap_old Drawn info_of own_form own_below Room)
set_option linter.unusedSimpArgs false
set_option linter.unusedVariables false

set_option maxRecDepth 100000 in
set_option maxHeartbeats 4000000 in
theorem specMeet_val (p q : Hl) (w : World) :
    Calls Tryz.prog 76 #[lgV p, lgV q] w fun e w' => e = .returned (.bool (meetB p q)) ∧ Below w.heap.size w w' := by
  have HN : Hid (Below w.heap.size w ((w.alloc (.cells #[.int .i64 p.tr, .int .i64 p.dy, .int .i64 p.co, .int .i64 p.se, .int .i64 p.ba, .int .i64 p.be, .int .i64 p.od] 81)).alloc (.cells #[.int .i64 q.tr, .int .i64 q.dy, .int .i64 q.co, .int .i64 q.se, .int .i64 q.ba, .int .i64 q.be, .int .i64 q.od] 81))) := join_below (new_below _ _) (new_below _ _)
  by_cases h0 : p.tr = q.tr
  · have d0 : (p.tr == q.tr) = true := by simp [h0]
    by_cases h1 : p.dy = q.dy
    · have d1 : (p.dy == q.dy) = true := by simp [h1]
      by_cases h2 : p.co = q.co
      · have d2 : (p.co == q.co) = true := by simp [h2]
        by_cases h3 : p.se = q.se
        · have d3 : (p.se == q.se) = true := by simp [h3]
          by_cases h4 : p.ba < q.be
          · have d4 : decide (p.ba < q.be) = true := decide_eq_true h4
            by_cases h5 : q.ba < p.be
            · have d5 : decide (q.ba < p.be) = true := decide_eq_true h5
              have HV : Hid (meetB p q = true) := by
                show meetB p q = true
                unfold meetB
                simp [key_eq, h0, h1, h2, h3, h4, h5]
              clear h0 h1 h2 h3 h4 h5
              go_enter Tryz.func76, Tryz.ntmps76
              go_wp2
              go_ret
              exact ⟨by rw [HV.out] <;> rfl, HN.out⟩
            · have d5 : decide (q.ba < p.be) = false := decide_eq_false h5
              have HV : Hid (meetB p q = false) := by
                show meetB p q = false
                unfold meetB
                simp [key_eq, h0, h1, h2, h3, h4, h5]
              clear h0 h1 h2 h3 h4 h5
              go_enter Tryz.func76, Tryz.ntmps76
              go_wp2
              go_ret
              exact ⟨by rw [HV.out] <;> rfl, HN.out⟩
          · have d4 : decide (p.ba < q.be) = false := decide_eq_false h4
            have HV : Hid (meetB p q = false) := by
              show meetB p q = false
              unfold meetB
              simp [key_eq, h0, h1, h2, h3, h4]
            clear h0 h1 h2 h3 h4
            go_enter Tryz.func76, Tryz.ntmps76
            go_wp2
            go_ret
            exact ⟨by rw [HV.out] <;> rfl, HN.out⟩
        · have d3 : (p.se == q.se) = false := by simp [h3]
          have HV : Hid (meetB p q = false) := by
            show meetB p q = false
            unfold meetB
            simp [key_eq, h0, h1, h2, h3]
          clear h0 h1 h2 h3
          go_enter Tryz.func76, Tryz.ntmps76
          go_wp2
          go_ret
          exact ⟨by rw [HV.out] <;> rfl, HN.out⟩
      · have d2 : (p.co == q.co) = false := by simp [h2]
        have HV : Hid (meetB p q = false) := by
          show meetB p q = false
          unfold meetB
          simp [key_eq, h0, h1, h2]
        clear h0 h1 h2
        go_enter Tryz.func76, Tryz.ntmps76
        go_wp2
        go_ret
        exact ⟨by rw [HV.out] <;> rfl, HN.out⟩
    · have d1 : (p.dy == q.dy) = false := by simp [h1]
      have HV : Hid (meetB p q = false) := by
        show meetB p q = false
        unfold meetB
        simp [key_eq, h0, h1]
      clear h0 h1
      go_enter Tryz.func76, Tryz.ntmps76
      go_wp2
      go_ret
      exact ⟨by rw [HV.out] <;> rfl, HN.out⟩
  · have d0 : (p.tr == q.tr) = false := by simp [h0]
    have HV : Hid (meetB p q = false) := by
      show meetB p q = false
      unfold meetB
      simp [key_eq, h0]
    clear h0
    go_enter Tryz.func76, Tryz.ntmps76
    go_wp2
    go_ret
    exact ⟨by rw [HV.out] <;> rfl, HN.out⟩

end Se
end Go.Proofs.YtehmlnojjfeheaaGreat

/- Which lists of holds are right, and the model's HoldsOk. -/
namespace Go.Proofs.YtehmlnojjfeheaaGreat
namespace Se
open Go.ChangeShapes Go.WideShapes Go.ChangeAt Go.RowKit
open Pk (new_below join_below cell_at heap_new frozen_at lt_of kept heap_old Drawn info_of own_form own_below Room)
set_option linter.unusedSimpArgs false
set_option linter.unusedVariables false

/-- No hold of a list meets one. -/
def freeB (l : List Hl) (h : Hl) : Bool := l.all fun q => !meetB h q

/-- All that follow are right behind those that are there. -/
def okR : List Hl → List Hl → Bool
  | _, [] => true
  | s, h :: r => holdB h && (freeB s h && okR (s ++ [h]) r)

/-- Whether a list of holds is right. -/
def holdsB (l : List Hl) : Bool := decide (l.length ≤ 400) && okR [] l

theorem okR_step (l : List Hl) (k : Nat) (h : k < l.length) : okR (l.take k) (l.drop k) = (holdB l[k] && (freeB (l.take k) l[k] && okR (l.take (k + 1)) (l.drop (k + 1)))) := by
  rw [List.drop_eq_getElem_cons h, okR, List.take_succ_eq_append_getElem h]

theorem okR_end (l : List Hl) (k : Nat) (h : l.length ≤ k) : okR (l.take k) (l.drop k) = true := by
  rw [List.drop_eq_nil_of_le h, okR]

theorem free_yes {l : List Hl} {h : Hl} {i : Nat} (H : ∀ j (hj : j < l.length), j < i → meetB h l[j] = false) : freeB (l.take i) h = true := by
  unfold freeB
  rw [List.all_eq_true]
  intro q hq
  obtain ⟨j, hj, rfl⟩ := List.getElem_of_mem hq
  rw [List.getElem_take]
  rw [List.length_take] at hj
  rw [H j (by omega) (by omega)]
  rfl

theorem free_no {l : List Hl} {h : Hl} {i j : Nat} (hj : j < l.length) (hi : j < i) (H : meetB h l[j] = true) : freeB (l.take i) h = false := by
  unfold freeB
  rw [List.all_eq_false]
  refine ⟨l[j], ?_, by rw [H]; simp⟩
  rw [List.mem_take_iff_getElem]
  exact ⟨j, by omega, rfl⟩

/-- The k-th hold of a row at o in block b. -/
def At (w : World) (b o k : Nat) (p : Hl) : Prop := w.cell? ⟨b, o + k * 7, none⟩ = some (.int .i64 p.tr) ∧ w.cell? ⟨b, o + k * 7 + 1, none⟩ = some (.int .i64 p.dy) ∧ w.cell? ⟨b, o + k * 7 + 2, none⟩ = some (.int .i64 p.co) ∧ w.cell? ⟨b, o + k * 7 + 3, none⟩ = some (.int .i64 p.se) ∧ w.cell? ⟨b, o + k * 7 + 4, none⟩ = some (.int .i64 p.ba) ∧ w.cell? ⟨b, o + k * 7 + 5, none⟩ = some (.int .i64 p.be) ∧ w.cell? ⟨b, o + k * 7 + 6, none⟩ = some (.int .i64 p.od)

theorem At.on {w w1 : World} {b o k B : Nat} {p : Hl} (h : At w b o k p) (L : Below B w w1) (hb : b < B) : At w1 b o k p := by
  unfold At
  rw [L.cell (p := ⟨b, o + k * 7, none⟩) hb, L.cell (p := ⟨b, o + k * 7 + 1, none⟩) hb, L.cell (p := ⟨b, o + k * 7 + 2, none⟩) hb, L.cell (p := ⟨b, o + k * 7 + 3, none⟩) hb, L.cell (p := ⟨b, o + k * 7 + 4, none⟩) hb, L.cell (p := ⟨b, o + k * 7 + 5, none⟩) hb, L.cell (p := ⟨b, o + k * 7 + 6, none⟩) hb]
  exact h

theorem Holds.get {w : World} {a : Option Addr} {ps : List Hl} (h : Holds w a ps) (k : Nat) (hk : k < ps.length) : ∃ b o, a = some ⟨b, o, none⟩ ∧ b < w.heap.size ∧ At w b o k ps[k] := h.at k hk

theorem Holds.put {w : World} {b o : Nat} {ps : List Hl} (h : Holds w (some ⟨b, o, none⟩) ps) (k : Nat) (hk : k < ps.length) : At w b o k ps[k] := by
  obtain ⟨b', o', e, -, c⟩ := h.at k hk
  simp only [Option.some.injEq, Addr.mk.injEq, and_true] at e
  obtain ⟨rfl, rfl⟩ := e
  exact c

set_option maxRecDepth 100000 in
set_option maxHeartbeats 4000000 in
theorem specHolds_val (a : Option Addr) (l : List Hl) (cap : Nat) (w : World) (hl : l.length ≤ maxLen) (I : Holds w a l) :
    Calls Tryz.prog 42 #[.slice a l.length cap] w fun e w' => e = .returned (.bool (holdsB l)) ∧ Below w.heap.size w w' := by
  unfold maxLen at hl
  by_cases h4 : l.length ≤ 400
  · have HB : Hid (holdsB l = okR (l.take 0) (l.drop 0)) := by simp [holdsB, h4, Hid]
    have d4 : decide (400 < (l.length : Int)) = false := decide_eq_false (by omega)
    clear hl
    go_enter Tryz.func42, Tryz.ntmps42
    go_wp2
    go_loopw [3] (fun x wr => ∃ i : Nat, i ≤ l.length ∧ x = .int .i64 i ∧ Below w.heap.size w wr ∧ Hid (holdsB l = okR (l.take i) (l.drop i))) (fun x _ => l.length - (intOf x).toNat)
    case atStart => exact ⟨0, by omega, rfl, Below.refl _ _, HB⟩
    case round =>
      obtain ⟨i, hi, rfl, L, HO⟩ := hrel
      by_cases hin : i < l.length
      · obtain ⟨b, o, rfl, hlt, c0, c1, c2, c3, c4, c5, c6⟩ := (I.on L).at i hin
        have HT : Hid (_) := HO.out.trans (okR_step l i hin)
        have HC : Hid (∀ w, _) := fun w => specHold_val l[i] w
        clear HO HB
        by_cases hh : holdB l[i] = true
        · rw [hh] at HC
          have HT2 : Hid (holdsB l = (freeB (l.take i) l[i] && okR (l.take (i + 1)) (l.drop (i + 1)))) := by
            have := HT.out
            rw [hh, Bool.true_and] at this
            exact this
          have HPA : Hid (∀ w', Below wr.heap.size wr w' → At w' b o i l[i]) := fun w' L' => Holds.put ((I.on L).on L') i hin
          clear HT hh
          obtain ⟨p, hp⟩ : ∃ p, l[i] = p := ⟨_, rfl⟩
          have HPE : Hid (_) := hp
          rw [hp] at c0 c1 c2 c3 c4 c5 c6 HC HT2 HPA
          clear hp
          go_wp2_with fail
          refine (HC.out _).mono ?_
          rintro e w1 ⟨rfl, L1⟩
          have K1 := join_below L L1
          have HJ : Hid (∀ w', Below w1.heap.size w1 w' → At w' b o i p) := fun w' L' => HPA.out w' (join_below L1 L')
          have hlt1 := Nat.lt_of_lt_of_le hlt L1.size
          clear L L1 c0 c1 c2 c3 c4 c5 c6 HC HPA hlt wr
          obtain ⟨W0, hW0⟩ : ∃ W0, W0 = w1 := ⟨_, rfl⟩
          subst hW0
          go_wp2
          go_loopw [4] (fun x wr => ∃ j : Nat, j ≤ i ∧ x = .int .i64 j ∧ Below W0.heap.size W0 wr ∧ Hid (∀ j' (hj : j' < l.length), j' < j → meetB p l[j'] = false)) (fun x _ => i - (intOf x).toNat)
          case atStart => exact ⟨0, by omega, rfl, Below.refl _ _, fun j' _ h => by omega⟩
          case round =>
            obtain ⟨j, hj, rfl, LZ, HF⟩ := hrel
            by_cases hjn : j < i
            · have hjl : j < l.length := by omega
              have hlt : b < wr.heap.size := Nat.lt_of_lt_of_le hlt1 LZ.size
              have HP : Hid (At wr b o i p) := HJ.out wr LZ
              have HQ : Hid (At wr b o j l[j]) := Holds.put (I.on (join_below K1 LZ)) j hjl
              have HM : Hid (∀ w, _) := fun w => specMeet_val p l[j] w
              by_cases hm : meetB p l[j] = true
              · rw [hm] at HM
                have HV : Hid (holdsB l = false) := by
                  show holdsB l = false
                  rw [HT2.out, free_no hjl hjn hm]
                  rfl
                generalize l[j] = q at *
                clear HF hm HT2 HPE
                go_wp2
                refine wp_region_held_drew (S := (fun w' => At w' b o i p ∧ At w' b o j q)) (by kernel_rfl) ?_ (fun hHeld => ?_)
                · exact ⟨HP.out, HQ.out⟩
                refine wpAnyH_take (i := 0) (v := .slice (some ⟨b, o, none⟩) l.length cap) rfl (by kernel_rfl) (by kernel_rfl) (by kernel_rfl) (fun _ _ _ h => h) (Or.inl ⟨by kernel_rfl, fun w hSw => by first | (go_simp; done) | (dsimp only at hSw; obtain ⟨⟨x0, x1, x2, x3, x4, x5, x6⟩, ⟨y0, y1, y2, y3, y4, y5, y6⟩⟩ := hSw; go_simp; done) | rfl⟩) (by assumption) ?_
                simp only [Act.put, List.getElem_toArray, List.getElem_cons_succ, List.getElem_cons_zero, List.setIfInBounds_toArray, List.set_cons_succ, List.set_cons_zero]
                refine wpAnyH_take (i := 1) (v := .int .i64 i) rfl (by kernel_rfl) (by kernel_rfl) (by kernel_rfl) (fun _ _ _ h => h) (Or.inl ⟨by kernel_rfl, fun w hSw => by first | (go_simp; done) | (dsimp only at hSw; obtain ⟨⟨x0, x1, x2, x3, x4, x5, x6⟩, ⟨y0, y1, y2, y3, y4, y5, y6⟩⟩ := hSw; go_simp; done) | rfl⟩) (by assumption) ?_
                simp only [Act.put, List.getElem_toArray, List.getElem_cons_succ, List.getElem_cons_zero, List.setIfInBounds_toArray, List.set_cons_succ, List.set_cons_zero]
                refine wpAnyH_take (i := 2) (v := .pointer (some ⟨b, o + i * 7, none⟩)) rfl (by kernel_rfl) (by kernel_rfl) (by kernel_rfl) (fun _ _ _ h => h) (Or.inl ⟨by kernel_rfl, fun w hSw => by first | (go_simp; done) | (dsimp only at hSw; obtain ⟨⟨x0, x1, x2, x3, x4, x5, x6⟩, ⟨y0, y1, y2, y3, y4, y5, y6⟩⟩ := hSw; go_simp; done) | rfl⟩) (by assumption) ?_
                simp only [Act.put, List.getElem_toArray, List.getElem_cons_succ, List.getElem_cons_zero, List.setIfInBounds_toArray, List.set_cons_succ, List.set_cons_zero]
                refine wpAnyH_take (i := 3) (v := .agg #[.int .i64 p.tr, .int .i64 p.dy, .int .i64 p.co, .int .i64 p.se, .int .i64 p.ba, .int .i64 p.be, .int .i64 p.od]) rfl (by kernel_rfl) (by kernel_rfl) (by kernel_rfl) (fun _ _ _ h => h) (Or.inl ⟨by kernel_rfl, fun w hSw => by first | (go_simp; done) | (dsimp only at hSw; obtain ⟨⟨x0, x1, x2, x3, x4, x5, x6⟩, ⟨y0, y1, y2, y3, y4, y5, y6⟩⟩ := hSw; go_simp; done) | rfl⟩) (by assumption) ?_
                simp only [Act.put, List.getElem_toArray, List.getElem_cons_succ, List.getElem_cons_zero, List.setIfInBounds_toArray, List.set_cons_succ, List.set_cons_zero]
                refine wpAnyH_take (i := 4) (v := .slice (some ⟨b, o, none⟩) l.length cap) rfl (by kernel_rfl) (by kernel_rfl) (by kernel_rfl) (fun _ _ _ h => h) (Or.inl ⟨by kernel_rfl, fun w hSw => by first | (go_simp; done) | (dsimp only at hSw; obtain ⟨⟨x0, x1, x2, x3, x4, x5, x6⟩, ⟨y0, y1, y2, y3, y4, y5, y6⟩⟩ := hSw; go_simp; done) | rfl⟩) (by assumption) ?_
                simp only [Act.put, List.getElem_toArray, List.getElem_cons_succ, List.getElem_cons_zero, List.setIfInBounds_toArray, List.set_cons_succ, List.set_cons_zero]
                refine wpAnyH_take (i := 5) (v := .int .i64 j) rfl (by kernel_rfl) (by kernel_rfl) (by kernel_rfl) (fun _ _ _ h => h) (Or.inl ⟨by kernel_rfl, fun w hSw => by first | (go_simp; done) | (dsimp only at hSw; obtain ⟨⟨x0, x1, x2, x3, x4, x5, x6⟩, ⟨y0, y1, y2, y3, y4, y5, y6⟩⟩ := hSw; go_simp; done) | rfl⟩) (by assumption) ?_
                simp only [Act.put, List.getElem_toArray, List.getElem_cons_succ, List.getElem_cons_zero, List.setIfInBounds_toArray, List.set_cons_succ, List.set_cons_zero]
                refine wpAnyH_take (i := 6) (v := .pointer (some ⟨b, o + j * 7, none⟩)) rfl (by kernel_rfl) (by kernel_rfl) (by kernel_rfl) (fun _ _ _ h => h) (Or.inl ⟨by kernel_rfl, fun w hSw => by first | (go_simp; done) | (dsimp only at hSw; obtain ⟨⟨x0, x1, x2, x3, x4, x5, x6⟩, ⟨y0, y1, y2, y3, y4, y5, y6⟩⟩ := hSw; go_simp; done) | rfl⟩) (by assumption) ?_
                simp only [Act.put, List.getElem_toArray, List.getElem_cons_succ, List.getElem_cons_zero, List.setIfInBounds_toArray, List.set_cons_succ, List.set_cons_zero]
                refine wpAnyH_take (i := 7) (v := .agg #[.int .i64 q.tr, .int .i64 q.dy, .int .i64 q.co, .int .i64 q.se, .int .i64 q.ba, .int .i64 q.be, .int .i64 q.od]) rfl (by kernel_rfl) (by kernel_rfl) (by kernel_rfl) (fun _ _ _ h => h) (Or.inl ⟨by kernel_rfl, fun w hSw => by first | (go_simp; done) | (dsimp only at hSw; obtain ⟨⟨x0, x1, x2, x3, x4, x5, x6⟩, ⟨y0, y1, y2, y3, y4, y5, y6⟩⟩ := hSw; go_simp; done) | rfl⟩) (by assumption) ?_
                simp only [Act.put, List.getElem_toArray, List.getElem_cons_succ, List.getElem_cons_zero, List.setIfInBounds_toArray, List.set_cons_succ, List.set_cons_zero]
                refine wpAnyH_ready (rs := [8]) (by kernel_rfl) (by simp) ?_
                refine AllReadyH.cons rfl (fun K hK => ?_) AllReadyH.nil
                go_simp
                go_wp2_with (go_at_call 76; (with_reducible refine (HM.out _).mono ?_); rintro e w3 ⟨rfl, L3⟩; have K3 : Below wr.heap.size wr w3 := (by first | exact L3 | exact ((Below.refl _ _).drew).trans L3))
                refine hK.out _ _ ?_ (fun hHeld2 => ?_)
                · exact ⟨HP.out.on K3 hlt, HQ.out.on K3 hlt⟩
                clear hK K hHeld
                have hHeld := hHeld2
                clear hHeld2
                refine wpAnyH_done (by kernel_rfl) ?_ _
                go_wp2
                go_ret
                exact ⟨by rw [HV.out] <;> rfl, join_below K1 (join_below LZ K3)⟩
              · have hm : meetB p l[j] = false := Bool.eq_false_iff.2 hm
                rw [hm] at HM
                have HF2 : Hid (∀ j' (hj : j' < l.length), j' < j + 1 → meetB p l[j'] = false) := by
                  intro j' hj' hlt'
                  by_cases e : j' = j
                  · subst e; exact hm
                  · exact HF.out j' hj' (by omega)
                generalize l[j] = q at *
                clear HF hm HPE
                go_wp2
                refine wp_region_held_drew (S := (fun w' => At w' b o i p ∧ At w' b o j q)) (by kernel_rfl) ?_ (fun hHeld => ?_)
                · exact ⟨HP.out, HQ.out⟩
                refine wpAnyH_take (i := 0) (v := .slice (some ⟨b, o, none⟩) l.length cap) rfl (by kernel_rfl) (by kernel_rfl) (by kernel_rfl) (fun _ _ _ h => h) (Or.inl ⟨by kernel_rfl, fun w hSw => by first | (go_simp; done) | (dsimp only at hSw; obtain ⟨⟨x0, x1, x2, x3, x4, x5, x6⟩, ⟨y0, y1, y2, y3, y4, y5, y6⟩⟩ := hSw; go_simp; done) | rfl⟩) (by assumption) ?_
                simp only [Act.put, List.getElem_toArray, List.getElem_cons_succ, List.getElem_cons_zero, List.setIfInBounds_toArray, List.set_cons_succ, List.set_cons_zero]
                refine wpAnyH_take (i := 1) (v := .int .i64 i) rfl (by kernel_rfl) (by kernel_rfl) (by kernel_rfl) (fun _ _ _ h => h) (Or.inl ⟨by kernel_rfl, fun w hSw => by first | (go_simp; done) | (dsimp only at hSw; obtain ⟨⟨x0, x1, x2, x3, x4, x5, x6⟩, ⟨y0, y1, y2, y3, y4, y5, y6⟩⟩ := hSw; go_simp; done) | rfl⟩) (by assumption) ?_
                simp only [Act.put, List.getElem_toArray, List.getElem_cons_succ, List.getElem_cons_zero, List.setIfInBounds_toArray, List.set_cons_succ, List.set_cons_zero]
                refine wpAnyH_take (i := 2) (v := .pointer (some ⟨b, o + i * 7, none⟩)) rfl (by kernel_rfl) (by kernel_rfl) (by kernel_rfl) (fun _ _ _ h => h) (Or.inl ⟨by kernel_rfl, fun w hSw => by first | (go_simp; done) | (dsimp only at hSw; obtain ⟨⟨x0, x1, x2, x3, x4, x5, x6⟩, ⟨y0, y1, y2, y3, y4, y5, y6⟩⟩ := hSw; go_simp; done) | rfl⟩) (by assumption) ?_
                simp only [Act.put, List.getElem_toArray, List.getElem_cons_succ, List.getElem_cons_zero, List.setIfInBounds_toArray, List.set_cons_succ, List.set_cons_zero]
                refine wpAnyH_take (i := 3) (v := .agg #[.int .i64 p.tr, .int .i64 p.dy, .int .i64 p.co, .int .i64 p.se, .int .i64 p.ba, .int .i64 p.be, .int .i64 p.od]) rfl (by kernel_rfl) (by kernel_rfl) (by kernel_rfl) (fun _ _ _ h => h) (Or.inl ⟨by kernel_rfl, fun w hSw => by first | (go_simp; done) | (dsimp only at hSw; obtain ⟨⟨x0, x1, x2, x3, x4, x5, x6⟩, ⟨y0, y1, y2, y3, y4, y5, y6⟩⟩ := hSw; go_simp; done) | rfl⟩) (by assumption) ?_
                simp only [Act.put, List.getElem_toArray, List.getElem_cons_succ, List.getElem_cons_zero, List.setIfInBounds_toArray, List.set_cons_succ, List.set_cons_zero]
                refine wpAnyH_take (i := 4) (v := .slice (some ⟨b, o, none⟩) l.length cap) rfl (by kernel_rfl) (by kernel_rfl) (by kernel_rfl) (fun _ _ _ h => h) (Or.inl ⟨by kernel_rfl, fun w hSw => by first | (go_simp; done) | (dsimp only at hSw; obtain ⟨⟨x0, x1, x2, x3, x4, x5, x6⟩, ⟨y0, y1, y2, y3, y4, y5, y6⟩⟩ := hSw; go_simp; done) | rfl⟩) (by assumption) ?_
                simp only [Act.put, List.getElem_toArray, List.getElem_cons_succ, List.getElem_cons_zero, List.setIfInBounds_toArray, List.set_cons_succ, List.set_cons_zero]
                refine wpAnyH_take (i := 5) (v := .int .i64 j) rfl (by kernel_rfl) (by kernel_rfl) (by kernel_rfl) (fun _ _ _ h => h) (Or.inl ⟨by kernel_rfl, fun w hSw => by first | (go_simp; done) | (dsimp only at hSw; obtain ⟨⟨x0, x1, x2, x3, x4, x5, x6⟩, ⟨y0, y1, y2, y3, y4, y5, y6⟩⟩ := hSw; go_simp; done) | rfl⟩) (by assumption) ?_
                simp only [Act.put, List.getElem_toArray, List.getElem_cons_succ, List.getElem_cons_zero, List.setIfInBounds_toArray, List.set_cons_succ, List.set_cons_zero]
                refine wpAnyH_take (i := 6) (v := .pointer (some ⟨b, o + j * 7, none⟩)) rfl (by kernel_rfl) (by kernel_rfl) (by kernel_rfl) (fun _ _ _ h => h) (Or.inl ⟨by kernel_rfl, fun w hSw => by first | (go_simp; done) | (dsimp only at hSw; obtain ⟨⟨x0, x1, x2, x3, x4, x5, x6⟩, ⟨y0, y1, y2, y3, y4, y5, y6⟩⟩ := hSw; go_simp; done) | rfl⟩) (by assumption) ?_
                simp only [Act.put, List.getElem_toArray, List.getElem_cons_succ, List.getElem_cons_zero, List.setIfInBounds_toArray, List.set_cons_succ, List.set_cons_zero]
                refine wpAnyH_take (i := 7) (v := .agg #[.int .i64 q.tr, .int .i64 q.dy, .int .i64 q.co, .int .i64 q.se, .int .i64 q.ba, .int .i64 q.be, .int .i64 q.od]) rfl (by kernel_rfl) (by kernel_rfl) (by kernel_rfl) (fun _ _ _ h => h) (Or.inl ⟨by kernel_rfl, fun w hSw => by first | (go_simp; done) | (dsimp only at hSw; obtain ⟨⟨x0, x1, x2, x3, x4, x5, x6⟩, ⟨y0, y1, y2, y3, y4, y5, y6⟩⟩ := hSw; go_simp; done) | rfl⟩) (by assumption) ?_
                simp only [Act.put, List.getElem_toArray, List.getElem_cons_succ, List.getElem_cons_zero, List.setIfInBounds_toArray, List.set_cons_succ, List.set_cons_zero]
                refine wpAnyH_ready (rs := [8]) (by kernel_rfl) (by simp) ?_
                refine AllReadyH.cons rfl (fun K hK => ?_) AllReadyH.nil
                go_simp
                go_wp2_with (go_at_call 76; (with_reducible refine (HM.out _).mono ?_); rintro e w3 ⟨rfl, L3⟩; have K3 : Below wr.heap.size wr w3 := (by first | exact L3 | exact ((Below.refl _ _).drew).trans L3))
                refine hK.out _ _ ?_ (fun hHeld2 => ?_)
                · exact ⟨HP.out.on K3 hlt, HQ.out.on K3 hlt⟩
                clear hK K hHeld
                have hHeld := hHeld2
                clear hHeld2
                refine wpAnyH_done (by kernel_rfl) ?_ _
                have K4 := join_below LZ K3
                go_wp2
                go_roundw
                case rel => exact ⟨j + 1, by omega, by go_num, K4, HF2⟩
                case measure => simp [intOf]; omega
            · have HV : Hid (holdsB l = okR (l.take (i + 1)) (l.drop (i + 1))) := by
                show _ = _
                rw [HT2.out, free_yes (fun j' hj' h => HF.out j' hj' (by omega)), Bool.true_and]
              have K2 := join_below K1 LZ
              clear HF HT2 HPE HJ LZ
              go_wp2
              go_roundw
              case rel => exact ⟨i + 1, by omega, by go_num, K2, HV⟩
              case measure => simp [intOf]; omega
        · have hh : holdB l[i] = false := Bool.eq_false_iff.2 hh
          rw [hh] at HC
          have HV : Hid (holdsB l = false) := by
            have := HT.out
            rw [hh, Bool.false_and] at this
            exact this
          generalize l[i] = p at *
          clear HT hh
          go_wp2_with fail
          refine (HC.out _).mono ?_
          rintro e w1 ⟨rfl, L1⟩
          go_wp2
          go_ret
          exact ⟨by rw [HV.out] <;> rfl, join_below L L1⟩
      · have HV : Hid (holdsB l = true) := HO.out.trans (okR_end l i (by omega))
        go_wp2
        go_ret
        exact ⟨by rw [HV.out] <;> rfl, L⟩
  · have HB : Hid (holdsB l = false) := by simp [holdsB, h4, Hid]
    have d4 : decide (400 < (l.length : Int)) = true := decide_eq_true (by omega)
    clear h4
    go_enter Tryz.func42, Tryz.ntmps42
    go_wp2
    go_ret
    exact ⟨by rw [HB.out] <;> rfl, Below.refl _ _⟩

end Se
end Go.Proofs.YtehmlnojjfeheaaGreat

/- Rows of holds of one's own, and a map from seats to such rows. -/
namespace Go.Proofs.YtehmlnojjfeheaaGreat
namespace Se
open Go.ChangeShapes Go.WideShapes Go.ChangeAt Go.RowKit
open Pk (new_below join_below cell_at heap_new frozen_at lt_of kept heap_old Drawn info_of own_form own_below Room)
set_option linter.unusedSimpArgs false
set_option linter.unusedVariables false

open Go.ChangeMaps (setBlock)

/-- The cells of holds. -/
def hc1 (p : Hl) : List Value := [.int .i64 p.tr, .int .i64 p.dy, .int .i64 p.co, .int .i64 p.se, .int .i64 p.ba, .int .i64 p.be, .int .i64 p.od]
def hcells (l : List Hl) : List Value := l.flatMap hc1

theorem hcells_nil : hcells [] = [] := rfl
theorem hcells_cons (p : Hl) (l : List Hl) : hcells (p :: l) = hc1 p ++ hcells l := rfl
theorem hcells_append (l m : List Hl) : hcells l ++ hcells m = hcells (l ++ m) := by simp [hcells]
theorem hcells_snoc (l : List Hl) (p : Hl) : hcells l ++ hc1 p = hcells (l ++ [p]) := by simp [hcells]
theorem hcells_length (l : List Hl) : (hcells l).length = l.length * 7 := by
  induction l with
  | nil => rfl
  | cons p l ih => rw [hcells_cons, List.length_append, ih, List.length_cons]; simp [hc1]; omega
theorem hc1_length (p : Hl) : (hc1 p).length = 7 := rfl
theorem hcells_one (l : List Hl) : ∀ u ∈ hcells l, u.oneCell' = true := by
  intro u hu
  unfold hcells at hu
  rw [List.mem_flatMap] at hu
  obtain ⟨p, -, hu⟩ := hu
  simp only [hc1, List.mem_cons, List.not_mem_nil, or_false] at hu
  rcases hu with rfl | rfl | rfl | rfl | rfl | rfl | rfl <;> rfl

theorem hcells_get (l : List Hl) (k c : Nat) (hk : k < l.length) (hc : c < 7) : (hcells l)[k * 7 + c]? = (hc1 l[k])[c]? := by
  induction l generalizing k with
  | nil => simp at hk
  | cons p l ih =>
    rw [hcells_cons]
    cases k with
    | zero =>
      rw [List.getElem?_append_left (by rw [hc1_length]; omega)]
      simp
    | succ k =>
      rw [List.getElem?_append_right (by rw [hc1_length]; omega), hc1_length, show (k + 1) * 7 + c - 7 = k * 7 + c by omega, ih k (by simpa using hk)]
      simp

/-- The cells of a row of one's own. -/
theorem own_cell {w : World} {base e n : Nat} {v : Value} {xs : List Value} (h : w.ownsRow base e 7 v n xs) (hn : 0 < n) :
    ∃ g cap, v = .slice (some ⟨g, 0, none⟩) n cap ∧ base ≤ g ∧ g < w.heap.size ∧ (∀ i u, xs[i]? = some u → w.cell? ⟨g, i, none⟩ = some u) ∧ ∀ i, w.frozen? ⟨g, i, none⟩ = false := by
  obtain ⟨hl, h2⟩ := h
  rcases h2 with ⟨hv, h0⟩ | ⟨g, cap, cur, hv, hg, hh, h1, h3, h4, h5⟩
  · omega
  · refine ⟨g, cap, hv, hg, lt_of hh, fun i u hu => ?_, fun i => frozen_at hh i⟩
    rw [cell_at hh]
    have hx := (List.getElem?_eq_some_iff.1 hu).1
    have h6 : (cur.toList.take (n * 7))[i]? = xs[i]? := by rw [h5]
    rw [List.getElem?_take, if_pos (by omega), Array.getElem?_toList] at h6
    rw [h6]
    exact hu

/-- A row of holds of one's own is a slice of them. -/
theorem own_holds {w : World} {base e : Nat} {v : Value} {l : List Hl} (h : w.ownsRow base e 7 v l.length (hcells l)) : ∃ a cap, v = .slice a l.length cap ∧ Holds w a l := by
  by_cases h0 : l.length = 0
  · obtain ⟨a, cap, hv, -⟩ := own_form h
    exact ⟨a, cap, hv, Or.inl (List.eq_nil_of_length_eq_zero h0)⟩
  · obtain ⟨g, cap, hv, -, hg, hc, -⟩ := own_cell h (by omega)
    refine ⟨_, cap, hv, Or.inr ⟨g, 0, rfl, hg, fun i hi => ?_⟩⟩
    rw [Nat.zero_add]
    exact ⟨hc (i * 7) _ ((hcells_get l i 0 hi (by omega)).trans rfl), hc (i * 7 + 1) _ ((hcells_get l i 1 hi (by omega)).trans rfl), hc (i * 7 + 2) _ ((hcells_get l i 2 hi (by omega)).trans rfl), hc (i * 7 + 3) _ ((hcells_get l i 3 hi (by omega)).trans rfl), hc (i * 7 + 4) _ ((hcells_get l i 4 hi (by omega)).trans rfl), hc (i * 7 + 5) _ ((hcells_get l i 5 hi (by omega)).trans rfl), hc (i * 7 + 6) _ ((hcells_get l i 6 hi (by omega)).trans rfl)⟩

/-- Such a slice has room. -/
theorem own_room {w : World} {base e : Nat} {v : Value} {l : List Hl} (h : w.ownsRow base e 7 v l.length (hcells l)) (hn : 0 < l.length) : ∃ g cap, v = .slice (some ⟨g, 0, none⟩) l.length cap ∧ base ≤ g ∧ g < w.heap.size ∧ Room w g (l.length * 7) := by
  obtain ⟨g, cap, hv, hb, hg, hc, hf⟩ := own_cell h hn
  refine ⟨g, cap, hv, hb, hg, fun j hj => ⟨?_, hf j⟩⟩
  have hx : j < (hcells l).length := by rw [hcells_length]; omega
  exact ⟨_, hc j _ (List.getElem?_eq_getElem hx)⟩

/-- Numbers of a key that an int holds. -/
structure WfK (k : Ky) : Prop where
  tr : WfI k.tr
  dy : WfI k.dy
  co : WfI k.co
  se : WfI k.se

theorem Wf.key {p : Hl} (h : Wf p) : WfK (key p) := ⟨h.tr, h.dy, h.co, h.se⟩

theorem keyLaw : WideMaps.KeyLaw Tryz.prog 148 := deep_law_laid (m := 4) (by kernel_rfl) (by omega) (of_decide_eq_true (by kernel_rfl)) (by kernel_rfl) (by kernel_rfl)

theorem ky_inj {a b : Ky} (h : kyV a = kyV b) : a = b := by
  obtain ⟨a1, a2, a3, a4⟩ := a
  obtain ⟨b1, b2, b3, b4⟩ := b
  simp only [kyV, Value.agg.injEq, Array.mk.injEq, List.cons.injEq, Value.int.injEq, true_and, and_true] at h
  obtain ⟨h1, h2, h3, h4⟩ := h
  rw [h1, h2, h3, h4]

theorem ky_key {k : Ky} (h : WfK k) : ∃ l, keyOf Tryz.prog 148 (kyV k) = some l := by
  obtain ⟨a, b, c, d0⟩ := k
  obtain ⟨wa, wb, wc, wd⟩ := h
  have c4 : Tryz.prog.cellsOf 148 = 4 := by kernel_rfl
  have c1 : Tryz.prog.cellsOf 3 = 1 := by kernel_rfl
  have kl : ∀ d, Tryz.prog.keyLits (d + 2) 148 [.int .i64 a, .int .i64 b, .int .i64 c, .int .i64 d0] = some [.int .i64 a, .int .i64 b, .int .i64 c, .int .i64 d0] := by
    intro d
    simp [Program.keyLits, Tryz.underlying148, Tryz.underlying3, c4, c1, wa, wb, wc, wd]
  unfold keyOf
  simp [go_sem, Tryz.underlying148]
  refine ⟨⟨by kernel_rfl, ?_⟩, _, _, kl _, rfl⟩
  simp [Value.formed, Tryz.underlying148, c4]

/-- Block b is a map that has the holds f k at each key k, in rows from block B on of which no two are one. -/
structure Mp (B b : Nat) (f : Ky → List Hl) (es : Array MapEntry) (clock : Nat) (w : World) : Prop where
  blk : w.heap[b]? = some (.map es clock)
  keys : ∀ e ∈ es.toList, ∃ k, WfK k ∧ e.key = kyV k
  rows : ∀ e ∈ es.toList, ∀ k, e.key = kyV k → f k ≠ [] ∧ w.ownsRow B 81 7 e.val (f k).length (hcells (f k))
  has : ∀ k, f k ≠ [] → ∃ e ∈ es.toList, e.key = kyV k
  apart : ∀ (i j : Nat) (x y : MapEntry), es.toList[i]? = some x → es.toList[j]? = some y → i ≠ j → x.key ≠ y.key ∧ x.val.ownBlock ≠ y.val.ownBlock

theorem mp_new (B : Nat) (w : World) : Mp B w.heap.size (fun _ => []) #[] 0 (w.alloc (.map #[] 0)) :=
  ⟨heap_new w _, by simp, by simp, fun k h => absurd rfl h, by intro i j x y h; simp at h⟩

/-- What keeps the blocks below a bound keeps a map all of whose blocks lie there. -/
theorem Mp.on {B b : Nat} {f : Ky → List Hl} {es : Array MapEntry} {clock : Nat} {w w1 : World} (M : Mp B b f es clock w) (L : Below w.heap.size w w1) : Mp B b f es clock w1 :=
  ⟨kept L (lt_of M.blk) M.blk, M.keys, fun e he k hk => ⟨(M.rows e he k hk).1, own_below (M.rows e he k hk).2 L (Nat.le_refl _)⟩, M.has, M.apart⟩

theorem zero_holds (w : World) : (zeroValue 32).run Tryz.prog w = .ok (.slice none 0 0) w := by
  simp [go_sem, Tryz.zeroValue32]

theorem own_setBlock {w : World} {b base e size : Nat} {o o' : Obj} {v : Value} {n : Nat} {xs : List Value} (h : w.ownsRow base e size v n xs) (hb : w.heap[b]? = some o) (ho : ∀ cs t fz, o ≠ .cells cs t fz) : (setBlock w b o').ownsRow base e size v n xs := by
  obtain ⟨h1, h2⟩ := h
  refine ⟨h1, ?_⟩
  rcases h2 with h2 | ⟨g, cap, cur, hv, hg, hh, hr⟩
  · exact Or.inl h2
  · refine Or.inr ⟨g, cap, cur, hv, hg, ?_, hr⟩
    have hne : g ≠ b := by
      intro e
      subst e
      rw [hb] at hh
      exact ho _ _ _ (Option.some.inj hh)
    show (w.heap.setIfInBounds b o')[g]? = _
    rw [(MapKept.heap_set (o' := o') hb).2 g hne]
    exact hh

theorem map_not_cells (es : Array MapEntry) (clock : Nat) : ∀ cs t fz, Obj.map es clock ≠ .cells cs t fz := by
  intro cs t fz h
  cases h

theorem own_some {w : World} {base e : Nat} {v : Value} {l : List Hl} (h : w.ownsRow base e 7 v l.length (hcells l)) (hl : l ≠ []) : ∃ g, v.ownBlock = some g ∧ g < w.heap.size := by
  obtain ⟨g, cap, rfl, -, hg, -⟩ := own_cell h (by cases l with | nil => exact absurd rfl hl | cons a l => simp)
  exact ⟨g, rfl, hg⟩

/-- The holds with one more at a key. -/
def more (f : Ky → List Hl) (k : Ky) (x : Hl) : Ky → List Hl := fun q => if q = k then f k ++ [x] else f q

theorem more_same (f : Ky → List Hl) (k : Ky) (x : Hl) : more f k x k = f k ++ [x] := if_pos rfl
theorem more_other (f : Ky → List Hl) (k q : Ky) (x : Hl) (h : q ≠ k) : more f k x q = f q := if_neg h

/-- What is looked up at a key; what is then stored there. -/
theorem Mp.look {B b : Nat} {f : Ky → List Hl} {es : Array MapEntry} {clock : Nat} {w : World} (M : Mp B b f es clock w) (k : Ky) (hk : WfK k) :
    ∃ (v0 : Value), (∀ w1 : World, w1.heap[b]? = some (.map es clock) → (Instr.lookup 129 (.map (some b)) (kyV k) false).run Tryz.prog w1 = .ok v0 w1) ∧
      w.ownsRow B 81 7 v0 (f k).length (hcells (f k)) ∧
      ∀ (w2 : World) (v' : Value) (x : Hl), w2.heap[b]? = some (.map es clock) → w2.ownsRow B 81 7 v' (f k ++ [x]).length (hcells (f k ++ [x])) →
        ((∃ g, v'.ownBlock = some g ∧ v0.ownBlock = some g) ∨ ∃ g, v'.ownBlock = some g ∧ w.heap.size ≤ g) →
        (∀ u n xs, w.ownsRow B 81 7 u n xs → u.ownBlock ≠ v0.ownBlock → w2.ownsRow B 81 7 u n xs) →
        ∃ es' clock', (Instr.mapUpdate 129 (.map (some b)) (kyV k) v').run Tryz.prog w2 = .ok () (setBlock w2 b (.map es' clock')) ∧ Mp B b (more f k x) es' clock' (setBlock w2 b (.map es' clock')) := by
  obtain ⟨l, hl⟩ := ky_key hk
  have hks : ∀ e ∈ es.toList, ∃ l, keyOf Tryz.prog 148 e.key = some l := by
    intro e he
    obtain ⟨k', hw', hk'⟩ := M.keys e he
    rw [hk']
    exact ky_key hw'
  have hfind : (∀ w : World, (Instr.findKey 148 (kyV k) es.toList).run Tryz.prog w = .ok none w) ∧ (∀ e ∈ es.toList, e.key ≠ kyV k) ∨ ∃ j e, (∀ w : World, (Instr.findKey 148 (kyV k) es.toList).run Tryz.prog w = .ok (some (j, e.val)) w) ∧ es.toList[j]? = some e ∧ e.key = kyV k := by
    rcases keyLaw.find w hl es.toList hks with ⟨h1, h2⟩ | ⟨j, e0, h1, h2, h3⟩
    · refine Or.inl ⟨fun w1 => ?_, h2⟩
      rcases keyLaw.find w1 hl es.toList hks with ⟨h, -⟩ | ⟨j, e, -, h4, h5⟩
      · exact h
      · exact absurd h5 (h2 e (List.mem_of_getElem? h4))
    · refine Or.inr ⟨j, e0, fun w1 => ?_, h2, h3⟩
      rcases keyLaw.find w1 hl es.toList hks with ⟨-, h⟩ | ⟨j', e, h, h4, h5⟩
      · exact absurd h3 (h e0 (List.mem_of_getElem? h2))
      · have hjj : j' = j := by
          apply Classical.byContradiction
          intro hne
          exact (M.apart j' j e e0 h4 h2 hne).1 (by rw [h5, h3])
        subst hjj
        rw [h2] at h4
        cases h4
        exact h
  rcases hfind with ⟨h1, h2⟩ | ⟨j, e0, h1, h2, h3⟩
  · have hfk : f k = [] := by
      apply Classical.byContradiction
      intro hn
      obtain ⟨e, he, hk⟩ := M.has k hn
      exact h2 e he hk
    refine ⟨.slice none 0 0, fun w1 hb1 => ?_, by rw [hfk]; exact World.ownsRow_nil _ _ _ _, ?_⟩
    · simp [Instr.lookup, run_underlying Tryz.underlying129, MapKept.run_getObj_map hb1, keyLaw.check w1 _ hl, h1, zero_holds, Result.andThen]
    · intro w2 v' x hw2 hown hblk hkeep
      refine ⟨es.push ⟨kyV k, v', clock⟩, clock + 1, ?_, ?_⟩
      · simp [Instr.mapUpdate, run_underlying Tryz.underlying129, MapKept.run_getObj_map hw2, keyLaw.check w2 false hl, h1, MapKept.run_setObj_map _ hw2, Result.andThen, setBlock]
      · have hrow : ∀ e ∈ es.toList, ∀ q, e.key = kyV q → q ≠ k ∧ f q ≠ [] ∧ w2.ownsRow B 81 7 e.val (f q).length (hcells (f q)) := by
          intro e he q hq
          obtain ⟨r1, r2⟩ := M.rows e he q hq
          obtain ⟨g, hg, -⟩ := own_some r2 r1
          refine ⟨fun e1 => h2 e he (by rw [hq, e1]), r1, hkeep _ _ _ r2 (by rw [hg]; simp [Value.ownBlock])⟩
        have hmem : ∀ e, e ∈ (es.push ⟨kyV k, v', clock⟩).toList → e ∈ es.toList ∨ e = ⟨kyV k, v', clock⟩ := by
          intro e he
          simpa using he
        refine ⟨(MapKept.heap_set hw2).1, ?_, ?_, ?_, ?_⟩
        · intro e he
          rcases hmem e he with h | rfl
          · exact M.keys e h
          · exact ⟨k, hk, rfl⟩
        · intro e he q hq
          rcases hmem e he with h | rfl
          · obtain ⟨n1, n2, n3⟩ := hrow e h q hq
            rw [more_other f k q x n1]
            exact ⟨n2, own_setBlock n3 hw2 (map_not_cells _ _)⟩
          · have e1 : q = k := (ky_inj hq).symm
            subst e1
            rw [more_same]
            exact ⟨by simp, own_setBlock hown hw2 (map_not_cells _ _)⟩
        · intro q hq
          by_cases e1 : q = k
          · subst e1
            exact ⟨⟨kyV q, v', clock⟩, by simp, rfl⟩
          · rw [more_other f k q x e1] at hq
            obtain ⟨e, he, hk⟩ := M.has q hq
            exact ⟨e, by simp [he], hk⟩
        · have hnew : ∀ e ∈ es.toList, e.key ≠ kyV k ∧ e.val.ownBlock ≠ v'.ownBlock := by
            intro e he
            obtain ⟨q, -, hq⟩ := M.keys e he
            obtain ⟨r1, r2⟩ := M.rows e he q hq
            obtain ⟨g, hg, hlt⟩ := own_some r2 r1
            refine ⟨h2 e he, ?_⟩
            rcases hblk with ⟨g', -, h⟩ | ⟨g', h, hge⟩
            · cases h
            · rw [hg, h]
              intro h4
              have := Option.some.inj h4
              omega
          intro i j a c ha hc hij
          rw [Array.toList_push] at ha hc
          by_cases hi : i < es.toList.length
          · rw [List.getElem?_append_left hi] at ha
            by_cases hj : j < es.toList.length
            · rw [List.getElem?_append_left hj] at hc
              exact M.apart i j a c ha hc hij
            · rw [List.getElem?_append_right (by omega)] at hc
              have : c = ⟨kyV k, v', clock⟩ := by
                have := List.mem_of_getElem? hc
                simpa using this
              subst this
              exact hnew a (List.mem_of_getElem? ha)
          · rw [List.getElem?_append_right (by omega)] at ha
            have e1 : a = ⟨kyV k, v', clock⟩ := by
              have := List.mem_of_getElem? ha
              simpa using this
            have hi2 : i = es.toList.length := by
              have h5 := (List.getElem?_eq_some_iff.1 ha).1
              rw [List.length_singleton] at h5
              omega
            by_cases hj : j < es.toList.length
            · rw [List.getElem?_append_left hj] at hc
              subst e1
              obtain ⟨n1, n2⟩ := hnew c (List.mem_of_getElem? hc)
              exact ⟨Ne.symm n1, Ne.symm n2⟩
            · rw [List.getElem?_append_right (by omega)] at hc
              have h5 := (List.getElem?_eq_some_iff.1 hc).1
              rw [List.length_singleton] at h5
              omega
  · have hj : es[j]? = some e0 := by simpa using h2
    have he0 : e0 ∈ es.toList := List.mem_of_getElem? h2
    obtain ⟨r1, r2⟩ := M.rows e0 he0 k h3
    refine ⟨e0.val, fun w1 hb1 => ?_, r2, ?_⟩
    · simp [Instr.lookup, run_underlying Tryz.underlying129, MapKept.run_getObj_map hb1, keyLaw.check w1 _ hl, h1, Result.andThen]
    · intro w2 v' x hw2 hown hblk hkeep
      have hkey : ({ e0 with key := kyV k, val := v' } : MapEntry) = { e0 with val := v' } := by rw [← h3]
      have hset : (es.modify j (fun e => { e with key := kyV k, val := v' })).toList = es.toList.set j { e0 with val := v' } := by
        rw [Array.toList_modify, Go.ChangeMaps.modify_eq_set _ _ _ _ h2, hkey]
      have hjl : j < es.toList.length := (List.getElem?_eq_some_iff.1 h2).1
      have hat : ∀ (i : Nat) (a : MapEntry), (es.modify j (fun e => { e with key := kyV k, val := v' })).toList[i]? = some a → (i = j ∧ a = { e0 with val := v' }) ∨ (i ≠ j ∧ es.toList[i]? = some a) := by
        intro i a ha
        rw [hset, List.getElem?_set] at ha
        by_cases e1 : j = i
        · subst e1
          rw [if_pos rfl, if_pos hjl] at ha
          exact Or.inl ⟨rfl, (Option.some.inj ha).symm⟩
        · rw [if_neg e1] at ha
          exact Or.inr ⟨Ne.symm e1, ha⟩
      have hmem : ∀ a, a ∈ (es.modify j (fun e => { e with key := kyV k, val := v' })).toList → a = { e0 with val := v' } ∨ ∃ i, i ≠ j ∧ es.toList[i]? = some a := by
        intro a ha
        obtain ⟨i, hi⟩ := List.getElem?_of_mem ha
        rcases hat i a hi with ⟨-, h⟩ | ⟨h, h'⟩
        · exact Or.inl h
        · exact Or.inr ⟨i, h, h'⟩
      have hrow : ∀ i a, i ≠ j → es.toList[i]? = some a → ∀ q, a.key = kyV q → q ≠ k ∧ f q ≠ [] ∧ w2.ownsRow B 81 7 a.val (f q).length (hcells (f q)) := by
        intro i a hij ha q hq
        obtain ⟨s1, s2⟩ := M.rows a (List.mem_of_getElem? ha) q hq
        obtain ⟨n1, n2⟩ := M.apart i j a e0 ha h2 hij
        exact ⟨fun e1 => n1 (by rw [hq, h3, e1]), s1, hkeep _ _ _ s2 n2⟩
      refine ⟨es.modify j (fun e => { e with key := kyV k, val := v' }), clock, ?_, ?_⟩
      · simp [Instr.mapUpdate, run_underlying Tryz.underlying129, MapKept.run_getObj_map hw2, keyLaw.check w2 false hl, h1, hj, h3, keyLaw.stays w2 hl, MapKept.run_setObj_map _ hw2, Result.andThen, setBlock]
      · refine ⟨(MapKept.heap_set hw2).1, ?_, ?_, ?_, ?_⟩
        · intro a ha
          rcases hmem a ha with rfl | ⟨i, -, hi⟩
          · exact ⟨k, hk, h3⟩
          · exact M.keys a (List.mem_of_getElem? hi)
        · intro a ha q hq
          rcases hmem a ha with rfl | ⟨i, hij, hi⟩
          · have e1 : q = k := ky_inj (by rw [← hq]; exact h3)
            subst e1
            rw [more_same]
            exact ⟨by simp, own_setBlock hown hw2 (map_not_cells _ _)⟩
          · obtain ⟨n1, n2, n3⟩ := hrow i a hij hi q hq
            rw [more_other f k q x n1]
            exact ⟨n2, own_setBlock n3 hw2 (map_not_cells _ _)⟩
        · intro q hq
          by_cases e1 : q = k
          · subst e1
            refine ⟨{ e0 with val := v' }, ?_, h3⟩
            rw [hset]
            exact List.mem_of_getElem? (i := j) (by rw [List.getElem?_set, if_pos rfl, if_pos hjl])
          · rw [more_other f k q x e1] at hq
            obtain ⟨a, ha, hk⟩ := M.has q hq
            obtain ⟨i, hi⟩ := List.getElem?_of_mem ha
            have hij : j ≠ i := by
              intro e2
              subst e2
              rw [h2] at hi
              have := Option.some.inj hi
              subst this
              exact e1 (ky_inj (by rw [← hk]; exact h3))
            refine ⟨a, ?_, hk⟩
            rw [hset]
            exact List.mem_of_getElem? (i := i) (by rw [List.getElem?_set, if_neg hij]; exact hi)
        · have hnew : ∀ i a, i ≠ j → es.toList[i]? = some a → a.key ≠ e0.key ∧ a.val.ownBlock ≠ v'.ownBlock := by
            intro i a hij ha
            obtain ⟨n1, n2⟩ := M.apart i j a e0 ha h2 hij
            refine ⟨n1, ?_⟩
            rcases hblk with ⟨g, g1, g2⟩ | ⟨g, g1, g2⟩
            · rw [g1, ← g2]
              exact n2
            · obtain ⟨q, -, hq⟩ := M.keys a (List.mem_of_getElem? ha)
              obtain ⟨s1, s2⟩ := M.rows a (List.mem_of_getElem? ha) q hq
              obtain ⟨g', hg', hlt⟩ := own_some s2 s1
              rw [hg', g1]
              intro h4
              have := Option.some.inj h4
              omega
          intro i1 i2 a c ha hc hne
          rcases hat i1 a ha with ⟨rfl, rfl⟩ | ⟨k1, ha'⟩
          · rcases hat i2 c hc with ⟨rfl, -⟩ | ⟨k2, hc'⟩
            · exact absurd rfl hne
            · obtain ⟨n1, n2⟩ := hnew i2 c k2 hc'
              exact ⟨Ne.symm n1, Ne.symm n2⟩
          · rcases hat i2 c hc with ⟨rfl, rfl⟩ | ⟨k2, hc'⟩
            · exact hnew i1 a k1 ha'
            · exact M.apart i1 i2 a c ha' hc' hne

end Se
end Go.Proofs.YtehmlnojjfeheaaGreat

/- The program's add: a hold more in the map. -/
namespace Go.Proofs.YtehmlnojjfeheaaGreat
namespace Se
open Go.ChangeShapes Go.WideShapes Go.ChangeAt Go.RowKit
open Pk (new_below join_below cell_at heap_new frozen_at lt_of kept heap_old Drawn info_of own_form own_below Room)
set_option linter.unusedSimpArgs false
set_option linter.unusedVariables false

open Go.ChangeMaps (setBlock)

theorem wp_append_at {P : Program} {w : World} {o : Oper} {a : Act} {K : Act → World → Prop} {Q : Exit → Act → World → Prop} (s x : Operand) (t : TypeId)
    (ho : o.op = .call { callee := .builtin .append, args := #[s, x], argTypes := #[t, t] })
    (base : Nat) (e : TypeId) (i : TypeInfo) (z : Value) (size bytes : Nat) (ht : P.underlying t = some (.slice e)) (hi : P.info? e = some i) (hz : i.zero = some z)
    (hsize : i.size = size) (hby : i.bytes = bytes) (hzs : z.cells.size = size) (hsz : 0 < size)
    (v : Value) (n : Nat) (xs : List Value) (hs : a.eval s = v) (hown : w.ownsRow base e size v n xs)
    (ad : Addr) (m c : Nat) (news : List Value) (hx : a.eval x = .slice (some ad) m c) (hl : news.length = m * size) (hnews : ∀ j u, news[j]? = some u → w.cell? (ad.add j) = some u) (h1 : ∀ u ∈ news, u.oneCell' = true)
    (h63 : n + m ≤ maxLen) (hbytes : (n + m) * bytes ≤ 140737488355328) (hbase : base ≤ w.heap.size)
    (h : ∀ v' w', w'.ownsRow base e size v' (n + m) (xs ++ news) → w.grownBy w' v.ownBlock → (v'.ownBlock = v.ownBlock ∨ v'.ownBlock = some w.heap.size) → K (a.put o.dst v') w') : o.wp P a w K Q := by
  obtain ⟨v', w', hr, h2, h3, -, h5⟩ := run_append_own_at (P := P) w base t o.type e i z size bytes ht hi hz hsize hby hzs hsz v n xs hown ad m c news hl hnews h1 h63 hbytes hbase
  unfold Oper.wp execOp
  simp only [ho, resolve, invoke, builtin, Sem.run_bind, Sem.run_pure, Result.andThen_ok, List.map_toArray, List.map_cons, List.map_nil, hs, hx, hr]
  exact h v' w' h2 h3 h5

theorem wp_look {w : World} {o : Oper} {a : Act} {K : Act → World → Prop} {Q : Exit → Act → World → Prop} (m x : Operand) (ho : o.op = .lookup 129 m x false) (mv kk v : Value) (hm : a.eval m = mv) (hx : a.eval x = kk)
    (hr : (Instr.lookup 129 mv kk false).run Tryz.prog w = .ok v w) (h : K (a.put o.dst v) w) : o.wp Tryz.prog a w K Q := by
  unfold Oper.wp
  simp [execOp, ho, hm, hx, hr, Result.andThen]
  exact h

theorem wp_upd {w w' : World} {o : Oper} {a : Act} {K : Act → World → Prop} {Q : Exit → Act → World → Prop} (m x y : Operand) (ho : o.op = .mapUpdate 129 m x y) (mv kk v : Value) (hm : a.eval m = mv) (hx : a.eval x = kk) (hy : a.eval y = v)
    (hr : (Instr.mapUpdate 129 mv kk v).run Tryz.prog w = .ok () w') (h : K (a.put o.dst undef) w') : o.wp Tryz.prog a w K Q := by
  unfold Oper.wp
  simp [execOp, ho, hm, hx, hy, hr, Result.andThen]
  exact h

theorem seven_at {w : World} {b : Nat} {p : Hl} {t : TypeId} {f : Nat × Nat} (h : w.heap[b]? = some (.cells #[.int .i64 p.tr, .int .i64 p.dy, .int .i64 p.co, .int .i64 p.se, .int .i64 p.ba, .int .i64 p.be, .int .i64 p.od] t f)) : ∀ j u, (hc1 p)[j]? = some u → w.cell? (Addr.add ⟨b, 0, none⟩ j) = some u := by
  intro j u hu
  rw [add_plain, Nat.zero_add, cell_at h, ← hu]
  simp [hc1]

theorem Bx.blk {w w1 : World} {b : Nat} {p : Hl} (h : Bx w b p) (e : w1.heap[b]? = w.heap[b]?) : Bx w1 b p := by
  unfold Bx
  rw [World.cell?_of_block (a := ⟨b, 0, none⟩) e, World.cell?_of_block (a := ⟨b, 1, none⟩) e, World.cell?_of_block (a := ⟨b, 2, none⟩) e, World.cell?_of_block (a := ⟨b, 3, none⟩) e, World.cell?_of_block (a := ⟨b, 4, none⟩) e, World.cell?_of_block (a := ⟨b, 5, none⟩) e, World.cell?_of_block (a := ⟨b, 6, none⟩) e]
  exact h

theorem Mp.add {B b : Nat} {f : Ky → List Hl} {es : Array MapEntry} {clock : Nat} {w : World} (M : Mp B b f es clock w) (p : Hl) (hk : Wf p) (hbB : b < B) (hBw : B ≤ w.heap.size) :
    ∃ v0, (∀ w1 : World, Below w.heap.size w w1 → (Instr.lookup 129 (.map (some b)) (.agg #[.int .i64 p.tr, .int .i64 p.dy, .int .i64 p.co, .int .i64 p.se]) false).run Tryz.prog w1 = .ok v0 w1) ∧ w.ownsRow B 81 7 v0 (f (key p)).length (hcells (f (key p))) ∧
      ∀ (wc w9 : World) (v' : Value), Below w.heap.size w wc → w9.ownsRow B 81 7 v' ((f (key p)).length + 1) (hcells (f (key p)) ++ hc1 p) → wc.grownBy w9 v0.ownBlock → (v'.ownBlock = v0.ownBlock ∨ v'.ownBlock = some wc.heap.size) →
        (∀ c, w.heap.size ≤ c → c < wc.heap.size → w9.heap[c]? = wc.heap[c]?) ∧ ∃ es' clock', (Instr.mapUpdate 129 (.map (some b)) (.agg #[.int .i64 p.tr, .int .i64 p.dy, .int .i64 p.co, .int .i64 p.se]) v').run Tryz.prog w9 = .ok () (setBlock w9 b (.map es' clock')) ∧ Mp B b (more f (key p) p) es' clock' (setBlock w9 b (.map es' clock')) ∧ Below b w (setBlock w9 b (.map es' clock')) ∧ ∀ c, w.heap.size ≤ c → c < wc.heap.size → (setBlock w9 b (.map es' clock')).heap[c]? = wc.heap[c]? := by
  obtain ⟨v0, h1, h2, h3⟩ := M.look (key p) hk.key
  refine ⟨v0, fun w1 L => h1 w1 (kept L (lt_of M.blk) M.blk), h2, ?_⟩
  intro wc w9 v' L O10 G hl
  have hv : ∀ g, v0.ownBlock = some g → B ≤ g ∧ g < w.heap.size := fun g hg => h2.lt g hg
  have hbc := kept L (lt_of M.blk) M.blk
  have hb9 : w9.heap[b]? = some (.map es clock) := by
    rw [G.block b (lt_of hbc) (fun h => by have := (hv b h.symm).1; omega)]
    exact hbc
  have hc9 : ∀ c, w.heap.size ≤ c → c < wc.heap.size → w9.heap[c]? = wc.heap[c]? := fun c h4 h5 => G.block c h5 (fun h => by have := (hv c h.symm).2; omega)
  have hown : w9.ownsRow B 81 7 v' (f (key p) ++ [p]).length (hcells (f (key p) ++ [p])) := by
    rw [← hcells_snoc, List.length_append]
    exact O10
  refine ⟨hc9, ?_⟩
  obtain ⟨es', clock', h4, h5⟩ := h3 w9 v' p hb9 hown (by
    obtain ⟨g, hg, -⟩ := own_some hown (by simp)
    rcases hl with h | h
    · exact Or.inl ⟨g, hg, by rw [← h]; exact hg⟩
    · exact Or.inr ⟨_, h, L.size⟩) (fun u n xs hu hne => (own_below hu L (Nat.le_refl _)).kept G (Or.inr hne))
  refine ⟨es', clock', h4, h5, ?_, ?_⟩
  · refine ⟨G.os.trans L.os, G.tape.trans L.tape, G.output.trans L.output, ?_, fun k hk => ?_⟩
    · have h6 : (setBlock w9 b (.map es' clock')).heap.size = w9.heap.size := by simp [setBlock]
      rw [h6]
      exact Nat.le_trans L.size G.size
    · show (w9.heap.setIfInBounds b _)[k]? = _
      have hkb := lt_of M.blk
      rw [(MapKept.heap_set hb9).2 k (by omega), G.block k (by have := L.size; omega) (fun h => by have := (hv k h.symm).1; omega)]
      exact L.block k (by omega)
  · intro c h6 h7
    have hkb := lt_of M.blk
    show (w9.heap.setIfInBounds b _)[c]? = _
    rw [(MapKept.heap_set hb9).2 c (by omega)]
    exact hc9 c h6 h7

set_option maxRecDepth 100000 in
set_option maxHeartbeats 4000000 in
theorem add_val (B b : Nat) (f : Ky → List Hl) (es : Array MapEntry) (clock : Nat) (p : Hl) (w : World) (hk : Wf p) (hn : (f (key p)).length ≤ 1048576) (hbB : b < B) (hBw : B ≤ w.heap.size) (M : Mp B b f es clock w) :
    Calls Tryz.prog 84 #[.map (some b), lgV p] w fun e w' => e = .returned (.tuple #[]) ∧ (∃ es' clock', Mp B b (more f (key p) p) es' clock' w') ∧ Below b w w' := by
  obtain ⟨i0, hi, hz0, hz1, hz2⟩ := info_of info_hold
  obtain ⟨v0, hl0, O0, hst0⟩ := M.add p hk hbB hBw
  have HN : Hid (_) := new_below w (.cells #[.int .i64 p.tr, .int .i64 p.dy, .int .i64 p.co, .int .i64 p.se, .int .i64 p.ba, .int .i64 p.be, .int .i64 p.od] 81)
  have HL : Hid (_) := hl0
  have HO : Hid (_) := O0
  have HST : Hid (_) := hst0
  have HB : Hid (Bx (w.alloc (.cells #[.int .i64 p.tr, .int .i64 p.dy, .int .i64 p.co, .int .i64 p.se, .int .i64 p.ba, .int .i64 p.be, .int .i64 p.od] 81)) w.heap.size p) := Bx.of (heap_new _ _)
  have hcW : w.heap.size < (w.alloc (.cells #[.int .i64 p.tr, .int .i64 p.dy, .int .i64 p.co, .int .i64 p.se, .int .i64 p.ba, .int .i64 p.be, .int .i64 p.od] 81)).heap.size := by simp
  have HK : Hid (∀ w, _) := fun w => key_val p w
  clear hl0 O0 hst0 M
  generalize hfk : (f (key p)).length = n at *
  clear hfk
  go_enter Tryz.func84, Tryz.ntmps84
  go_wp2
  generalize w.alloc (.cells #[.int .i64 p.tr, .int .i64 p.dy, .int .i64 p.co, .int .i64 p.se, .int .i64 p.ba, .int .i64 p.be, .int .i64 p.od] 81) = W at *
  refine wp_region_held_drew (S := (fun w' => Bx w' w.heap.size p)) (by kernel_rfl) ?_ (fun hHeld => ?_)
  · exact HB.out.on ((Below.refl _ _).drew) hcW
  refine wpAnyH_take (i := 0) (v := .map (some b)) rfl (by kernel_rfl) (by kernel_rfl) (by kernel_rfl) (fun _ _ _ h => h) (Or.inl ⟨by kernel_rfl, fun w hSw => by first | (go_simp; done) | (dsimp only at hSw; obtain ⟨x0, x1, x2, x3, x4, x5, x6⟩ := hSw; go_simp; done) | rfl⟩) (by assumption) ?_
  simp only [Act.put, List.getElem_toArray, List.getElem_cons_succ, List.getElem_cons_zero, List.setIfInBounds_toArray, List.set_cons_succ, List.set_cons_zero]
  refine wpAnyH_take (i := 1) (v := .agg #[.int .i64 p.tr, .int .i64 p.dy, .int .i64 p.co, .int .i64 p.se, .int .i64 p.ba, .int .i64 p.be, .int .i64 p.od]) rfl (by kernel_rfl) (by kernel_rfl) (by kernel_rfl) (fun _ _ _ h => h) (Or.inl ⟨by kernel_rfl, fun w hSw => by first | (go_simp; done) | (dsimp only at hSw; obtain ⟨x0, x1, x2, x3, x4, x5, x6⟩ := hSw; go_simp; done) | rfl⟩) (by assumption) ?_
  simp only [Act.put, List.getElem_toArray, List.getElem_cons_succ, List.getElem_cons_zero, List.setIfInBounds_toArray, List.set_cons_succ, List.set_cons_zero]
  refine wpAnyH_take (i := 3) (v := .map (some b)) rfl (by kernel_rfl) (by kernel_rfl) (by kernel_rfl) (fun _ _ _ h => h) (Or.inl ⟨by kernel_rfl, fun w hSw => by first | (go_simp; done) | (dsimp only at hSw; obtain ⟨x0, x1, x2, x3, x4, x5, x6⟩ := hSw; go_simp; done) | rfl⟩) (by assumption) ?_
  simp only [Act.put, List.getElem_toArray, List.getElem_cons_succ, List.getElem_cons_zero, List.setIfInBounds_toArray, List.set_cons_succ, List.set_cons_zero]
  refine wpAnyH_take (i := 4) (v := .agg #[.int .i64 p.tr, .int .i64 p.dy, .int .i64 p.co, .int .i64 p.se, .int .i64 p.ba, .int .i64 p.be, .int .i64 p.od]) rfl (by kernel_rfl) (by kernel_rfl) (by kernel_rfl) (fun _ _ _ h => h) (Or.inl ⟨by kernel_rfl, fun w hSw => by first | (go_simp; done) | (dsimp only at hSw; obtain ⟨x0, x1, x2, x3, x4, x5, x6⟩ := hSw; go_simp; done) | rfl⟩) (by assumption) ?_
  simp only [Act.put, List.getElem_toArray, List.getElem_cons_succ, List.getElem_cons_zero, List.setIfInBounds_toArray, List.set_cons_succ, List.set_cons_zero]
  refine wpAnyH_take (i := 7) (v := .agg #[.int .i64 p.tr, .int .i64 p.dy, .int .i64 p.co, .int .i64 p.se, .int .i64 p.ba, .int .i64 p.be, .int .i64 p.od]) rfl (by kernel_rfl) (by kernel_rfl) (by kernel_rfl) (fun _ _ _ h => h) (Or.inl ⟨by kernel_rfl, fun w hSw => by first | (go_simp; done) | (dsimp only at hSw; obtain ⟨x0, x1, x2, x3, x4, x5, x6⟩ := hSw; go_simp; done) | rfl⟩) (by assumption) ?_
  simp only [Act.put, List.getElem_toArray, List.getElem_cons_succ, List.getElem_cons_zero, List.setIfInBounds_toArray, List.set_cons_succ, List.set_cons_zero]
  have K0 : Below W.heap.size W W.drew := (Below.refl _ _).drew
  generalize W.drew = w0 at *
  refine wpAnyH_ready (rs := [2, 8]) (by kernel_rfl) (by simp) ?_
  refine AllReadyH.cons rfl (fun K hK => ?_) (AllReadyH.cons rfl (fun K hK => ?_) (AllReadyH.nil))
  · go_simp
    go_wp2_with (go_at_call 100; (with_reducible refine (HK.out _).mono ?_); rintro e w1 ⟨rfl, L1⟩)
    have K1 : Below W.heap.size W w1 := K0.trans (L1.mono K0.size)
    refine hK.out _ _ ?_ (fun hHeld2 => ?_)
    · exact HB.out.on K1 hcW
    clear hK K hHeld
    have hHeld := hHeld2
    clear hHeld2
    refine wpAnyH_ready (rs := [5, 8]) (by kernel_rfl) (by simp) ?_
    refine AllReadyH.cons rfl (fun K hK => ?_) (AllReadyH.cons rfl (fun K hK => ?_) (AllReadyH.nil))
    · go_simp
      go_wp2_with (go_at_call 100; (with_reducible refine (HK.out _).mono ?_); rintro e w2 ⟨rfl, L2⟩)
      have K2 : Below W.heap.size W w2 := K1.trans (L2.mono K1.size)
      refine hK.out _ _ ?_ (fun hHeld2 => ?_)
      · exact HB.out.on K2 hcW
      clear hK K hHeld
      have hHeld := hHeld2
      clear hHeld2
      refine wpAnyH_ready (rs := [6, 8]) (by kernel_rfl) (by simp) ?_
      refine AllReadyH.cons rfl (fun K hK => ?_) (AllReadyH.cons rfl (fun K hK => ?_) (AllReadyH.nil))
      · rw [if_pos (by kernel_rfl)]
        have hlk3 := HL.out _ (join_below HN.out K2)
        refine wp_look _ _ rfl _ _ _ rfl rfl hlk3 ?_
        try simp only [Act.put, List.getElem_toArray, List.getElem_cons_succ, List.getElem_cons_zero, List.setIfInBounds_toArray, List.set_cons_succ, List.set_cons_zero]
        refine hK.out _ _ ?_ (fun hHeld2 => ?_)
        · exact HB.out.on K2 hcW
        clear hK K hHeld
        have hHeld := hHeld2
        clear hHeld2
        refine wpAnyH_ready (rs := [8]) (by kernel_rfl) (by simp) ?_
        refine AllReadyH.cons rfl (fun K hK => ?_) (AllReadyH.nil)
        go_simp
        have K4 : Below W.heap.size W (w2.alloc (.cells #[.int .i64 p.tr, .int .i64 p.dy, .int .i64 p.co, .int .i64 p.se, .int .i64 p.ba, .int .i64 p.be, .int .i64 p.od] 81)) := K2.alloc K2.size _
        have m4 := heap_new w2 (.cells #[.int .i64 p.tr, .int .i64 p.dy, .int .i64 p.co, .int .i64 p.se, .int .i64 p.ba, .int .i64 p.be, .int .i64 p.od] 81)
        refine hK.out _ _ ?_ (fun hHeld2 => ?_)
        · exact HB.out.on K4 hcW
        clear hK K hHeld
        have hHeld := hHeld2
        clear hHeld2
        obtain ⟨ad, had⟩ : ∃ ad, w2.heap.size = ad := ⟨_, rfl⟩
        rw [had] at m4
        try rw [had]
        clear had
        generalize w2.alloc (.cells #[.int .i64 p.tr, .int .i64 p.dy, .int .i64 p.co, .int .i64 p.se, .int .i64 p.ba, .int .i64 p.be, .int .i64 p.od] 81) = w4 at *
        refine wpAnyH_ready (rs := [9]) (by kernel_rfl) (by simp) ?_
        refine AllReadyH.cons rfl (fun K hK => ?_) (AllReadyH.nil)
        rw [if_pos (by kernel_rfl)]
        have O9 := own_below HO.out (join_below HN.out K4) (Nat.le_refl _)
        refine wp_append_at _ _ 32 rfl B 81 i0 (lgV ⟨0, 0, 0, 0, 0, 0, 0⟩) 7 56 Tryz.underlying32 hi hz0 hz1 hz2 rfl (by omega) _ _ _ rfl O9 ⟨ad, 0, none⟩ 1 1 (hc1 p) rfl rfl (seven_at m4) (by simp [hc1, Value.oneCell', Value.cells]) (by unfold maxLen; omega) (by omega) (by have h2 := (HN.out).size; have h3 := (K4).size; omega) ?_
        intro v' w9 O10 G9 hl9
        obtain ⟨HC9, es', clock', hst, M', LB, HC10⟩ := HST.out _ _ _ (join_below HN.out K4) O10 G9 hl9
        clear O9 O10 G9 hl9
        have hcc : w.heap.size < w4.heap.size := Nat.lt_of_lt_of_le hcW (K4).size
        refine hK.out _ _ ?_ (fun hHeld2 => ?_)
        · exact (HB.out.on K4 hcW).blk (HC9 _ (Nat.le_refl _) hcc)
        clear hK K hHeld
        have hHeld := hHeld2
        clear hHeld2
        refine wpAnyH_ready (rs := [10]) (by kernel_rfl) (by simp) ?_
        refine AllReadyH.cons rfl (fun K hK => ?_) AllReadyH.nil
        rw [if_pos (by kernel_rfl)]
        refine wp_upd _ _ _ rfl _ _ _ rfl rfl rfl hst ?_
        refine hK.out _ _ ?_ (fun hHeld2 => ?_)
        · exact (HB.out.on K4 hcW).blk (HC10 _ (Nat.le_refl _) hcc)
        clear hK K hHeld hst HC9 HC10
        refine wpAnyH_done (by kernel_rfl) ?_ _
        go_wp2
        go_end0
        exact ⟨rfl, ⟨es', clock', M'⟩, LB⟩
      · go_simp
        have K6 : Below W.heap.size W (w2.alloc (.cells #[.int .i64 p.tr, .int .i64 p.dy, .int .i64 p.co, .int .i64 p.se, .int .i64 p.ba, .int .i64 p.be, .int .i64 p.od] 81)) := K2.alloc K2.size _
        have m6 := heap_new w2 (.cells #[.int .i64 p.tr, .int .i64 p.dy, .int .i64 p.co, .int .i64 p.se, .int .i64 p.ba, .int .i64 p.be, .int .i64 p.od] 81)
        refine hK.out _ _ ?_ (fun hHeld2 => ?_)
        · exact HB.out.on K6 hcW
        clear hK K hHeld
        have hHeld := hHeld2
        clear hHeld2
        obtain ⟨ad, had⟩ : ∃ ad, w2.heap.size = ad := ⟨_, rfl⟩
        rw [had] at m6
        try rw [had]
        clear had
        generalize w2.alloc (.cells #[.int .i64 p.tr, .int .i64 p.dy, .int .i64 p.co, .int .i64 p.se, .int .i64 p.ba, .int .i64 p.be, .int .i64 p.od] 81) = w6 at *
        refine wpAnyH_ready (rs := [6]) (by kernel_rfl) (by simp) ?_
        refine AllReadyH.cons rfl (fun K hK => ?_) (AllReadyH.nil)
        rw [if_pos (by kernel_rfl)]
        have hlk7 := HL.out _ (join_below HN.out K6)
        refine wp_look _ _ rfl _ _ _ rfl rfl hlk7 ?_
        try simp only [Act.put, List.getElem_toArray, List.getElem_cons_succ, List.getElem_cons_zero, List.setIfInBounds_toArray, List.set_cons_succ, List.set_cons_zero]
        refine hK.out _ _ ?_ (fun hHeld2 => ?_)
        · exact HB.out.on K6 hcW
        clear hK K hHeld
        have hHeld := hHeld2
        clear hHeld2
        refine wpAnyH_ready (rs := [9]) (by kernel_rfl) (by simp) ?_
        refine AllReadyH.cons rfl (fun K hK => ?_) (AllReadyH.nil)
        rw [if_pos (by kernel_rfl)]
        have O9 := own_below HO.out (join_below HN.out K6) (Nat.le_refl _)
        refine wp_append_at _ _ 32 rfl B 81 i0 (lgV ⟨0, 0, 0, 0, 0, 0, 0⟩) 7 56 Tryz.underlying32 hi hz0 hz1 hz2 rfl (by omega) _ _ _ rfl O9 ⟨ad, 0, none⟩ 1 1 (hc1 p) rfl rfl (seven_at m6) (by simp [hc1, Value.oneCell', Value.cells]) (by unfold maxLen; omega) (by omega) (by have h2 := (HN.out).size; have h3 := (K6).size; omega) ?_
        intro v' w9 O10 G9 hl9
        obtain ⟨HC9, es', clock', hst, M', LB, HC10⟩ := HST.out _ _ _ (join_below HN.out K6) O10 G9 hl9
        clear O9 O10 G9 hl9
        have hcc : w.heap.size < w6.heap.size := Nat.lt_of_lt_of_le hcW (K6).size
        refine hK.out _ _ ?_ (fun hHeld2 => ?_)
        · exact (HB.out.on K6 hcW).blk (HC9 _ (Nat.le_refl _) hcc)
        clear hK K hHeld
        have hHeld := hHeld2
        clear hHeld2
        refine wpAnyH_ready (rs := [10]) (by kernel_rfl) (by simp) ?_
        refine AllReadyH.cons rfl (fun K hK => ?_) AllReadyH.nil
        rw [if_pos (by kernel_rfl)]
        refine wp_upd _ _ _ rfl _ _ _ rfl rfl rfl hst ?_
        refine hK.out _ _ ?_ (fun hHeld2 => ?_)
        · exact (HB.out.on K6 hcW).blk (HC10 _ (Nat.le_refl _) hcc)
        clear hK K hHeld hst HC9 HC10
        refine wpAnyH_done (by kernel_rfl) ?_ _
        go_wp2
        go_end0
        exact ⟨rfl, ⟨es', clock', M'⟩, LB⟩
    · go_simp
      have K9 : Below W.heap.size W (w1.alloc (.cells #[.int .i64 p.tr, .int .i64 p.dy, .int .i64 p.co, .int .i64 p.se, .int .i64 p.ba, .int .i64 p.be, .int .i64 p.od] 81)) := K1.alloc K1.size _
      have m9 := heap_new w1 (.cells #[.int .i64 p.tr, .int .i64 p.dy, .int .i64 p.co, .int .i64 p.se, .int .i64 p.ba, .int .i64 p.be, .int .i64 p.od] 81)
      refine hK.out _ _ ?_ (fun hHeld2 => ?_)
      · exact HB.out.on K9 hcW
      clear hK K hHeld
      have hHeld := hHeld2
      clear hHeld2
      obtain ⟨ad, had⟩ : ∃ ad, w1.heap.size = ad := ⟨_, rfl⟩
      rw [had] at m9
      try rw [had]
      clear had
      generalize w1.alloc (.cells #[.int .i64 p.tr, .int .i64 p.dy, .int .i64 p.co, .int .i64 p.se, .int .i64 p.ba, .int .i64 p.be, .int .i64 p.od] 81) = w9 at *
      refine wpAnyH_ready (rs := [5]) (by kernel_rfl) (by simp) ?_
      refine AllReadyH.cons rfl (fun K hK => ?_) (AllReadyH.nil)
      go_simp
      go_wp2_with (go_at_call 100; (with_reducible refine (HK.out _).mono ?_); rintro e w10 ⟨rfl, L10⟩)
      have K10 : Below W.heap.size W w10 := K9.trans (L10.mono K9.size)
      have m10 := kept L10 (lt_of m9) m9
      refine hK.out _ _ ?_ (fun hHeld2 => ?_)
      · exact HB.out.on K10 hcW
      clear hK K hHeld
      have hHeld := hHeld2
      clear hHeld2
      refine wpAnyH_ready (rs := [6]) (by kernel_rfl) (by simp) ?_
      refine AllReadyH.cons rfl (fun K hK => ?_) (AllReadyH.nil)
      rw [if_pos (by kernel_rfl)]
      have hlk11 := HL.out _ (join_below HN.out K10)
      refine wp_look _ _ rfl _ _ _ rfl rfl hlk11 ?_
      try simp only [Act.put, List.getElem_toArray, List.getElem_cons_succ, List.getElem_cons_zero, List.setIfInBounds_toArray, List.set_cons_succ, List.set_cons_zero]
      refine hK.out _ _ ?_ (fun hHeld2 => ?_)
      · exact HB.out.on K10 hcW
      clear hK K hHeld
      have hHeld := hHeld2
      clear hHeld2
      refine wpAnyH_ready (rs := [9]) (by kernel_rfl) (by simp) ?_
      refine AllReadyH.cons rfl (fun K hK => ?_) (AllReadyH.nil)
      rw [if_pos (by kernel_rfl)]
      have O9 := own_below HO.out (join_below HN.out K10) (Nat.le_refl _)
      refine wp_append_at _ _ 32 rfl B 81 i0 (lgV ⟨0, 0, 0, 0, 0, 0, 0⟩) 7 56 Tryz.underlying32 hi hz0 hz1 hz2 rfl (by omega) _ _ _ rfl O9 ⟨ad, 0, none⟩ 1 1 (hc1 p) rfl rfl (seven_at m10) (by simp [hc1, Value.oneCell', Value.cells]) (by unfold maxLen; omega) (by omega) (by have h2 := (HN.out).size; have h3 := (K10).size; omega) ?_
      intro v' w9 O10 G9 hl9
      obtain ⟨HC9, es', clock', hst, M', LB, HC10⟩ := HST.out _ _ _ (join_below HN.out K10) O10 G9 hl9
      clear O9 O10 G9 hl9
      have hcc : w.heap.size < w10.heap.size := Nat.lt_of_lt_of_le hcW (K10).size
      refine hK.out _ _ ?_ (fun hHeld2 => ?_)
      · exact (HB.out.on K10 hcW).blk (HC9 _ (Nat.le_refl _) hcc)
      clear hK K hHeld
      have hHeld := hHeld2
      clear hHeld2
      refine wpAnyH_ready (rs := [10]) (by kernel_rfl) (by simp) ?_
      refine AllReadyH.cons rfl (fun K hK => ?_) AllReadyH.nil
      rw [if_pos (by kernel_rfl)]
      refine wp_upd _ _ _ rfl _ _ _ rfl rfl rfl hst ?_
      refine hK.out _ _ ?_ (fun hHeld2 => ?_)
      · exact (HB.out.on K10 hcW).blk (HC10 _ (Nat.le_refl _) hcc)
      clear hK K hHeld hst HC9 HC10
      refine wpAnyH_done (by kernel_rfl) ?_ _
      go_wp2
      go_end0
      exact ⟨rfl, ⟨es', clock', M'⟩, LB⟩
  · go_simp
    have K13 : Below W.heap.size W (w0.alloc (.cells #[.int .i64 p.tr, .int .i64 p.dy, .int .i64 p.co, .int .i64 p.se, .int .i64 p.ba, .int .i64 p.be, .int .i64 p.od] 81)) := K0.alloc K0.size _
    have m13 := heap_new w0 (.cells #[.int .i64 p.tr, .int .i64 p.dy, .int .i64 p.co, .int .i64 p.se, .int .i64 p.ba, .int .i64 p.be, .int .i64 p.od] 81)
    refine hK.out _ _ ?_ (fun hHeld2 => ?_)
    · exact HB.out.on K13 hcW
    clear hK K hHeld
    have hHeld := hHeld2
    clear hHeld2
    obtain ⟨ad, had⟩ : ∃ ad, w0.heap.size = ad := ⟨_, rfl⟩
    rw [had] at m13
    try rw [had]
    clear had
    generalize w0.alloc (.cells #[.int .i64 p.tr, .int .i64 p.dy, .int .i64 p.co, .int .i64 p.se, .int .i64 p.ba, .int .i64 p.be, .int .i64 p.od] 81) = w13 at *
    refine wpAnyH_ready (rs := [2]) (by kernel_rfl) (by simp) ?_
    refine AllReadyH.cons rfl (fun K hK => ?_) (AllReadyH.nil)
    go_simp
    go_wp2_with (go_at_call 100; (with_reducible refine (HK.out _).mono ?_); rintro e w14 ⟨rfl, L14⟩)
    have K14 : Below W.heap.size W w14 := K13.trans (L14.mono K13.size)
    have m14 := kept L14 (lt_of m13) m13
    refine hK.out _ _ ?_ (fun hHeld2 => ?_)
    · exact HB.out.on K14 hcW
    clear hK K hHeld
    have hHeld := hHeld2
    clear hHeld2
    refine wpAnyH_ready (rs := [5]) (by kernel_rfl) (by simp) ?_
    refine AllReadyH.cons rfl (fun K hK => ?_) (AllReadyH.nil)
    go_simp
    go_wp2_with (go_at_call 100; (with_reducible refine (HK.out _).mono ?_); rintro e w15 ⟨rfl, L15⟩)
    have K15 : Below W.heap.size W w15 := K14.trans (L15.mono K14.size)
    have m15 := kept L15 (lt_of m14) m14
    refine hK.out _ _ ?_ (fun hHeld2 => ?_)
    · exact HB.out.on K15 hcW
    clear hK K hHeld
    have hHeld := hHeld2
    clear hHeld2
    refine wpAnyH_ready (rs := [6]) (by kernel_rfl) (by simp) ?_
    refine AllReadyH.cons rfl (fun K hK => ?_) (AllReadyH.nil)
    rw [if_pos (by kernel_rfl)]
    have hlk16 := HL.out _ (join_below HN.out K15)
    refine wp_look _ _ rfl _ _ _ rfl rfl hlk16 ?_
    try simp only [Act.put, List.getElem_toArray, List.getElem_cons_succ, List.getElem_cons_zero, List.setIfInBounds_toArray, List.set_cons_succ, List.set_cons_zero]
    refine hK.out _ _ ?_ (fun hHeld2 => ?_)
    · exact HB.out.on K15 hcW
    clear hK K hHeld
    have hHeld := hHeld2
    clear hHeld2
    refine wpAnyH_ready (rs := [9]) (by kernel_rfl) (by simp) ?_
    refine AllReadyH.cons rfl (fun K hK => ?_) (AllReadyH.nil)
    rw [if_pos (by kernel_rfl)]
    have O9 := own_below HO.out (join_below HN.out K15) (Nat.le_refl _)
    refine wp_append_at _ _ 32 rfl B 81 i0 (lgV ⟨0, 0, 0, 0, 0, 0, 0⟩) 7 56 Tryz.underlying32 hi hz0 hz1 hz2 rfl (by omega) _ _ _ rfl O9 ⟨ad, 0, none⟩ 1 1 (hc1 p) rfl rfl (seven_at m15) (by simp [hc1, Value.oneCell', Value.cells]) (by unfold maxLen; omega) (by omega) (by have h2 := (HN.out).size; have h3 := (K15).size; omega) ?_
    intro v' w9 O10 G9 hl9
    obtain ⟨HC9, es', clock', hst, M', LB, HC10⟩ := HST.out _ _ _ (join_below HN.out K15) O10 G9 hl9
    clear O9 O10 G9 hl9
    have hcc : w.heap.size < w15.heap.size := Nat.lt_of_lt_of_le hcW (K15).size
    refine hK.out _ _ ?_ (fun hHeld2 => ?_)
    · exact (HB.out.on K15 hcW).blk (HC9 _ (Nat.le_refl _) hcc)
    clear hK K hHeld
    have hHeld := hHeld2
    clear hHeld2
    refine wpAnyH_ready (rs := [10]) (by kernel_rfl) (by simp) ?_
    refine AllReadyH.cons rfl (fun K hK => ?_) AllReadyH.nil
    rw [if_pos (by kernel_rfl)]
    refine wp_upd _ _ _ rfl _ _ _ rfl rfl rfl hst ?_
    refine hK.out _ _ ?_ (fun hHeld2 => ?_)
    · exact (HB.out.on K15 hcW).blk (HC10 _ (Nat.le_refl _) hcc)
    clear hK K hHeld hst HC9 HC10
    refine wpAnyH_done (by kernel_rfl) ?_ _
    go_wp2
    go_end0
    exact ⟨rfl, ⟨es', clock', M'⟩, LB⟩


end Se
end Go.Proofs.YtehmlnojjfeheaaGreat

/- The program's isFree, holdsBySeat and HoldsOk. -/
namespace Go.Proofs.YtehmlnojjfeheaaGreat
namespace Se
open Go.ChangeShapes Go.WideShapes Go.ChangeAt Go.RowKit
open Pk (new_below join_below cell_at heap_new frozen_at lt_of kept heap_old Drawn info_of own_form own_below Room)
set_option linter.unusedSimpArgs false
set_option linter.unusedVariables false

open Go.ChangeMaps (setBlock)

theorem pred_val (p q : Hl) (B : Nat) (w : World) (hB : B < w.heap.size) (hc : Bx w B p) :
    Calls Tryz.prog 104 #[lgV q, .pointer (some ⟨B, 0, none⟩)] w fun e w' => e = .returned (.bool (meetB p q)) ∧ Below w.heap.size w w' := by
  have N := new_below w (.cells #[.int .i64 q.tr, .int .i64 q.dy, .int .i64 q.co, .int .i64 q.se, .int .i64 q.ba, .int .i64 q.be, .int .i64 q.od] 81)
  obtain ⟨x0, x1, x2, x3, x4, x5, x6⟩ := hc.on N hB
  have HM : Hid (∀ w, _) := fun w => implMeet_val p q w
  clear hc
  go_enter Tryz.func104, Tryz.ntmps104
  go_wp2_with fail
  refine (HM.out _).mono ?_
  rintro e w1 ⟨rfl, L1⟩
  go_wp2
  go_ret
  exact ⟨rfl, join_below N L1⟩

set_option maxHeartbeats 1000000 in
theorem indexFunc_val (B : Nat) (p : Hl) (a : Option Addr) (l : List Hl) (cap : Nat) (w : World) (hl : l.length ≤ maxLen) (hB : B < w.heap.size) (hc : Bx w B p) (I : Holds w a l) :
    Calls Tryz.prog 115 #[.slice a l.length cap, .func (.func 104) #[] #[.pointer (some ⟨B, 0, none⟩)]] w fun e w' => (∃ r : Int, e = .returned (.int .i64 r) ∧ Hid (decide (0 ≤ r) = !freeB l p)) ∧ Below w.heap.size w w' := by
  unfold maxLen at hl
  go_enter Tryz.func115, Tryz.ntmps115
  go_wp2
  go_loopw [8] (fun i wr => ∃ k : Nat, k ≤ l.length ∧ i = .int .i64 k ∧ Below w.heap.size w wr ∧ Hid (∀ i (hi : i < l.length), i < k → meetB p l[i] = false)) (fun i _ => l.length - (intOf i).toNat)
  case atStart => exact ⟨0, by omega, rfl, Below.refl _ _, fun i _ h => by omega⟩
  case round =>
    obtain ⟨k, hk, rfl, L, H⟩ := hrel
    by_cases hkn : k < l.length
    · obtain ⟨b, o, rfl, hlt, c0, c1, c2, c3, c4, c5, c6⟩ := (I.on L).at k hkn
      have hB1 : B < wr.heap.size := Nat.lt_of_lt_of_le hB L.size
      have HC : Hid (_) := hc.on L hB
      have HM : Hid (∀ w, _ → _ → _) := fun w => pred_val p l[k] B w
      by_cases e : meetB p l[k] = true
      · rw [e] at HM
        have HE : Hid (decide (0 ≤ (k : Int)) = !freeB l p) := by
          have h1 := free_no (i := l.length) hkn hkn e
          rw [List.take_length] at h1
          show _ = _
          rw [h1]
          simp
        clear e H
        generalize l[k] = q at *
        go_wp2_with fail
        refine (HM.out _ hB1 HC.out).mono ?_
        rintro e w1 ⟨rfl, L1⟩
        have L2 := join_below L L1
        go_wp2
        go_ret
        exact ⟨⟨_, rfl, HE⟩, L2⟩
      · have e : meetB p l[k] = false := Bool.eq_false_iff.2 e
        rw [e] at HM
        have HE : Hid (∀ i (hi : i < l.length), i < k + 1 → meetB p l[i] = false) := by
          intro i hi hik
          by_cases h : i = k
          · subst h; exact e
          · exact H.out i hi (by omega)
        clear e H
        generalize l[k] = q at *
        go_wp2_with fail
        refine (HM.out _ hB1 HC.out).mono ?_
        rintro e w1 ⟨rfl, L1⟩
        have L2 := join_below L L1
        go_wp2
        go_roundw
        case rel => exact ⟨k + 1, by omega, by go_num, L2, HE⟩
        case measure => simp [intOf]; omega
    · have HE : Hid (decide (0 ≤ (-1 : Int)) = !freeB l p) := by
        have h1 := free_yes (l := l) (h := p) (i := l.length) fun i hi h => H.out i hi (by omega)
        rw [List.take_length] at h1
        show _ = _
        rw [h1]
        simp
      clear H
      go_wp2
      go_ret
      exact ⟨⟨_, rfl, HE⟩, L⟩

theorem contains_val (B : Nat) (p : Hl) (a : Option Addr) (l : List Hl) (cap : Nat) (w : World) (hl : l.length ≤ maxLen) (hB : B < w.heap.size) (hc : Bx w B p) (I : Holds w a l) :
    Calls Tryz.prog 103 #[.slice a l.length cap, .func (.func 104) #[] #[.pointer (some ⟨B, 0, none⟩)]] w fun e w' => e = .returned (.bool (!freeB l p)) ∧ Below w.heap.size w w' := by
  have HC := indexFunc_val B p a l cap w hl hB hc I
  generalize l.length = n at *
  go_enter Tryz.func103, Tryz.ntmps103
  go_wp2_with fail
  refine HC.mono ?_
  rintro e w1 ⟨⟨r, rfl, H⟩, L1⟩
  go_wp2
  go_ret
  exact ⟨by rw [← H.out] <;> rfl, L1⟩

theorem isFree_val (B b : Nat) (f : Ky → List Hl) (es : Array MapEntry) (clock : Nat) (p : Hl) (w : World) (hk : Wf p) (hn : (f (key p)).length ≤ maxLen) (M : Mp B b f es clock w) :
    Calls Tryz.prog 83 #[.map (some b), lgV p] w fun e w' => e = .returned (.bool (freeB (f (key p)) p)) ∧ Below w.heap.size w w' := by
  obtain ⟨v0, hl0, O0, -⟩ := M.look (key p) hk.key
  obtain ⟨va, vc, rfl, I0⟩ := own_holds O0
  have N := new_below w (.cells #[.int .i64 p.tr, .int .i64 p.dy, .int .i64 p.co, .int .i64 p.se, .int .i64 p.ba, .int .i64 p.be, .int .i64 p.od] 81)
  have HB : Hid (Bx (w.alloc (.cells #[.int .i64 p.tr, .int .i64 p.dy, .int .i64 p.co, .int .i64 p.se, .int .i64 p.ba, .int .i64 p.be, .int .i64 p.od] 81)) w.heap.size p) := Bx.of (heap_new _ _)
  have hcW : w.heap.size < (w.alloc (.cells #[.int .i64 p.tr, .int .i64 p.dy, .int .i64 p.co, .int .i64 p.se, .int .i64 p.ba, .int .i64 p.be, .int .i64 p.od] 81)).heap.size := by simp
  have HK : Hid (∀ w, _) := fun w => key_val p w
  have HL : Hid (∀ w1, Below w.heap.size w w1 → (Instr.lookup 129 (.map (some b)) (.agg #[.int .i64 p.tr, .int .i64 p.dy, .int .i64 p.co, .int .i64 p.se]) false).run Tryz.prog w1 = .ok _ w1) := fun w1 L => hl0 w1 (kept L (lt_of M.blk) M.blk)
  have HC : Hid (∀ w1, Below w.heap.size w w1 → w.heap.size < w1.heap.size → Bx w1 w.heap.size p → Calls Tryz.prog 103 #[.slice va (f (key p)).length vc, .func (.func 104) #[] #[.pointer (some ⟨w.heap.size, 0, none⟩)]] w1 fun e w' => e = .returned (.bool (!freeB (f (key p)) p)) ∧ Below w1.heap.size w1 w') := fun w1 L h1 h2 => contains_val w.heap.size p va (f (key p)) vc w1 hn h1 h2 (I0.on L)
  clear hl0 O0 M I0 hn
  generalize (f (key p)).length = n at *
  generalize freeB (f (key p)) p = R at *
  generalize hW : w.alloc (.cells #[.int .i64 p.tr, .int .i64 p.dy, .int .i64 p.co, .int .i64 p.se, .int .i64 p.ba, .int .i64 p.be, .int .i64 p.od] 81) = W at *
  have HW : Hid (_) := hW
  clear hW
  go_enter Tryz.func83, Tryz.ntmps83
  go_wp2_with fail
  rw [HW.out]
  obtain ⟨x0, x1, x2, x3, x4, x5, x6⟩ := HB.out
  go_wp2_with fail
  refine (HK.out _).mono ?_
  rintro e w1 ⟨rfl, L1⟩
  have L2 := join_below N L1
  have hlk := HL.out w1 L2
  go_wp2_with fail
  refine (HC.out _ L2 (Nat.lt_of_lt_of_le hcW L1.size) (HB.out.on L1 hcW)).mono ?_
  rintro e w2 ⟨rfl, L3⟩
  go_wp2
  go_ret
  exact ⟨by simp, join_below L2 L3⟩

/-- The holds of a list by their seats. -/
def grp (l : List Hl) (k : Ky) : List Hl := l.filter fun q => decide (key q = k)

theorem grp_nil : grp [] = fun _ => [] := rfl

theorem grp_more (l : List Hl) (p : Hl) : more (grp l) (key p) p = grp (l ++ [p]) := by
  funext k
  unfold grp
  by_cases e : k = key p
  · subst e
    rw [more_same]
    simp [List.filter_append]
  · rw [more_other _ _ _ _ e]
    have : ¬ key p = k := fun h => e h.symm
    simp [List.filter_append, this]

theorem grp_le (l : List Hl) (k : Ky) : (grp l k).length ≤ l.length := List.length_filter_le _ _

theorem free_grp (l : List Hl) (p : Hl) : freeB (grp l (key p)) p = freeB l p := by
  unfold freeB grp
  rw [List.all_filter]
  congr 1
  funext q
  unfold meetB
  by_cases h : key q = key p
  · simp [h]
  · have h2 : ¬ key p = key q := fun e => h e.symm
    simp [h, h2]

theorem Wfs.take {l : List Hl} (h : Wfs l) (k : Nat) (hk : k < l.length) : Wf l[k] := h _ (List.getElem_mem hk)

theorem mk_map (w : World) : (Instr.makeMap 129 none).run Tryz.prog w = .ok (.map (some w.heap.size)) (w.alloc (.map #[] 0)) := by simp [Instr.makeMap, go_sem]

set_option maxRecDepth 100000 in
set_option maxHeartbeats 4000000 in
theorem implHolds_val (a : Option Addr) (l : List Hl) (cap : Nat) (w : World) (hl : l.length ≤ maxLen) (I : Holds w a l) (hwf : Wfs l) :
    Calls Tryz.prog 52 #[.slice a l.length cap] w fun e w' => e = .returned (.bool (holdsB l)) ∧ Below w.heap.size w w' := by
  unfold maxLen at hl
  by_cases h4 : l.length ≤ 400
  · have HBB : Hid (holdsB l = okR (l.take 0) (l.drop 0)) := by simp [holdsB, h4, Hid]
    have d4 : decide (400 < (l.length : Int)) = false := decide_eq_false (by omega)
    have hmk := mk_map
    have M0 := mp_new (w.heap.size + 1) w
    have N := new_below w (.map #[] 0)
    have hs : w.heap.size < (w.alloc (.map #[] 0)).heap.size := by simp
    clear hl
    go_enter Tryz.func52, Tryz.ntmps52
    go_wp2
    generalize w.alloc (.map #[] 0) = W at *
    go_loopw [12] (fun i wr => ∃ k : Nat, k ≤ l.length ∧ i = .int .i64 k ∧ Below w.heap.size w wr ∧ w.heap.size < wr.heap.size ∧ Hid (∃ es clock, Mp (w.heap.size + 1) w.heap.size (grp (l.take k)) es clock wr) ∧ Hid (holdsB l = okR (l.take k) (l.drop k))) (fun i _ => l.length - (intOf i).toNat)
    case atStart => exact ⟨0, by omega, rfl, N, hs, ⟨_, _, M0⟩, HBB⟩
    case round =>
      obtain ⟨k, hk, rfl, L, hz, HM, HO⟩ := hrel
      by_cases hkn : k < l.length
      · obtain ⟨b, o, rfl, hlt, c0, c1, c2, c3, c4, c5, c6⟩ := (I.on L).at k hkn
        have HT : Hid (_) := HO.out.trans (okR_step l k hkn)
        obtain ⟨es, clock, M⟩ := HM.out
        have hw := hwf.take k hkn
        have HE : Hid (more (grp (l.take k)) (key l[k]) l[k] = grp (l.take (k + 1))) := by
          show _ = _
          rw [grp_more, List.take_succ_eq_append_getElem hkn]
        have HG : Hid ((grp (l.take k) (key l[k])).length ≤ 1048576) := by
          have h1 := grp_le (l.take k) (key l[k])
          rw [List.length_take] at h1
          show _ ≤ _
          omega
        have HF : Hid (freeB (grp (l.take k) (key l[k])) l[k] = freeB (l.take k) l[k]) := free_grp _ _
        clear HO HM HBB M0
        generalize l[k] = p at *
        have N2 := new_below wr (.cells #[.int .i64 p.tr, .int .i64 p.dy, .int .i64 p.co, .int .i64 p.se, .int .i64 p.ba, .int .i64 p.be, .int .i64 p.od] 81)
        have HB : Hid (Bx (wr.alloc (.cells #[.int .i64 p.tr, .int .i64 p.dy, .int .i64 p.co, .int .i64 p.se, .int .i64 p.ba, .int .i64 p.be, .int .i64 p.od] 81)) wr.heap.size p) := Bx.of (heap_new _ _)
        have hbz : wr.heap.size < (wr.alloc (.cells #[.int .i64 p.tr, .int .i64 p.dy, .int .i64 p.co, .int .i64 p.se, .int .i64 p.ba, .int .i64 p.be, .int .i64 p.od] 81)).heap.size := by simp
        have L2 := join_below L N2
        have M2 := M.on N2
        have hz2 : w.heap.size < (wr.alloc (.cells #[.int .i64 p.tr, .int .i64 p.dy, .int .i64 p.co, .int .i64 p.se, .int .i64 p.ba, .int .i64 p.be, .int .i64 p.od] 81)).heap.size := by omega
        have HK : Hid (∀ w, _) := fun w => holdOk_val p w
        have HFR : Hid (∀ wx, Below (wr.alloc (.cells #[.int .i64 p.tr, .int .i64 p.dy, .int .i64 p.co, .int .i64 p.se, .int .i64 p.ba, .int .i64 p.be, .int .i64 p.od] 81)).heap.size (wr.alloc (.cells #[.int .i64 p.tr, .int .i64 p.dy, .int .i64 p.co, .int .i64 p.se, .int .i64 p.ba, .int .i64 p.be, .int .i64 p.od] 81)) wx → Calls Tryz.prog 83 #[.map (some w.heap.size), lgV p] wx fun e w' => e = .returned (.bool (freeB (l.take k) p)) ∧ Below wx.heap.size wx w') := by
          intro wx Lx
          rw [← HF.out]
          exact isFree_val _ _ _ _ _ p wx hw (by have := HG.out; unfold maxLen; omega) (M2.on Lx)
        have HAD : Hid (∀ wx, Below (wr.alloc (.cells #[.int .i64 p.tr, .int .i64 p.dy, .int .i64 p.co, .int .i64 p.se, .int .i64 p.ba, .int .i64 p.be, .int .i64 p.od] 81)).heap.size (wr.alloc (.cells #[.int .i64 p.tr, .int .i64 p.dy, .int .i64 p.co, .int .i64 p.se, .int .i64 p.ba, .int .i64 p.be, .int .i64 p.od] 81)) wx → Calls Tryz.prog 84 #[.map (some w.heap.size), lgV p] wx fun e w' => e = .returned (.tuple #[]) ∧ (∃ es' clock', Mp (w.heap.size + 1) w.heap.size (grp (l.take (k + 1))) es' clock' w') ∧ Below w.heap.size wx w') := by
          intro wx Lx
          rw [← HE.out]
          exact add_val _ _ _ _ _ p wx hw HG.out (by omega) (Nat.le_trans hz2 Lx.size) (M2.on Lx)
        clear M HG HE hw HF M2
        by_cases hh : holdB p = true
        · rw [hh] at HK
          have HT2 : Hid (holdsB l = (freeB (l.take k) p && okR (l.take (k + 1)) (l.drop (k + 1)))) := by
            have := HT.out
            rw [hh, Bool.true_and] at this
            exact this
          clear HT hh
          by_cases hf : freeB (l.take k) p = true
          · rw [hf] at HFR
            have HT3 : Hid (holdsB l = okR (l.take (k + 1)) (l.drop (k + 1))) := by
              have := HT2.out
              rw [hf, Bool.true_and] at this
              exact this
            clear HT2 hf
            go_wp2_with fail
            refine (HK.out _).mono ?_
            rintro e w3 ⟨rfl, L3⟩
            obtain ⟨x0, x1, x2, x3, x4, x5, x6⟩ := HB.out.on L3 hbz
            go_wp2_with fail
            refine (HFR.out _ L3).mono ?_
            rintro e w4 ⟨rfl, L4⟩
            have L5 := join_below L3 L4
            clear x0 x1 x2 x3 x4 x5 x6
            obtain ⟨x0, x1, x2, x3, x4, x5, x6⟩ := HB.out.on L5 hbz
            go_wp2_with fail
            refine (HAD.out _ L5).mono ?_
            rintro e w6 ⟨rfl, HM6, L6⟩
            have HM7 : Hid (_) := HM6
            have L7 := (join_below L2 L5).trans L6
            have hz7 : w.heap.size < w6.heap.size := by have := L5.size; have := L6.size; omega
            clear HM6 HFR HAD HK L3 L4 L5 L6 HB x0 x1 x2 x3 x4 x5 x6
            go_wp2
            go_roundw
            case rel => exact ⟨k + 1, by omega, by go_num, L7, hz7, HM7, HT3⟩
            case measure => simp [intOf]; omega
          · have hf : freeB (l.take k) p = false := Bool.eq_false_iff.2 hf
            rw [hf] at HFR
            have HV : Hid (holdsB l = false) := by
              have := HT2.out
              rw [hf, Bool.false_and] at this
              exact this
            clear HT2 hf
            go_wp2_with fail
            refine (HK.out _).mono ?_
            rintro e w3 ⟨rfl, L3⟩
            obtain ⟨x0, x1, x2, x3, x4, x5, x6⟩ := HB.out.on L3 hbz
            go_wp2_with fail
            refine (HFR.out _ L3).mono ?_
            rintro e w4 ⟨rfl, L4⟩
            have L5 := join_below L3 L4
            go_wp2
            go_ret
            exact ⟨by rw [HV.out] <;> rfl, join_below L2 L5⟩
        · have hh : holdB p = false := Bool.eq_false_iff.2 hh
          rw [hh] at HK
          have HV : Hid (holdsB l = false) := by
            have := HT.out
            rw [hh, Bool.false_and] at this
            exact this
          clear HT hh HFR HAD
          go_wp2_with fail
          refine (HK.out _).mono ?_
          rintro e w3 ⟨rfl, L3⟩
          go_wp2
          go_ret
          exact ⟨by rw [HV.out] <;> rfl, join_below L2 L3⟩
      · have HV : Hid (holdsB l = true) := HO.out.trans (okR_end l k (by omega))
        go_wp2
        go_ret
        exact ⟨by rw [HV.out] <;> rfl, L⟩
  · have HBB : Hid (holdsB l = false) := by simp [holdsB, h4, Hid]
    have d4 : decide (400 < (l.length : Int)) = true := decide_eq_true (by omega)
    clear h4
    go_enter Tryz.func52, Tryz.ntmps52
    go_wp2
    go_ret
    exact ⟨by rw [HBB.out] <;> rfl, Below.refl _ _⟩

end Se
end Go.Proofs.YtehmlnojjfeheaaGreat

/- Contract of OfficeOk of the program. -/
namespace Go.Proofs.YtehmlnojjfeheaaGreat
namespace Of
open Go.ChangeShapes Go.WideShapes Go.ChangeAt Go.RowKit Go.Joins
open Pk (new_below join_below cell_at heap_new frozen_at lt_of kept heap_old info_of Room)
set_option linter.unusedSimpArgs false
set_option linter.unusedVariables false

open Se (inB in_is in_not)

/-- Whether all holds are of orders that are sold. -/
def heldB (l : List Se.Hl) (d : List Od.Oo) : Bool := l.all fun h => soldB d h.od

theorem held_no {l : List Se.Hl} {d : List Od.Oo} {k : Nat} (hk : k < l.length) (h : soldB d l[k].od = false) : heldB l d = false := by
  cases e : heldB l d
  · rfl
  · exfalso
    unfold heldB at e
    rw [List.all_eq_true] at e
    rw [e _ (List.getElem_mem hk)] at h
    cases h

theorem held_yes {l : List Se.Hl} {d : List Od.Oo} (h : ∀ i (hi : i < l.length), soldB d l[i].od = true) : heldB l d = true := by
  unfold heldB
  rw [List.all_eq_true]
  intro x hx
  obtain ⟨i, hi, rfl⟩ := List.mem_iff_getElem.1 hx
  exact h i hi

/-- Whether an office is right. -/
def offB (o : Offc) : Bool := Tn.linesB o.ln && Tf.tarB o.ta && Se.holdsB o.ho && idsOk o.od && toldOk o.to && heldB o.ho o.od

set_option maxRecDepth 100000 in
set_option maxHeartbeats 4000000 in
theorem implOffice_val (x : Pl) (o : Offc) (w : World) (hl : Lim o) (hz : Small o) (I : In w x o) :
    Calls Tryz.prog 25 #[ofV x o] w fun e w' => e = .returned (.bool (offB o)) ∧ Below w.heap.size w w' := by
  have HL : Hid (Lim o) := hl
  have HZ : Hid (o.to.length ≤ 1048576) := hz.2.2.2.2
  have hho : o.ho.length ≤ 1048576 := hz.2.2.1
  clear hl hz
  have N := new_below w (ofB x o 36)
  have m := heap_new w (ofB x o 36)
  cases h0 : Tn.linesB o.ln
  · have hR : offB o = false := by unfold offB; rw [h0]; simp
    rw [hR]
    clear hR
    go_enter Tryz.func25, Tryz.ntmps25
    go_wp2_with fail
    refine (Tn.implLines_val x.a0 o.ln x.c0 _ HL.out.ln HL.out.st (I.ln.on N)).mono ?_
    rw [h0]
    rintro e v0 ⟨rfl, L0⟩
    have m0 := kept L0 (lt_of m) m
    have N0 := join_below N L0
    clear L0 m
    have c1 : v0.cell? ⟨w.heap.size, 1, none⟩ = some (.slice x.a1 o.ta.length x.c1) := cell_at m0 1
    have c2 : v0.cell? ⟨w.heap.size, 2, none⟩ = some (.slice x.a2 o.ho.length x.c2) := cell_at m0 2
    have c3 : v0.cell? ⟨w.heap.size, 3, none⟩ = some (.slice x.a3 o.od.length x.c3) := cell_at m0 3
    have c4 : v0.cell? ⟨w.heap.size, 4, none⟩ = some (.slice x.a4 o.to.length x.c4) := cell_at m0 4
    go_wp2
    go_ret
    exact ⟨rfl, N0⟩
  · skip
    cases h1 : Tf.tarB o.ta
    · have hR : offB o = false := by unfold offB; rw [h0, h1]; simp
      rw [hR]
      clear hR
      go_enter Tryz.func25, Tryz.ntmps25
      go_wp2_with fail
      refine (Tn.implLines_val x.a0 o.ln x.c0 _ HL.out.ln HL.out.st (I.ln.on N)).mono ?_
      rw [h0]
      rintro e v0 ⟨rfl, L0⟩
      have m0 := kept L0 (lt_of m) m
      have N0 := join_below N L0
      clear L0 m
      have c1 : v0.cell? ⟨w.heap.size, 1, none⟩ = some (.slice x.a1 o.ta.length x.c1) := cell_at m0 1
      have c2 : v0.cell? ⟨w.heap.size, 2, none⟩ = some (.slice x.a2 o.ho.length x.c2) := cell_at m0 2
      have c3 : v0.cell? ⟨w.heap.size, 3, none⟩ = some (.slice x.a3 o.od.length x.c3) := cell_at m0 3
      have c4 : v0.cell? ⟨w.heap.size, 4, none⟩ = some (.slice x.a4 o.to.length x.c4) := cell_at m0 4
      go_wp2_with fail
      refine (Tf.implTariff_val x.a1 o.ta x.c1 _ HL.out.ta (I.ta.on N0)).mono ?_
      rw [h1]
      rintro e v1 ⟨rfl, L1⟩
      have m1 := kept L1 (lt_of m0) m0
      have N1 := join_below N0 L1
      clear L1 m0 c1 c2 c3 c4
      have c2 : v1.cell? ⟨w.heap.size, 2, none⟩ = some (.slice x.a2 o.ho.length x.c2) := cell_at m1 2
      have c3 : v1.cell? ⟨w.heap.size, 3, none⟩ = some (.slice x.a3 o.od.length x.c3) := cell_at m1 3
      have c4 : v1.cell? ⟨w.heap.size, 4, none⟩ = some (.slice x.a4 o.to.length x.c4) := cell_at m1 4
      go_wp2
      go_ret
      exact ⟨rfl, N1⟩
    · skip
      cases h2 : Se.holdsB o.ho
      · have hR : offB o = false := by unfold offB; rw [h0, h1, h2]; simp
        rw [hR]
        clear hR
        go_enter Tryz.func25, Tryz.ntmps25
        go_wp2_with fail
        refine (Tn.implLines_val x.a0 o.ln x.c0 _ HL.out.ln HL.out.st (I.ln.on N)).mono ?_
        rw [h0]
        rintro e v0 ⟨rfl, L0⟩
        have m0 := kept L0 (lt_of m) m
        have N0 := join_below N L0
        clear L0 m
        have c1 : v0.cell? ⟨w.heap.size, 1, none⟩ = some (.slice x.a1 o.ta.length x.c1) := cell_at m0 1
        have c2 : v0.cell? ⟨w.heap.size, 2, none⟩ = some (.slice x.a2 o.ho.length x.c2) := cell_at m0 2
        have c3 : v0.cell? ⟨w.heap.size, 3, none⟩ = some (.slice x.a3 o.od.length x.c3) := cell_at m0 3
        have c4 : v0.cell? ⟨w.heap.size, 4, none⟩ = some (.slice x.a4 o.to.length x.c4) := cell_at m0 4
        go_wp2_with fail
        refine (Tf.implTariff_val x.a1 o.ta x.c1 _ HL.out.ta (I.ta.on N0)).mono ?_
        rw [h1]
        rintro e v1 ⟨rfl, L1⟩
        have m1 := kept L1 (lt_of m0) m0
        have N1 := join_below N0 L1
        clear L1 m0 c1 c2 c3 c4
        have c2 : v1.cell? ⟨w.heap.size, 2, none⟩ = some (.slice x.a2 o.ho.length x.c2) := cell_at m1 2
        have c3 : v1.cell? ⟨w.heap.size, 3, none⟩ = some (.slice x.a3 o.od.length x.c3) := cell_at m1 3
        have c4 : v1.cell? ⟨w.heap.size, 4, none⟩ = some (.slice x.a4 o.to.length x.c4) := cell_at m1 4
        go_wp2_with fail
        refine (Se.implHolds_val x.a2 o.ho x.c2 _ HL.out.ho (I.ho.on N1) HL.out.hw).mono ?_
        rw [h2]
        rintro e v2 ⟨rfl, L2⟩
        have m2 := kept L2 (lt_of m1) m1
        have N2 := join_below N1 L2
        clear L2 m1 c2 c3 c4
        have c3 : v2.cell? ⟨w.heap.size, 3, none⟩ = some (.slice x.a3 o.od.length x.c3) := cell_at m2 3
        have c4 : v2.cell? ⟨w.heap.size, 4, none⟩ = some (.slice x.a4 o.to.length x.c4) := cell_at m2 4
        go_wp2
        go_ret
        exact ⟨rfl, N2⟩
      · skip
        cases h3 : idsOk o.od
        · have hR : offB o = false := by unfold offB; rw [h0, h1, h2, h3]; simp
          rw [hR]
          clear hR
          go_enter Tryz.func25, Tryz.ntmps25
          go_wp2_with fail
          refine (Tn.implLines_val x.a0 o.ln x.c0 _ HL.out.ln HL.out.st (I.ln.on N)).mono ?_
          rw [h0]
          rintro e v0 ⟨rfl, L0⟩
          have m0 := kept L0 (lt_of m) m
          have N0 := join_below N L0
          clear L0 m
          have c1 : v0.cell? ⟨w.heap.size, 1, none⟩ = some (.slice x.a1 o.ta.length x.c1) := cell_at m0 1
          have c2 : v0.cell? ⟨w.heap.size, 2, none⟩ = some (.slice x.a2 o.ho.length x.c2) := cell_at m0 2
          have c3 : v0.cell? ⟨w.heap.size, 3, none⟩ = some (.slice x.a3 o.od.length x.c3) := cell_at m0 3
          have c4 : v0.cell? ⟨w.heap.size, 4, none⟩ = some (.slice x.a4 o.to.length x.c4) := cell_at m0 4
          go_wp2_with fail
          refine (Tf.implTariff_val x.a1 o.ta x.c1 _ HL.out.ta (I.ta.on N0)).mono ?_
          rw [h1]
          rintro e v1 ⟨rfl, L1⟩
          have m1 := kept L1 (lt_of m0) m0
          have N1 := join_below N0 L1
          clear L1 m0 c1 c2 c3 c4
          have c2 : v1.cell? ⟨w.heap.size, 2, none⟩ = some (.slice x.a2 o.ho.length x.c2) := cell_at m1 2
          have c3 : v1.cell? ⟨w.heap.size, 3, none⟩ = some (.slice x.a3 o.od.length x.c3) := cell_at m1 3
          have c4 : v1.cell? ⟨w.heap.size, 4, none⟩ = some (.slice x.a4 o.to.length x.c4) := cell_at m1 4
          go_wp2_with fail
          refine (Se.implHolds_val x.a2 o.ho x.c2 _ HL.out.ho (I.ho.on N1) HL.out.hw).mono ?_
          rw [h2]
          rintro e v2 ⟨rfl, L2⟩
          have m2 := kept L2 (lt_of m1) m1
          have N2 := join_below N1 L2
          clear L2 m1 c2 c3 c4
          have c3 : v2.cell? ⟨w.heap.size, 3, none⟩ = some (.slice x.a3 o.od.length x.c3) := cell_at m2 3
          have c4 : v2.cell? ⟨w.heap.size, 4, none⟩ = some (.slice x.a4 o.to.length x.c4) := cell_at m2 4
          go_wp2_with fail
          refine (ordersOk_val x.a3 o.od x.c3 _ HL.out.od (I.od.on N2)).mono ?_
          rw [h3]
          rintro e v3 ⟨rfl, L3⟩
          have m3 := kept L3 (lt_of m2) m2
          have N3 := join_below N2 L3
          clear L3 m2 c3 c4
          have c4 : v3.cell? ⟨w.heap.size, 4, none⟩ = some (.slice x.a4 o.to.length x.c4) := cell_at m3 4
          go_wp2
          go_ret
          exact ⟨rfl, N3⟩
        · skip
          cases h4 : toldOk o.to
          · have hR : offB o = false := by unfold offB; rw [h0, h1, h2, h3, h4]; simp
            rw [hR]
            clear hR
            go_enter Tryz.func25, Tryz.ntmps25
            go_wp2_with fail
            refine (Tn.implLines_val x.a0 o.ln x.c0 _ HL.out.ln HL.out.st (I.ln.on N)).mono ?_
            rw [h0]
            rintro e v0 ⟨rfl, L0⟩
            have m0 := kept L0 (lt_of m) m
            have N0 := join_below N L0
            clear L0 m
            have c1 : v0.cell? ⟨w.heap.size, 1, none⟩ = some (.slice x.a1 o.ta.length x.c1) := cell_at m0 1
            have c2 : v0.cell? ⟨w.heap.size, 2, none⟩ = some (.slice x.a2 o.ho.length x.c2) := cell_at m0 2
            have c3 : v0.cell? ⟨w.heap.size, 3, none⟩ = some (.slice x.a3 o.od.length x.c3) := cell_at m0 3
            have c4 : v0.cell? ⟨w.heap.size, 4, none⟩ = some (.slice x.a4 o.to.length x.c4) := cell_at m0 4
            go_wp2_with fail
            refine (Tf.implTariff_val x.a1 o.ta x.c1 _ HL.out.ta (I.ta.on N0)).mono ?_
            rw [h1]
            rintro e v1 ⟨rfl, L1⟩
            have m1 := kept L1 (lt_of m0) m0
            have N1 := join_below N0 L1
            clear L1 m0 c1 c2 c3 c4
            have c2 : v1.cell? ⟨w.heap.size, 2, none⟩ = some (.slice x.a2 o.ho.length x.c2) := cell_at m1 2
            have c3 : v1.cell? ⟨w.heap.size, 3, none⟩ = some (.slice x.a3 o.od.length x.c3) := cell_at m1 3
            have c4 : v1.cell? ⟨w.heap.size, 4, none⟩ = some (.slice x.a4 o.to.length x.c4) := cell_at m1 4
            go_wp2_with fail
            refine (Se.implHolds_val x.a2 o.ho x.c2 _ HL.out.ho (I.ho.on N1) HL.out.hw).mono ?_
            rw [h2]
            rintro e v2 ⟨rfl, L2⟩
            have m2 := kept L2 (lt_of m1) m1
            have N2 := join_below N1 L2
            clear L2 m1 c2 c3 c4
            have c3 : v2.cell? ⟨w.heap.size, 3, none⟩ = some (.slice x.a3 o.od.length x.c3) := cell_at m2 3
            have c4 : v2.cell? ⟨w.heap.size, 4, none⟩ = some (.slice x.a4 o.to.length x.c4) := cell_at m2 4
            go_wp2_with fail
            refine (ordersOk_val x.a3 o.od x.c3 _ HL.out.od (I.od.on N2)).mono ?_
            rw [h3]
            rintro e v3 ⟨rfl, L3⟩
            have m3 := kept L3 (lt_of m2) m2
            have N3 := join_below N2 L3
            clear L3 m2 c3 c4
            have c4 : v3.cell? ⟨w.heap.size, 4, none⟩ = some (.slice x.a4 o.to.length x.c4) := cell_at m3 4
            go_wp2_with fail
            refine (toldOk_val x.a4 o.to x.c4 _ HZ.out (I.to.on N3) HL.out.tw).mono ?_
            rw [h4]
            rintro e v4 ⟨rfl, L4⟩
            have m4 := kept L4 (lt_of m3) m3
            have N4 := join_below N3 L4
            clear L4 m3 c4
            have c2 : v4.cell? ⟨w.heap.size, 2, none⟩ = some (.slice x.a2 o.ho.length x.c2) := cell_at m4 2
            have c3 : v4.cell? ⟨w.heap.size, 3, none⟩ = some (.slice x.a3 o.od.length x.c3) := cell_at m4 3
            have c4 : v4.cell? ⟨w.heap.size, 4, none⟩ = some (.slice x.a4 o.to.length x.c4) := cell_at m4 4
            go_wp2
            go_ret
            exact ⟨rfl, N4⟩
          · have hR : offB o = heldB o.ho o.od := by unfold offB; rw [h0, h1, h2, h3, h4]; simp
            rw [hR]
            clear hR
            go_enter Tryz.func25, Tryz.ntmps25
            go_wp2_with fail
            refine (Tn.implLines_val x.a0 o.ln x.c0 _ HL.out.ln HL.out.st (I.ln.on N)).mono ?_
            rw [h0]
            rintro e v0 ⟨rfl, L0⟩
            have m0 := kept L0 (lt_of m) m
            have N0 := join_below N L0
            clear L0 m
            have c1 : v0.cell? ⟨w.heap.size, 1, none⟩ = some (.slice x.a1 o.ta.length x.c1) := cell_at m0 1
            have c2 : v0.cell? ⟨w.heap.size, 2, none⟩ = some (.slice x.a2 o.ho.length x.c2) := cell_at m0 2
            have c3 : v0.cell? ⟨w.heap.size, 3, none⟩ = some (.slice x.a3 o.od.length x.c3) := cell_at m0 3
            have c4 : v0.cell? ⟨w.heap.size, 4, none⟩ = some (.slice x.a4 o.to.length x.c4) := cell_at m0 4
            go_wp2_with fail
            refine (Tf.implTariff_val x.a1 o.ta x.c1 _ HL.out.ta (I.ta.on N0)).mono ?_
            rw [h1]
            rintro e v1 ⟨rfl, L1⟩
            have m1 := kept L1 (lt_of m0) m0
            have N1 := join_below N0 L1
            clear L1 m0 c1 c2 c3 c4
            have c2 : v1.cell? ⟨w.heap.size, 2, none⟩ = some (.slice x.a2 o.ho.length x.c2) := cell_at m1 2
            have c3 : v1.cell? ⟨w.heap.size, 3, none⟩ = some (.slice x.a3 o.od.length x.c3) := cell_at m1 3
            have c4 : v1.cell? ⟨w.heap.size, 4, none⟩ = some (.slice x.a4 o.to.length x.c4) := cell_at m1 4
            go_wp2_with fail
            refine (Se.implHolds_val x.a2 o.ho x.c2 _ HL.out.ho (I.ho.on N1) HL.out.hw).mono ?_
            rw [h2]
            rintro e v2 ⟨rfl, L2⟩
            have m2 := kept L2 (lt_of m1) m1
            have N2 := join_below N1 L2
            clear L2 m1 c2 c3 c4
            have c3 : v2.cell? ⟨w.heap.size, 3, none⟩ = some (.slice x.a3 o.od.length x.c3) := cell_at m2 3
            have c4 : v2.cell? ⟨w.heap.size, 4, none⟩ = some (.slice x.a4 o.to.length x.c4) := cell_at m2 4
            go_wp2_with fail
            refine (ordersOk_val x.a3 o.od x.c3 _ HL.out.od (I.od.on N2)).mono ?_
            rw [h3]
            rintro e v3 ⟨rfl, L3⟩
            have m3 := kept L3 (lt_of m2) m2
            have N3 := join_below N2 L3
            clear L3 m2 c3 c4
            have c4 : v3.cell? ⟨w.heap.size, 4, none⟩ = some (.slice x.a4 o.to.length x.c4) := cell_at m3 4
            go_wp2_with fail
            refine (toldOk_val x.a4 o.to x.c4 _ HZ.out (I.to.on N3) HL.out.tw).mono ?_
            rw [h4]
            rintro e v4 ⟨rfl, L4⟩
            have m4 := kept L4 (lt_of m3) m3
            have N4 := join_below N3 L4
            clear L4 m3 c4
            have c2 : v4.cell? ⟨w.heap.size, 2, none⟩ = some (.slice x.a2 o.ho.length x.c2) := cell_at m4 2
            have c3 : v4.cell? ⟨w.heap.size, 3, none⟩ = some (.slice x.a3 o.od.length x.c3) := cell_at m4 3
            have c4 : v4.cell? ⟨w.heap.size, 4, none⟩ = some (.slice x.a4 o.to.length x.c4) := cell_at m4 4
            have hlt := lt_of m4
            have I2 := I.ho.on N4
            have I3 := I.od.on N4
            clear m4 c4 h0 h1 h2 h3 h4
            go_wp2
            go_loopw [38] (fun i wr => ∃ k : Nat, k ≤ o.ho.length ∧ i = .int .i64 k ∧ Below v4.heap.size v4 wr ∧ Hid (∀ i (hi : i < o.ho.length), i < k → soldB o.od o.ho[i].od = true)) (fun i _ => o.ho.length - (intOf i).toNat)
            case atStart => exact ⟨0, by omega, rfl, Below.refl _ _, fun i _ h => by omega⟩
            case round =>
              obtain ⟨k, hk, rfl, L, H⟩ := hrel
              by_cases hkn : k < o.ho.length
              · obtain ⟨b, u, ha, hlb, e0, e1, e2, e3, e4, e5, e6⟩ := (I2.on L).at k hkn
                have NB := new_below wr (.cells #[.int .i64 o.ho[k].tr, .int .i64 o.ho[k].dy, .int .i64 o.ho[k].co, .int .i64 o.ho[k].se, .int .i64 o.ho[k].ba, .int .i64 o.ho[k].be, .int .i64 o.ho[k].od] 81)
                have xb := heap_new wr (.cells #[.int .i64 o.ho[k].tr, .int .i64 o.ho[k].dy, .int .i64 o.ho[k].co, .int .i64 o.ho[k].se, .int .i64 o.ho[k].ba, .int .i64 o.ho[k].be, .int .i64 o.ho[k].od] 81)
                have L1 := join_below L NB
                have d3 : (wr.alloc (.cells #[.int .i64 o.ho[k].tr, .int .i64 o.ho[k].dy, .int .i64 o.ho[k].co, .int .i64 o.ho[k].se, .int .i64 o.ho[k].ba, .int .i64 o.ho[k].be, .int .i64 o.ho[k].od] 81)).cell? ⟨w.heap.size, 3, none⟩ = some (.slice x.a3 o.od.length x.c3) := by rw [L1.cell (p := ⟨w.heap.size, 3, none⟩) hlt]; exact c3
                have d6 : (wr.alloc (.cells #[.int .i64 o.ho[k].tr, .int .i64 o.ho[k].dy, .int .i64 o.ho[k].co, .int .i64 o.ho[k].se, .int .i64 o.ho[k].ba, .int .i64 o.ho[k].be, .int .i64 o.ho[k].od] 81)).cell? ⟨wr.heap.size, 6, none⟩ = some (.int .i64 o.ho[k].od) := cell_at xb 6
                have HS : Hid (∀ W, Od.Orders W x.a3 o.od → _) := fun W h => soldOrder_val x.a3 o.od x.c3 o.ho[k].od W HL.out.od h
                have J1 := I3.on L1
                clear NB xb c2 c3
                cases hs : soldB o.od o.ho[k].od
                · have HR : Hid (heldB o.ho o.od = false) := held_no hkn hs
                  rw [hs] at HS
                  clear hs H L
                  rw [ha] at *
                  generalize o.ho[k] = p at *
                  go_wp2_with fail
                  refine (HS.out _ J1).mono ?_
                  rintro e w5 ⟨⟨t5, b5, n5, q5, rfl⟩, L5⟩
                  have L6 := join_below L1 L5
                  have L7 := join_below N4 (join_below L6 (new_below w5 (Od.odB t5 b5 n5 q5 85)))
                  clear L1 L5 L6 d3 d6 J1 HS
                  go_wp2
                  go_ret
                  exact ⟨ret_b HR.out, L7⟩
                · have HR : Hid (∀ i (hi : i < o.ho.length), i < k + 1 → soldB o.od o.ho[i].od = true) := by
                    intro i hi hik
                    by_cases e : i = k
                    · subst e; exact hs
                    · exact H.out i hi (by omega)
                  rw [hs] at HS
                  clear hs H L
                  rw [ha] at *
                  generalize o.ho[k] = p at *
                  go_wp2_with fail
                  refine (HS.out _ J1).mono ?_
                  rintro e w5 ⟨⟨t5, b5, n5, q5, rfl⟩, L5⟩
                  have L6 := join_below L1 L5
                  have L7 := join_below L6 (new_below w5 (Od.odB t5 b5 n5 q5 85))
                  clear L1 L5 L6 d3 d6 J1 HS
                  go_wp2
                  go_roundw
                  case rel => exact ⟨k + 1, by omega, by go_num, L7, HR⟩
                  case measure => simp [intOf]; omega
              · obtain rfl : k = o.ho.length := by omega
                have HR : Hid (heldB o.ho o.od = true) := held_yes fun i hi => H.out i hi hi
                clear H
                have L2 := join_below N4 L
                go_wp2
                go_ret
                exact ⟨ret_b HR.out, L2⟩

end Of
end Go.Proofs.YtehmlnojjfeheaaGreat

/- Contract of OfficeOk of the model. -/
namespace Go.Proofs.YtehmlnojjfeheaaGreat
namespace Of
open Go.ChangeShapes Go.WideShapes Go.ChangeAt Go.RowKit Go.Joins
open Pk (new_below join_below cell_at heap_new frozen_at lt_of kept heap_old info_of Room)
set_option linter.unusedSimpArgs false
set_option linter.unusedVariables false

open Se (inB in_is in_not)
open Pk (Drawn)

set_option maxRecDepth 100000 in
set_option maxHeartbeats 8000000 in
theorem specOffice_val (x : Pl) (o : Offc) (w : World) (hl : Lim o) (hz : Small o) (I : In w x o) :
    Calls Tryz.prog 18 #[ofV x o] w fun e w' => e = .returned (.bool (offB o)) ∧ Below w.heap.size w w' := by
  have HL : Hid (Lim o) := hl
  have hto : o.to.length ≤ 1048576 := hz.2.2.2.2
  have hho : o.ho.length ≤ 1048576 := hz.2.2.1
  have hod : o.od.length ≤ 1048576 := by have := hz.2.2.2.1; unfold Od.bulk at this; omega
  clear hl hz
  have N := new_below w (ofB x o 36)
  have m := heap_new w (ofB x o 36)
  cases h0 : Tn.linesB o.ln
  · have hR : offB o = false := by unfold offB; rw [h0]; simp
    rw [hR]
    clear hR
    go_enter Tryz.func18, Tryz.ntmps18
    go_wp2_with fail
    refine (Tn.specLines_val x.a0 o.ln x.c0 _ HL.out.ln HL.out.st (I.ln.on N)).mono ?_
    rw [h0]
    rintro e v0 ⟨rfl, L0⟩
    have m0 := kept L0 (lt_of m) m
    have N0 := join_below N L0
    clear L0 m
    have c1 : v0.cell? ⟨w.heap.size, 1, none⟩ = some (.slice x.a1 o.ta.length x.c1) := cell_at m0 1
    have c2 : v0.cell? ⟨w.heap.size, 2, none⟩ = some (.slice x.a2 o.ho.length x.c2) := cell_at m0 2
    have c3 : v0.cell? ⟨w.heap.size, 3, none⟩ = some (.slice x.a3 o.od.length x.c3) := cell_at m0 3
    have c4 : v0.cell? ⟨w.heap.size, 4, none⟩ = some (.slice x.a4 o.to.length x.c4) := cell_at m0 4
    go_wp2
    go_ret
    exact ⟨rfl, N0⟩
  · skip
    cases h1 : Tf.tarB o.ta
    · have hR : offB o = false := by unfold offB; rw [h0, h1]; simp
      rw [hR]
      clear hR
      go_enter Tryz.func18, Tryz.ntmps18
      go_wp2_with fail
      refine (Tn.specLines_val x.a0 o.ln x.c0 _ HL.out.ln HL.out.st (I.ln.on N)).mono ?_
      rw [h0]
      rintro e v0 ⟨rfl, L0⟩
      have m0 := kept L0 (lt_of m) m
      have N0 := join_below N L0
      clear L0 m
      have c1 : v0.cell? ⟨w.heap.size, 1, none⟩ = some (.slice x.a1 o.ta.length x.c1) := cell_at m0 1
      have c2 : v0.cell? ⟨w.heap.size, 2, none⟩ = some (.slice x.a2 o.ho.length x.c2) := cell_at m0 2
      have c3 : v0.cell? ⟨w.heap.size, 3, none⟩ = some (.slice x.a3 o.od.length x.c3) := cell_at m0 3
      have c4 : v0.cell? ⟨w.heap.size, 4, none⟩ = some (.slice x.a4 o.to.length x.c4) := cell_at m0 4
      go_wp2_with fail
      refine (Tf.specTariff_val x.a1 o.ta x.c1 _ HL.out.ta (I.ta.on N0)).mono ?_
      rw [h1]
      rintro e v1 ⟨rfl, L1⟩
      have m1 := kept L1 (lt_of m0) m0
      have N1 := join_below N0 L1
      clear L1 m0 c1 c2 c3 c4
      have c2 : v1.cell? ⟨w.heap.size, 2, none⟩ = some (.slice x.a2 o.ho.length x.c2) := cell_at m1 2
      have c3 : v1.cell? ⟨w.heap.size, 3, none⟩ = some (.slice x.a3 o.od.length x.c3) := cell_at m1 3
      have c4 : v1.cell? ⟨w.heap.size, 4, none⟩ = some (.slice x.a4 o.to.length x.c4) := cell_at m1 4
      go_wp2
      go_ret
      exact ⟨rfl, N1⟩
    · skip
      cases h2 : Se.holdsB o.ho
      · have hR : offB o = false := by unfold offB; rw [h0, h1, h2]; simp
        rw [hR]
        clear hR
        go_enter Tryz.func18, Tryz.ntmps18
        go_wp2_with fail
        refine (Tn.specLines_val x.a0 o.ln x.c0 _ HL.out.ln HL.out.st (I.ln.on N)).mono ?_
        rw [h0]
        rintro e v0 ⟨rfl, L0⟩
        have m0 := kept L0 (lt_of m) m
        have N0 := join_below N L0
        clear L0 m
        have c1 : v0.cell? ⟨w.heap.size, 1, none⟩ = some (.slice x.a1 o.ta.length x.c1) := cell_at m0 1
        have c2 : v0.cell? ⟨w.heap.size, 2, none⟩ = some (.slice x.a2 o.ho.length x.c2) := cell_at m0 2
        have c3 : v0.cell? ⟨w.heap.size, 3, none⟩ = some (.slice x.a3 o.od.length x.c3) := cell_at m0 3
        have c4 : v0.cell? ⟨w.heap.size, 4, none⟩ = some (.slice x.a4 o.to.length x.c4) := cell_at m0 4
        go_wp2_with fail
        refine (Tf.specTariff_val x.a1 o.ta x.c1 _ HL.out.ta (I.ta.on N0)).mono ?_
        rw [h1]
        rintro e v1 ⟨rfl, L1⟩
        have m1 := kept L1 (lt_of m0) m0
        have N1 := join_below N0 L1
        clear L1 m0 c1 c2 c3 c4
        have c2 : v1.cell? ⟨w.heap.size, 2, none⟩ = some (.slice x.a2 o.ho.length x.c2) := cell_at m1 2
        have c3 : v1.cell? ⟨w.heap.size, 3, none⟩ = some (.slice x.a3 o.od.length x.c3) := cell_at m1 3
        have c4 : v1.cell? ⟨w.heap.size, 4, none⟩ = some (.slice x.a4 o.to.length x.c4) := cell_at m1 4
        go_wp2_with fail
        refine (Se.specHolds_val x.a2 o.ho x.c2 _ HL.out.ho (I.ho.on N1)).mono ?_
        rw [h2]
        rintro e v2 ⟨rfl, L2⟩
        have m2 := kept L2 (lt_of m1) m1
        have N2 := join_below N1 L2
        clear L2 m1 c2 c3 c4
        have c3 : v2.cell? ⟨w.heap.size, 3, none⟩ = some (.slice x.a3 o.od.length x.c3) := cell_at m2 3
        have c4 : v2.cell? ⟨w.heap.size, 4, none⟩ = some (.slice x.a4 o.to.length x.c4) := cell_at m2 4
        go_wp2
        go_ret
        exact ⟨rfl, N2⟩
      · skip
        by_cases b1 : 100 < o.od.length
        · have hR : offB o = false := by unfold offB idsOk; rw [show decide ((o.od.length : Int) ≤ 100) = false from decide_eq_false (by omega)]; simp
          have d1 : decide (100 < (o.od.length : Int)) = true := decide_eq_true (by omega)
          rw [hR]
          clear hR b1
          go_enter Tryz.func18, Tryz.ntmps18
          go_wp2_with fail
          refine (Tn.specLines_val x.a0 o.ln x.c0 _ HL.out.ln HL.out.st (I.ln.on N)).mono ?_
          rw [h0]
          rintro e v0 ⟨rfl, L0⟩
          have m0 := kept L0 (lt_of m) m
          have N0 := join_below N L0
          clear L0 m
          have c1 : v0.cell? ⟨w.heap.size, 1, none⟩ = some (.slice x.a1 o.ta.length x.c1) := cell_at m0 1
          have c2 : v0.cell? ⟨w.heap.size, 2, none⟩ = some (.slice x.a2 o.ho.length x.c2) := cell_at m0 2
          have c3 : v0.cell? ⟨w.heap.size, 3, none⟩ = some (.slice x.a3 o.od.length x.c3) := cell_at m0 3
          have c4 : v0.cell? ⟨w.heap.size, 4, none⟩ = some (.slice x.a4 o.to.length x.c4) := cell_at m0 4
          go_wp2_with fail
          refine (Tf.specTariff_val x.a1 o.ta x.c1 _ HL.out.ta (I.ta.on N0)).mono ?_
          rw [h1]
          rintro e v1 ⟨rfl, L1⟩
          have m1 := kept L1 (lt_of m0) m0
          have N1 := join_below N0 L1
          clear L1 m0 c1 c2 c3 c4
          have c2 : v1.cell? ⟨w.heap.size, 2, none⟩ = some (.slice x.a2 o.ho.length x.c2) := cell_at m1 2
          have c3 : v1.cell? ⟨w.heap.size, 3, none⟩ = some (.slice x.a3 o.od.length x.c3) := cell_at m1 3
          have c4 : v1.cell? ⟨w.heap.size, 4, none⟩ = some (.slice x.a4 o.to.length x.c4) := cell_at m1 4
          go_wp2_with fail
          refine (Se.specHolds_val x.a2 o.ho x.c2 _ HL.out.ho (I.ho.on N1)).mono ?_
          rw [h2]
          rintro e v2 ⟨rfl, L2⟩
          have m2 := kept L2 (lt_of m1) m1
          have N2 := join_below N1 L2
          clear L2 m1 c2 c3 c4
          have c3 : v2.cell? ⟨w.heap.size, 3, none⟩ = some (.slice x.a3 o.od.length x.c3) := cell_at m2 3
          have c4 : v2.cell? ⟨w.heap.size, 4, none⟩ = some (.slice x.a4 o.to.length x.c4) := cell_at m2 4
          go_wp2
          go_ret
          exact ⟨rfl, N2⟩
        by_cases b2 : 300 < o.to.length
        · have hR : offB o = false := by unfold offB toldOk; rw [show decide ((o.to.length : Int) ≤ 300) = false from decide_eq_false (by omega)]; simp
          have d1 : decide (100 < (o.od.length : Int)) = false := decide_eq_false (by omega)
          have d2 : decide (300 < (o.to.length : Int)) = true := decide_eq_true (by omega)
          rw [hR]
          clear hR b1 b2
          go_enter Tryz.func18, Tryz.ntmps18
          go_wp2_with fail
          refine (Tn.specLines_val x.a0 o.ln x.c0 _ HL.out.ln HL.out.st (I.ln.on N)).mono ?_
          rw [h0]
          rintro e v0 ⟨rfl, L0⟩
          have m0 := kept L0 (lt_of m) m
          have N0 := join_below N L0
          clear L0 m
          have c1 : v0.cell? ⟨w.heap.size, 1, none⟩ = some (.slice x.a1 o.ta.length x.c1) := cell_at m0 1
          have c2 : v0.cell? ⟨w.heap.size, 2, none⟩ = some (.slice x.a2 o.ho.length x.c2) := cell_at m0 2
          have c3 : v0.cell? ⟨w.heap.size, 3, none⟩ = some (.slice x.a3 o.od.length x.c3) := cell_at m0 3
          have c4 : v0.cell? ⟨w.heap.size, 4, none⟩ = some (.slice x.a4 o.to.length x.c4) := cell_at m0 4
          go_wp2_with fail
          refine (Tf.specTariff_val x.a1 o.ta x.c1 _ HL.out.ta (I.ta.on N0)).mono ?_
          rw [h1]
          rintro e v1 ⟨rfl, L1⟩
          have m1 := kept L1 (lt_of m0) m0
          have N1 := join_below N0 L1
          clear L1 m0 c1 c2 c3 c4
          have c2 : v1.cell? ⟨w.heap.size, 2, none⟩ = some (.slice x.a2 o.ho.length x.c2) := cell_at m1 2
          have c3 : v1.cell? ⟨w.heap.size, 3, none⟩ = some (.slice x.a3 o.od.length x.c3) := cell_at m1 3
          have c4 : v1.cell? ⟨w.heap.size, 4, none⟩ = some (.slice x.a4 o.to.length x.c4) := cell_at m1 4
          go_wp2_with fail
          refine (Se.specHolds_val x.a2 o.ho x.c2 _ HL.out.ho (I.ho.on N1)).mono ?_
          rw [h2]
          rintro e v2 ⟨rfl, L2⟩
          have m2 := kept L2 (lt_of m1) m1
          have N2 := join_below N1 L2
          clear L2 m1 c2 c3 c4
          have c3 : v2.cell? ⟨w.heap.size, 3, none⟩ = some (.slice x.a3 o.od.length x.c3) := cell_at m2 3
          have c4 : v2.cell? ⟨w.heap.size, 4, none⟩ = some (.slice x.a4 o.to.length x.c4) := cell_at m2 4
          go_wp2
          go_ret
          exact ⟨rfl, N2⟩
        have HR : Hid (offB o = (heldB o.ho o.od && idsB o.od && disB o.to)) := by
          show _ = _
          unfold offB idsOk toldOk
          rw [h0, h1, h2, show decide ((o.od.length : Int) ≤ 100) = true from decide_eq_true (by omega), show decide ((o.to.length : Int) ≤ 300) = true from decide_eq_true (by omega)]
          cases heldB o.ho o.od <;> cases idsB o.od <;> cases disB o.to <;> rfl
        have d1 : decide (100 < (o.od.length : Int)) = false := decide_eq_false (by omega)
        have d2 : decide (300 < (o.to.length : Int)) = false := decide_eq_false (by omega)
        clear b1 b2
        go_enter Tryz.func18, Tryz.ntmps18
        go_wp2_with fail
        refine (Tn.specLines_val x.a0 o.ln x.c0 _ HL.out.ln HL.out.st (I.ln.on N)).mono ?_
        rw [h0]
        rintro e v0 ⟨rfl, L0⟩
        have m0 := kept L0 (lt_of m) m
        have N0 := join_below N L0
        clear L0 m
        have c1 : v0.cell? ⟨w.heap.size, 1, none⟩ = some (.slice x.a1 o.ta.length x.c1) := cell_at m0 1
        have c2 : v0.cell? ⟨w.heap.size, 2, none⟩ = some (.slice x.a2 o.ho.length x.c2) := cell_at m0 2
        have c3 : v0.cell? ⟨w.heap.size, 3, none⟩ = some (.slice x.a3 o.od.length x.c3) := cell_at m0 3
        have c4 : v0.cell? ⟨w.heap.size, 4, none⟩ = some (.slice x.a4 o.to.length x.c4) := cell_at m0 4
        go_wp2_with fail
        refine (Tf.specTariff_val x.a1 o.ta x.c1 _ HL.out.ta (I.ta.on N0)).mono ?_
        rw [h1]
        rintro e v1 ⟨rfl, L1⟩
        have m1 := kept L1 (lt_of m0) m0
        have N1 := join_below N0 L1
        clear L1 m0 c1 c2 c3 c4
        have c2 : v1.cell? ⟨w.heap.size, 2, none⟩ = some (.slice x.a2 o.ho.length x.c2) := cell_at m1 2
        have c3 : v1.cell? ⟨w.heap.size, 3, none⟩ = some (.slice x.a3 o.od.length x.c3) := cell_at m1 3
        have c4 : v1.cell? ⟨w.heap.size, 4, none⟩ = some (.slice x.a4 o.to.length x.c4) := cell_at m1 4
        go_wp2_with fail
        refine (Se.specHolds_val x.a2 o.ho x.c2 _ HL.out.ho (I.ho.on N1)).mono ?_
        rw [h2]
        rintro e v2 ⟨rfl, L2⟩
        have m2 := kept L2 (lt_of m1) m1
        have N2 := join_below N1 L2
        clear L2 m1 c2 c3 c4
        have c3 : v2.cell? ⟨w.heap.size, 3, none⟩ = some (.slice x.a3 o.od.length x.c3) := cell_at m2 3
        have c4 : v2.cell? ⟨w.heap.size, 4, none⟩ = some (.slice x.a4 o.to.length x.c4) := cell_at m2 4
        have hlt := lt_of m2
        have I2 := I.ho.on N2
        have I3 := I.od.on N2
        have I4 := I.to.on N2
        have c2 : v2.cell? ⟨w.heap.size, 2, none⟩ = some (.slice x.a2 o.ho.length x.c2) := cell_at m2 2
        clear m2 h0 h1 h2 I
        go_wp2
        go_loopw [3] (fun i wr => ∃ k : Nat, k ≤ o.ho.length ∧ i = .int .i64 k ∧ v2 = wr ∧ Hid (∀ i (hi : i < o.ho.length), i < k → soldB o.od o.ho[i].od = true)) (fun i _ => o.ho.length - (intOf i).toNat)
        case atStart => exact ⟨0, by omega, rfl, rfl, fun i _ h => by omega⟩
        case round =>
          obtain ⟨k, hk, rfl, rfl, H⟩ := hrel
          by_cases hkn : k < o.ho.length
          · obtain ⟨b, u, ha, hlb, e0, e1, e2, e3, e4, e5, e6⟩ := I2.at k hkn
            have c2' : v2.cell? ⟨w.heap.size, 2, none⟩ = some (.slice (some ⟨b, u, none⟩) o.ho.length x.c2) := by rw [c2, ha]
            clear ha
            cases hb : inB o.ho[k].od 1 o.od.length
            · have HB : Hid (∀ w, _) := fun w => Se.ins_no o.ho[k].od 1 o.od.length w hb
              have HN : Hid (offB o = false) := by show _ = _; rw [HR.out, held_no hkn (sold_out hb)]; rfl
              clear hb H c2
              generalize o.ho[k] = p at *
              go_wp2_with fail
              refine (HB.out _).mono ?_
              rintro e w5 ⟨rfl, rfl⟩
              go_wp2
              go_ret
              exact ⟨ret_b HN.out, N2⟩
            · have HB : Hid (∀ w, _) := fun w => Se.ins_yes o.ho[k].od 1 o.od.length w hb
              obtain ⟨q, hq, hn, hs⟩ := sold_in hb
              obtain ⟨b', u', ai, ci, ha', hlb', g0, g1, g2, g3, g4, g6, g7, g8, g5, J⟩ := I3.at q hq
              have c3' : v2.cell? ⟨w.heap.size, 3, none⟩ = some (.slice (some ⟨b', u', none⟩) o.od.length x.c3) := by rw [c3, ha']
              clear ha'
              have hk1 : wrap64 ((q : Int) + 1 - 1) = (q : Int) := by rw [show (q : Int) + 1 - 1 = q by omega]; unfold wrap64; omega
              have hk2 : IntKind.i64.wrap ((q : Int) + 1 - 1) = (q : Int) := by rw [show (q : Int) + 1 - 1 = q by omega, IntKind.wrap_i64]; omega
              by_cases hst : o.od[q].h.st = 1
              · have hq1 : (o.od[q].h.st == 1) = true := by simpa using hst
                have HN : Hid (∀ i (hi : i < o.ho.length), i < k + 1 → soldB o.od o.ho[i].od = true) := by
                  intro i hi hik
                  by_cases e : i = k
                  · subst e; rw [hs]; exact decide_eq_true hst
                  · exact H.out i hi (by omega)
                clear hb H c2 c3 hs hst
                rw [hn] at e6 HB
                generalize o.ho[k] = p at *
                generalize o.od[q].l.length = m' at *
                generalize o.od[q].h = p' at *
                go_wp2_with fail
                refine (HB.out _).mono ?_
                rintro e w5 ⟨rfl, rfl⟩
                go_wp2
                go_roundw
                case rel => exact ⟨k + 1, by omega, by go_num, by first | rfl | trivial, HN⟩
                case measure => simp [intOf]; omega
              · have hq1 : (o.od[q].h.st == 1) = false := by simpa using hst
                have HN : Hid (offB o = false) := by show _ = _; rw [HR.out, held_no hkn (by rw [hs]; exact decide_eq_false hst)]; rfl
                clear hb H c2 c3 hs hst
                rw [hn] at e6 HB
                generalize o.ho[k] = p at *
                generalize o.od[q].l.length = m' at *
                generalize o.od[q].h = p' at *
                go_wp2_with fail
                refine (HB.out _).mono ?_
                rintro e w5 ⟨rfl, rfl⟩
                go_wp2
                go_ret
                exact ⟨ret_b HN.out, N2⟩
          · obtain rfl : k = o.ho.length := by omega
            have HH : Hid (heldB o.ho o.od = true) := held_yes fun i hi => H.out i hi hi
            clear H
            go_wp2
            go_loopw [5] (fun i wr => ∃ k : Nat, k ≤ o.od.length ∧ i = .int .i64 k ∧ v2 = wr ∧ Hid (∀ i, i < k → (o.od.getD i od0).h.id = (i : Int) + 1)) (fun i _ => o.od.length - (intOf i).toNat)
            case atStart => exact ⟨0, by omega, rfl, rfl, fun i h => by omega⟩
            case round =>
              obtain ⟨k, hk, rfl, rfl, H⟩ := hrel
              by_cases hkn : k < o.od.length
              · obtain ⟨b', u', ai, ci, ha', hlb', g0, g1, g2, g3, g4, g6, g7, g8, g5, J⟩ := I3.at k hkn
                have c3' : v2.cell? ⟨w.heap.size, 3, none⟩ = some (.slice (some ⟨b', u', none⟩) o.od.length x.c3) := by rw [c3, ha']
                clear ha'
                have hg := getD_at o.od k hkn
                by_cases he : o.od[k].h.id = (k : Int) + 1
                · have HS : Hid (∀ i, i < k + 1 → (o.od.getD i od0).h.id = (i : Int) + 1) := by
                    intro i hi
                    by_cases e : i = k
                    · subst e; rw [hg]; exact he
                    · exact H.out i (by omega)
                  have hq : (o.od[k].h.id == (k : Int) + 1) = true := by simpa using he
                  clear he H hg c3
                  generalize o.od[k].l.length = m' at *
                  generalize o.od[k].h = p' at *
                  go_wp2
                  go_roundw
                  case rel => exact ⟨k + 1, by omega, by go_num, by first | rfl | trivial, HS⟩
                  case measure => simp [intOf]; omega
                · have HS : Hid (offB o = false) := by show _ = _; rw [HR.out, ids_no hkn (by rw [hg]; exact he)]; simp
                  have hq : (o.od[k].h.id == (k : Int) + 1) = false := by simpa using he
                  clear he H hg c3
                  generalize o.od[k].l.length = m' at *
                  generalize o.od[k].h = p' at *
                  go_wp2
                  go_ret
                  exact ⟨ret_b HS.out, N2⟩
              · obtain rfl : k = o.od.length := by omega
                have HI : Hid (idsB o.od = true) := ids_yes H.out
                clear H
                go_wp2
                go_loopw [6] (fun i wr => ∃ k : Nat, k ≤ o.to.length ∧ i = .int .i64 k ∧ Drawn v2 wr ∧ Hid (Dis o.to k)) (fun i _ => o.to.length - (intOf i).toNat)
                case atStart => exact ⟨0, by omega, rfl, Drawn.refl _, fun i j h => by omega⟩
                case round =>
                  obtain ⟨k, hk, rfl, D, H⟩ := hrel
                  have D2 := D.below v2.heap.size
                  have c4' : wr.cell? ⟨w.heap.size, 4, none⟩ = some (.slice x.a4 o.to.length x.c4) := by rw [D2.cell (p := ⟨w.heap.size, 4, none⟩) hlt]; exact c4
                  by_cases hkn : k < o.to.length
                  · obtain ⟨b', u', ha', hlb', g0, g1, g2, g3⟩ := I4.at k hkn
                    have HA : Hid (x.a4 = some ⟨b', u', none⟩) := ha'
                    clear ha'
                    go_wp2
                    go_loopw [7] (fun j wr => ∃ q : Nat, q ≤ k ∧ j = .int .i64 q ∧ Drawn v2 wr ∧ Hid (∀ j, j < q → rqAt o.to k ≠ rqAt o.to j)) (fun j _ => k - (intOf j).toNat)
                    case atStart => exact ⟨0, by omega, rfl, D, fun j h => by omega⟩
                    case round =>
                      obtain ⟨q, hq, rfl, DD, HQ⟩ := hrel
                      have D3 := DD.below v2.heap.size
                      have c4q : wr.cell? ⟨w.heap.size, 4, none⟩ = some (.slice (some ⟨b', u', none⟩) o.to.length x.c4) := by rw [D3.cell (p := ⟨w.heap.size, 4, none⟩) hlt, c4, HA.out]
                      by_cases hqk : q < k
                      · obtain ⟨b2, u2, ha2, hlb2, f0, f1, f2, f3⟩ := I4.at q (by omega)
                        have hbb : b2 = b' ∧ u2 = u' := by
                          rw [HA.out] at ha2
                          simp only [Option.some.injEq, Addr.mk.injEq, and_true] at ha2
                          exact ⟨ha2.1.symm, ha2.2.symm⟩
                        obtain ⟨rfl, rfl⟩ := hbb
                        clear ha2
                        have r1 : wr.cell? ⟨b2, u2 + k * 4, none⟩ = some (.int .i64 (rqAt o.to k)) := by rw [D3.cell (p := ⟨b2, u2 + k * 4, none⟩) hlb', rq_at _ k hkn]; exact g0
                        have r2 : wr.cell? ⟨b2, u2 + q * 4, none⟩ = some (.int .i64 (rqAt o.to q)) := by rw [D3.cell (p := ⟨b2, u2 + q * 4, none⟩) hlb', rq_at _ q (by omega)]; exact f0
                        have hql : q < o.to.length := by omega
                        by_cases he : rqAt o.to k = rqAt o.to q
                        · have HS : Hid (offB o = false) := by show _ = _; rw [HR.out, dis_two hkn hqk he]; simp
                          have hq1 : (rqAt o.to k == rqAt o.to q) = true := by simpa using he
                          clear he H HQ c4' g0 g1 g2 g3 f0 f1 f2 f3
                          generalize rqAt o.to k = z1 at *
                          generalize rqAt o.to q = z2 at *
                          go_wp2
                          go_quiet (fail)
                          have L8 : Below w.heap.size w (wr.drewN nq) := join_below N2 ((DD.more nq).below _)
                          go_wp2
                          go_ret
                          exact ⟨ret_b HS.out, L8⟩
                        · have HS : Hid (∀ j, j < q + 1 → rqAt o.to k ≠ rqAt o.to j) := by
                            intro j hj
                            by_cases e : j = q
                            · subst e; exact he
                            · exact HQ.out j (by omega)
                          have hq1 : (rqAt o.to k == rqAt o.to q) = false := by simpa using he
                          clear he HQ c4' g0 g1 g2 g3 f0 f1 f2 f3
                          generalize rqAt o.to q = z2 at *
                          generalize hz1 : rqAt o.to k = z1 at *
                          clear hz1
                          go_wp2
                          go_quiet (fail)
                          have D8 := DD.more nq
                          go_wp2
                          go_roundw
                          case rel => exact ⟨q + 1, by omega, by go_num, D8, HS⟩
                          case measure => simp [intOf]; omega
                      · obtain rfl : q = k := by omega
                        have HS : Hid (Dis o.to (q + 1)) := by
                          intro i j hi hj
                          by_cases e : i = q
                          · subst e; exact HQ.out j hj
                          · exact H.out i j (by omega) hj
                        clear H HQ
                        go_wp2
                        go_roundw
                        case rel => exact ⟨q + 1, by omega, by go_num, DD, HS⟩
                        case measure => simp [intOf]; omega
                  · obtain rfl : k = o.to.length := by omega
                    have HS : Hid (offB o = true) := by show _ = _; rw [HR.out, HH.out, HI.out, dis_yes H.out]; rfl
                    have L8 := join_below N2 D2
                    clear H
                    go_wp2
                    go_ret
                    exact ⟨ret_b HS.out, L8⟩

end Of
end Go.Proofs.YtehmlnojjfeheaaGreat

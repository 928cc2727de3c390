/- Texts laid into one, in their order: OfPlat, PfAns, Shelf, PfClone, HnCtl, HnInts, HnOff, HnHand, HnOpen, HnMark, HnCopy, DkEq. -/
import Derived.Test.YtehmlnojjfeheaaGreatManyAFnExactPlatformStart
import Derived.Deep.Cut
import Derived.Test.YtehmlnojjfeheaaGreatPfCopy
import Derived.Shelf.LaysM
import Derived.Shelf.Strconv.Clone
import Derived.Test.YtehmlnojjfeheaaGreatProg
import Derived.Test.YtehmlnojjfeheaaGreatPkRow
import Derived.Deep.Slices
import Derived.Lib.SmallJoins
import Derived.Test.YtehmlnojjfeheaaGreatOfOff
/- PlatformStart of any office whose lists are slices as they come, of the program and of its model. -/
namespace Go.Proofs.YtehmlnojjfeheaaGreat
namespace Of
open Go.ChangeShapes Go.WideShapes Go.ChangeAt Go.RowKit
open Pk (new_below join_below cell_at heap_new frozen_at lt_of kept heap_old info_of Room own_form)
open Rd (Ri Rides)
open Od (Oo)
open Tn (Tr Trains)
set_option linter.unusedSimpArgs false
set_option linter.unusedVariables false

theorem Kp.drewG {lo : Nat} {w W : World} (k : Kp lo w W) : Kp lo w W.drew := k

theorem OrdS.orders {w : World} {b p : Nat} {ts : List Oo} (h : OrdS w b p ts) (hb : b < w.heap.size) : Od.Orders w (some ⟨b, p, none⟩) ts := by
  refine Or.inr ⟨b, p, rfl, hb, fun i hi => ?_⟩
  obtain ⟨h1, bi, oi, ci, -, h3, h4⟩ := h i hi
  exact ⟨h1, _, ci, h3, h4⟩

set_option maxRecDepth 100000 in
set_option maxHeartbeats 8000000 in
theorem implPlatG_no (HCS : ∀ (s : ByteArray) (W : World), s.size ≤ 1048576 → Calls Tryz.prog 109 #[.string s] W fun e w' => e = .returned (.string s) ∧ Below W.heap.size W w') (b0 p0 b1 p1 b2 p2 b3 p3 b4 p4 k0 k1 k2 k3 k4 : Nat) (o : Offc) (w : World) (hb0 : b0 < w.heap.size) (hb1 : b1 < w.heap.size) (hb2 : b2 < w.heap.size) (hb3 : b3 < w.heap.size) (hb4 : b4 < w.heap.size) (I0 : Trains w (some ⟨b0, p0, none⟩) o.ln) (I1 : Tf.Edges w (some ⟨b1, p1, none⟩) o.ta) (I2 : Se.Holds w (some ⟨b2, p2, none⟩) o.ho) (I3 : OrdS w b3 p3 o.od) (I4 : Rp.Replys w (some ⟨b4, p4, none⟩) o.to) (hL : Lim o) (hS : Small o) (hB : offB o = false) :
    Calls Tryz.prog 7 #[.agg #[.slice (some ⟨b0, p0, none⟩) o.ln.length k0, .slice (some ⟨b1, p1, none⟩) o.ta.length k1, .slice (some ⟨b2, p2, none⟩) o.ho.length k2, .slice (some ⟨b3, p3, none⟩) o.od.length k3, .slice (some ⟨b4, p4, none⟩) o.to.length k4, .int .i64 o.td]] w fun e w' => e = .returned (.tuple #[.agg #[.slice none 0 0, .slice none 0 0, .slice none 0 0, .slice none 0 0, .slice none 0 0, .int .i64 0, .slice none 0 0, .slice none 0 0, .slice none 0 0, .slice none 0 0, .slice none 0 0, .int .i64 0, .string ⟨#[]⟩, .int .i64 0], .bool false]) ∧ Below w.heap.size w w' := by
  obtain ⟨k0', k1', hsz⟩ := Dk.two_blocks w (.cells #[.slice (some ⟨b0, p0, none⟩) o.ln.length k0, .slice (some ⟨b1, p1, none⟩) o.ta.length k1, .slice (some ⟨b2, p2, none⟩) o.ho.length k2, .slice (some ⟨b3, p3, none⟩) o.od.length k3, .slice (some ⟨b4, p4, none⟩) o.to.length k4, .int .i64 o.td] 36) (.cells #[.slice none 0 0, .slice none 0 0, .slice none 0 0, .slice none 0 0, .slice none 0 0, .int .i64 0, .slice none 0 0, .slice none 0 0, .slice none 0 0, .slice none 0 0, .slice none 0 0, .int .i64 0, .string ⟨#[]⟩, .int .i64 0] 38)
  have N : Below w.heap.size w ((w.alloc (.cells #[.slice (some ⟨b0, p0, none⟩) o.ln.length k0, .slice (some ⟨b1, p1, none⟩) o.ta.length k1, .slice (some ⟨b2, p2, none⟩) o.ho.length k2, .slice (some ⟨b3, p3, none⟩) o.od.length k3, .slice (some ⟨b4, p4, none⟩) o.to.length k4, .int .i64 o.td] 36)).alloc (.cells #[.slice none 0 0, .slice none 0 0, .slice none 0 0, .slice none 0 0, .slice none 0 0, .int .i64 0, .slice none 0 0, .slice none 0 0, .slice none 0 0, .slice none 0 0, .slice none 0 0, .int .i64 0, .string ⟨#[]⟩, .int .i64 0] 38)) := join_below (new_below _ _) (new_below _ _)
  have HOK : Hid (∀ wx, Below w.heap.size w wx → _) := fun wx (L : Below w.heap.size w wx) => implOffice_val ⟨some ⟨b0, p0, none⟩, some ⟨b1, p1, none⟩, some ⟨b2, p2, none⟩, some ⟨b3, p3, none⟩, some ⟨b4, p4, none⟩, k0, k1, k2, k3, k4⟩ o wx hL hS ⟨I0.on L, I1.on L, I2.on L, (I3.orders hb3).on L, I4.on L⟩
  rw [hB] at HOK
  clear I0 I1 I2 I3 I4 hb0 hb1 hb2 hb3 hb4 hL hS hB HCS
  have q0 : ((w.alloc (.cells #[.slice (some ⟨b0, p0, none⟩) o.ln.length k0, .slice (some ⟨b1, p1, none⟩) o.ta.length k1, .slice (some ⟨b2, p2, none⟩) o.ho.length k2, .slice (some ⟨b3, p3, none⟩) o.od.length k3, .slice (some ⟨b4, p4, none⟩) o.to.length k4, .int .i64 o.td] 36)).alloc (.cells #[.slice none 0 0, .slice none 0 0, .slice none 0 0, .slice none 0 0, .slice none 0 0, .int .i64 0, .slice none 0 0, .slice none 0 0, .slice none 0 0, .slice none 0 0, .slice none 0 0, .int .i64 0, .string ⟨#[]⟩, .int .i64 0] 38)).cell? ⟨w.heap.size, 0, none⟩ = some (.slice (some ⟨b0, p0, none⟩) o.ln.length k0) := cell_at k0' 0
  have q1 : ((w.alloc (.cells #[.slice (some ⟨b0, p0, none⟩) o.ln.length k0, .slice (some ⟨b1, p1, none⟩) o.ta.length k1, .slice (some ⟨b2, p2, none⟩) o.ho.length k2, .slice (some ⟨b3, p3, none⟩) o.od.length k3, .slice (some ⟨b4, p4, none⟩) o.to.length k4, .int .i64 o.td] 36)).alloc (.cells #[.slice none 0 0, .slice none 0 0, .slice none 0 0, .slice none 0 0, .slice none 0 0, .int .i64 0, .slice none 0 0, .slice none 0 0, .slice none 0 0, .slice none 0 0, .slice none 0 0, .int .i64 0, .string ⟨#[]⟩, .int .i64 0] 38)).cell? ⟨w.heap.size, 1, none⟩ = some (.slice (some ⟨b1, p1, none⟩) o.ta.length k1) := cell_at k0' 1
  have q2 : ((w.alloc (.cells #[.slice (some ⟨b0, p0, none⟩) o.ln.length k0, .slice (some ⟨b1, p1, none⟩) o.ta.length k1, .slice (some ⟨b2, p2, none⟩) o.ho.length k2, .slice (some ⟨b3, p3, none⟩) o.od.length k3, .slice (some ⟨b4, p4, none⟩) o.to.length k4, .int .i64 o.td] 36)).alloc (.cells #[.slice none 0 0, .slice none 0 0, .slice none 0 0, .slice none 0 0, .slice none 0 0, .int .i64 0, .slice none 0 0, .slice none 0 0, .slice none 0 0, .slice none 0 0, .slice none 0 0, .int .i64 0, .string ⟨#[]⟩, .int .i64 0] 38)).cell? ⟨w.heap.size, 2, none⟩ = some (.slice (some ⟨b2, p2, none⟩) o.ho.length k2) := cell_at k0' 2
  have q3 : ((w.alloc (.cells #[.slice (some ⟨b0, p0, none⟩) o.ln.length k0, .slice (some ⟨b1, p1, none⟩) o.ta.length k1, .slice (some ⟨b2, p2, none⟩) o.ho.length k2, .slice (some ⟨b3, p3, none⟩) o.od.length k3, .slice (some ⟨b4, p4, none⟩) o.to.length k4, .int .i64 o.td] 36)).alloc (.cells #[.slice none 0 0, .slice none 0 0, .slice none 0 0, .slice none 0 0, .slice none 0 0, .int .i64 0, .slice none 0 0, .slice none 0 0, .slice none 0 0, .slice none 0 0, .slice none 0 0, .int .i64 0, .string ⟨#[]⟩, .int .i64 0] 38)).cell? ⟨w.heap.size, 3, none⟩ = some (.slice (some ⟨b3, p3, none⟩) o.od.length k3) := cell_at k0' 3
  have q4 : ((w.alloc (.cells #[.slice (some ⟨b0, p0, none⟩) o.ln.length k0, .slice (some ⟨b1, p1, none⟩) o.ta.length k1, .slice (some ⟨b2, p2, none⟩) o.ho.length k2, .slice (some ⟨b3, p3, none⟩) o.od.length k3, .slice (some ⟨b4, p4, none⟩) o.to.length k4, .int .i64 o.td] 36)).alloc (.cells #[.slice none 0 0, .slice none 0 0, .slice none 0 0, .slice none 0 0, .slice none 0 0, .int .i64 0, .slice none 0 0, .slice none 0 0, .slice none 0 0, .slice none 0 0, .slice none 0 0, .int .i64 0, .string ⟨#[]⟩, .int .i64 0] 38)).cell? ⟨w.heap.size, 4, none⟩ = some (.slice (some ⟨b4, p4, none⟩) o.to.length k4) := cell_at k0' 4
  have q5 : ((w.alloc (.cells #[.slice (some ⟨b0, p0, none⟩) o.ln.length k0, .slice (some ⟨b1, p1, none⟩) o.ta.length k1, .slice (some ⟨b2, p2, none⟩) o.ho.length k2, .slice (some ⟨b3, p3, none⟩) o.od.length k3, .slice (some ⟨b4, p4, none⟩) o.to.length k4, .int .i64 o.td] 36)).alloc (.cells #[.slice none 0 0, .slice none 0 0, .slice none 0 0, .slice none 0 0, .slice none 0 0, .int .i64 0, .slice none 0 0, .slice none 0 0, .slice none 0 0, .slice none 0 0, .slice none 0 0, .int .i64 0, .string ⟨#[]⟩, .int .i64 0] 38)).cell? ⟨w.heap.size, 5, none⟩ = some (.int .i64 o.td) := cell_at k0' 5
  go_enter Tryz.func7, Tryz.ntmps7
  go_wp2_with fail
  refine (HOK.out _ N).mono ?_
  generalize ((w.alloc (.cells #[.slice (some ⟨b0, p0, none⟩) o.ln.length k0, .slice (some ⟨b1, p1, none⟩) o.ta.length k1, .slice (some ⟨b2, p2, none⟩) o.ho.length k2, .slice (some ⟨b3, p3, none⟩) o.od.length k3, .slice (some ⟨b4, p4, none⟩) o.to.length k4, .int .i64 o.td] 36)).alloc (.cells #[.slice none 0 0, .slice none 0 0, .slice none 0 0, .slice none 0 0, .slice none 0 0, .int .i64 0, .slice none 0 0, .slice none 0 0, .slice none 0 0, .slice none 0 0, .slice none 0 0, .int .i64 0, .string ⟨#[]⟩, .int .i64 0] 38)) = v0 at *
  rintro e v1 ⟨rfl, L1⟩
  have m0' := kept L1 (lt_of k0') k0'
  have m1' := kept L1 (lt_of k1') k1'
  have N1 := join_below N L1
  have hv1 : w.heap.size + 1 < v1.heap.size := lt_of m1'
  clear q0 q1 q2 q3 q4 q5 k0' k1' L1 N HOK hsz
  have z0 : v1.cell? ⟨w.heap.size + 1, 0, none⟩ = some (.slice none 0 0) := cell_at m1' 0
  have z1 : v1.cell? ⟨w.heap.size + 1, 1, none⟩ = some (.slice none 0 0) := cell_at m1' 1
  have z2 : v1.cell? ⟨w.heap.size + 1, 2, none⟩ = some (.slice none 0 0) := cell_at m1' 2
  have z3 : v1.cell? ⟨w.heap.size + 1, 3, none⟩ = some (.slice none 0 0) := cell_at m1' 3
  have z4 : v1.cell? ⟨w.heap.size + 1, 4, none⟩ = some (.slice none 0 0) := cell_at m1' 4
  have z5 : v1.cell? ⟨w.heap.size + 1, 5, none⟩ = some (.int .i64 0) := cell_at m1' 5
  have z6 : v1.cell? ⟨w.heap.size + 1, 6, none⟩ = some (.slice none 0 0) := cell_at m1' 6
  have z7 : v1.cell? ⟨w.heap.size + 1, 7, none⟩ = some (.slice none 0 0) := cell_at m1' 7
  have z8 : v1.cell? ⟨w.heap.size + 1, 8, none⟩ = some (.slice none 0 0) := cell_at m1' 8
  have z9 : v1.cell? ⟨w.heap.size + 1, 9, none⟩ = some (.slice none 0 0) := cell_at m1' 9
  have z10 : v1.cell? ⟨w.heap.size + 1, 10, none⟩ = some (.slice none 0 0) := cell_at m1' 10
  have z11 : v1.cell? ⟨w.heap.size + 1, 11, none⟩ = some (.int .i64 0) := cell_at m1' 11
  have z12 : v1.cell? ⟨w.heap.size + 1, 12, none⟩ = some (.string ⟨#[]⟩) := cell_at m1' 12
  have z13 : v1.cell? ⟨w.heap.size + 1, 13, none⟩ = some (.int .i64 0) := cell_at m1' 13
  have f0 : v1.frozen? ⟨w.heap.size + 1, 0, none⟩ = false := frozen_at m1' 0
  have f1 : v1.frozen? ⟨w.heap.size + 1, 1, none⟩ = false := frozen_at m1' 1
  have f2 : v1.frozen? ⟨w.heap.size + 1, 2, none⟩ = false := frozen_at m1' 2
  have f3 : v1.frozen? ⟨w.heap.size + 1, 3, none⟩ = false := frozen_at m1' 3
  have f4 : v1.frozen? ⟨w.heap.size + 1, 4, none⟩ = false := frozen_at m1' 4
  have f5 : v1.frozen? ⟨w.heap.size + 1, 5, none⟩ = false := frozen_at m1' 5
  have f6 : v1.frozen? ⟨w.heap.size + 1, 6, none⟩ = false := frozen_at m1' 6
  have f7 : v1.frozen? ⟨w.heap.size + 1, 7, none⟩ = false := frozen_at m1' 7
  have f8 : v1.frozen? ⟨w.heap.size + 1, 8, none⟩ = false := frozen_at m1' 8
  have f9 : v1.frozen? ⟨w.heap.size + 1, 9, none⟩ = false := frozen_at m1' 9
  have f10 : v1.frozen? ⟨w.heap.size + 1, 10, none⟩ = false := frozen_at m1' 10
  have f11 : v1.frozen? ⟨w.heap.size + 1, 11, none⟩ = false := frozen_at m1' 11
  have f12 : v1.frozen? ⟨w.heap.size + 1, 12, none⟩ = false := frozen_at m1' 12
  have f13 : v1.frozen? ⟨w.heap.size + 1, 13, none⟩ = false := frozen_at m1' 13
  go_wp2
  refine bodyPost_ret (v := .tuple #[.agg #[.slice none 0 0, .slice none 0 0, .slice none 0 0, .slice none 0 0, .slice none 0 0, .int .i64 0, .slice none 0 0, .slice none 0 0, .slice none 0 0, .slice none 0 0, .slice none 0 0, .int .i64 0, .string ⟨#[]⟩, .int .i64 0], .bool false]) (by simp [results, Tryz.results7, go_sem, z0, z1, z2, z3, z4, z5, z6, z7, z8, z9, z10, z11, z12, z13]) rfl ?_
  refine ⟨rfl, ?_⟩
  (repeat' (first | with_reducible exact N1 | with_reducible apply Below.setCell | with_reducible apply Below.drew)) <;> first | (simp; done) | (simp; omega)

set_option maxRecDepth 100000 in
set_option maxHeartbeats 8000000 in
theorem implPlatG_yes (HCS : ∀ (s : ByteArray) (W : World), s.size ≤ 1048576 → Calls Tryz.prog 109 #[.string s] W fun e w' => e = .returned (.string s) ∧ Below W.heap.size W w') (b0 p0 b1 p1 b2 p2 b3 p3 b4 p4 k0 k1 k2 k3 k4 : Nat) (o : Offc) (w : World) (hb0 : b0 < w.heap.size) (hb1 : b1 < w.heap.size) (hb2 : b2 < w.heap.size) (hb3 : b3 < w.heap.size) (hb4 : b4 < w.heap.size) (hn : o.ln.length ≤ 1048576 ∧ o.ta.length ≤ 1048576 ∧ o.ho.length ≤ 1048576 ∧ o.od.length ≤ 1048576 ∧ o.to.length ≤ 1048576) (hs : ∀ i (h : i < o.ln.length), 1 ≤ o.ln[i].l.length ∧ o.ln[i].l.length ≤ 1048576) (hr : ∀ i (h : i < o.od.length), o.od[i].l.length ≤ 1048576 ∧ o.od[i].h.nm.size ≤ 1048576) (I0 : Trains w (some ⟨b0, p0, none⟩) o.ln) (I1 : Tf.Edges w (some ⟨b1, p1, none⟩) o.ta) (I2 : Se.Holds w (some ⟨b2, p2, none⟩) o.ho) (I3 : OrdS w b3 p3 o.od) (I4 : Rp.Replys w (some ⟨b4, p4, none⟩) o.to) (hL : Lim o) (hS : Small o) (hB : offB o = true) :
    Calls Tryz.prog 7 #[.agg #[.slice (some ⟨b0, p0, none⟩) o.ln.length k0, .slice (some ⟨b1, p1, none⟩) o.ta.length k1, .slice (some ⟨b2, p2, none⟩) o.ho.length k2, .slice (some ⟨b3, p3, none⟩) o.od.length k3, .slice (some ⟨b4, p4, none⟩) o.to.length k4, .int .i64 o.td]] w fun e w' => ∃ (x y : Pl) (m0 m1 m2 m3 m4 m5 t0 t1 t2 t3 t4 t5 : Nat) (gf cf hf gf' cf' hf' : Nat → Nat), e = .returned (.tuple #[.agg #[.slice x.a0 o.ln.length x.c0, .slice x.a1 o.ta.length x.c1, .slice x.a2 o.ho.length x.c2, .slice x.a3 o.od.length x.c3, .slice x.a4 o.to.length x.c4, .int .i64 o.td, .slice y.a0 o.ln.length y.c0, .slice y.a1 o.ta.length y.c1, .slice y.a2 o.ho.length y.c2, .slice y.a3 o.od.length y.c3, .slice y.a4 o.to.length y.c4, .int .i64 o.td, .string ⟨#[]⟩, .int .i64 0], .bool true]) ∧ w.heap.size ≤ m0 ∧ m5 ≤ t0 ∧ OG w' m0 m1 m2 m3 m4 m5 x o gf cf hf ∧ OG w' t0 t1 t2 t3 t4 t5 y o gf' cf' hf' ∧ Below w.heap.size w w' := by
  obtain ⟨k0', k1', hsz⟩ := Dk.two_blocks w (.cells #[.slice (some ⟨b0, p0, none⟩) o.ln.length k0, .slice (some ⟨b1, p1, none⟩) o.ta.length k1, .slice (some ⟨b2, p2, none⟩) o.ho.length k2, .slice (some ⟨b3, p3, none⟩) o.od.length k3, .slice (some ⟨b4, p4, none⟩) o.to.length k4, .int .i64 o.td] 36) (.cells #[.slice none 0 0, .slice none 0 0, .slice none 0 0, .slice none 0 0, .slice none 0 0, .int .i64 0, .slice none 0 0, .slice none 0 0, .slice none 0 0, .slice none 0 0, .slice none 0 0, .int .i64 0, .string ⟨#[]⟩, .int .i64 0] 38)
  have N : Below w.heap.size w ((w.alloc (.cells #[.slice (some ⟨b0, p0, none⟩) o.ln.length k0, .slice (some ⟨b1, p1, none⟩) o.ta.length k1, .slice (some ⟨b2, p2, none⟩) o.ho.length k2, .slice (some ⟨b3, p3, none⟩) o.od.length k3, .slice (some ⟨b4, p4, none⟩) o.to.length k4, .int .i64 o.td] 36)).alloc (.cells #[.slice none 0 0, .slice none 0 0, .slice none 0 0, .slice none 0 0, .slice none 0 0, .int .i64 0, .slice none 0 0, .slice none 0 0, .slice none 0 0, .slice none 0 0, .slice none 0 0, .int .i64 0, .string ⟨#[]⟩, .int .i64 0] 38)) := join_below (new_below _ _) (new_below _ _)
  have HOK : Hid (∀ wx, Below w.heap.size w wx → _) := fun wx (L : Below w.heap.size w wx) => implOffice_val ⟨some ⟨b0, p0, none⟩, some ⟨b1, p1, none⟩, some ⟨b2, p2, none⟩, some ⟨b3, p3, none⟩, some ⟨b4, p4, none⟩, k0, k1, k2, k3, k4⟩ o wx hL hS ⟨I0.on L, I1.on L, I2.on L, (I3.orders hb3).on L, I4.on L⟩
  rw [hB] at HOK
  have HCP : Hid (∀ wx, Below w.heap.size w wx → _) := fun wx (L : Below w.heap.size w wx) => copyOffG_val HCS b0 p0 b1 p1 b2 p2 b3 p3 b4 p4 k0 k1 k2 k3 k4 o wx (Nat.lt_of_lt_of_le hb0 L.size) (Nat.lt_of_lt_of_le hb1 L.size) (Nat.lt_of_lt_of_le hb2 L.size) (Nat.lt_of_lt_of_le hb3 L.size) (Nat.lt_of_lt_of_le hb4 L.size) hn hs hr (I0.on L) (I1.on L) (I2.on L) (I3.on L hb3) (I4.on L)
  clear I0 I1 I2 I3 I4 hb0 hb1 hb2 hb3 hb4 hn hs hr hL hS hB HCS
  have q0 : ((w.alloc (.cells #[.slice (some ⟨b0, p0, none⟩) o.ln.length k0, .slice (some ⟨b1, p1, none⟩) o.ta.length k1, .slice (some ⟨b2, p2, none⟩) o.ho.length k2, .slice (some ⟨b3, p3, none⟩) o.od.length k3, .slice (some ⟨b4, p4, none⟩) o.to.length k4, .int .i64 o.td] 36)).alloc (.cells #[.slice none 0 0, .slice none 0 0, .slice none 0 0, .slice none 0 0, .slice none 0 0, .int .i64 0, .slice none 0 0, .slice none 0 0, .slice none 0 0, .slice none 0 0, .slice none 0 0, .int .i64 0, .string ⟨#[]⟩, .int .i64 0] 38)).cell? ⟨w.heap.size, 0, none⟩ = some (.slice (some ⟨b0, p0, none⟩) o.ln.length k0) := cell_at k0' 0
  have q1 : ((w.alloc (.cells #[.slice (some ⟨b0, p0, none⟩) o.ln.length k0, .slice (some ⟨b1, p1, none⟩) o.ta.length k1, .slice (some ⟨b2, p2, none⟩) o.ho.length k2, .slice (some ⟨b3, p3, none⟩) o.od.length k3, .slice (some ⟨b4, p4, none⟩) o.to.length k4, .int .i64 o.td] 36)).alloc (.cells #[.slice none 0 0, .slice none 0 0, .slice none 0 0, .slice none 0 0, .slice none 0 0, .int .i64 0, .slice none 0 0, .slice none 0 0, .slice none 0 0, .slice none 0 0, .slice none 0 0, .int .i64 0, .string ⟨#[]⟩, .int .i64 0] 38)).cell? ⟨w.heap.size, 1, none⟩ = some (.slice (some ⟨b1, p1, none⟩) o.ta.length k1) := cell_at k0' 1
  have q2 : ((w.alloc (.cells #[.slice (some ⟨b0, p0, none⟩) o.ln.length k0, .slice (some ⟨b1, p1, none⟩) o.ta.length k1, .slice (some ⟨b2, p2, none⟩) o.ho.length k2, .slice (some ⟨b3, p3, none⟩) o.od.length k3, .slice (some ⟨b4, p4, none⟩) o.to.length k4, .int .i64 o.td] 36)).alloc (.cells #[.slice none 0 0, .slice none 0 0, .slice none 0 0, .slice none 0 0, .slice none 0 0, .int .i64 0, .slice none 0 0, .slice none 0 0, .slice none 0 0, .slice none 0 0, .slice none 0 0, .int .i64 0, .string ⟨#[]⟩, .int .i64 0] 38)).cell? ⟨w.heap.size, 2, none⟩ = some (.slice (some ⟨b2, p2, none⟩) o.ho.length k2) := cell_at k0' 2
  have q3 : ((w.alloc (.cells #[.slice (some ⟨b0, p0, none⟩) o.ln.length k0, .slice (some ⟨b1, p1, none⟩) o.ta.length k1, .slice (some ⟨b2, p2, none⟩) o.ho.length k2, .slice (some ⟨b3, p3, none⟩) o.od.length k3, .slice (some ⟨b4, p4, none⟩) o.to.length k4, .int .i64 o.td] 36)).alloc (.cells #[.slice none 0 0, .slice none 0 0, .slice none 0 0, .slice none 0 0, .slice none 0 0, .int .i64 0, .slice none 0 0, .slice none 0 0, .slice none 0 0, .slice none 0 0, .slice none 0 0, .int .i64 0, .string ⟨#[]⟩, .int .i64 0] 38)).cell? ⟨w.heap.size, 3, none⟩ = some (.slice (some ⟨b3, p3, none⟩) o.od.length k3) := cell_at k0' 3
  have q4 : ((w.alloc (.cells #[.slice (some ⟨b0, p0, none⟩) o.ln.length k0, .slice (some ⟨b1, p1, none⟩) o.ta.length k1, .slice (some ⟨b2, p2, none⟩) o.ho.length k2, .slice (some ⟨b3, p3, none⟩) o.od.length k3, .slice (some ⟨b4, p4, none⟩) o.to.length k4, .int .i64 o.td] 36)).alloc (.cells #[.slice none 0 0, .slice none 0 0, .slice none 0 0, .slice none 0 0, .slice none 0 0, .int .i64 0, .slice none 0 0, .slice none 0 0, .slice none 0 0, .slice none 0 0, .slice none 0 0, .int .i64 0, .string ⟨#[]⟩, .int .i64 0] 38)).cell? ⟨w.heap.size, 4, none⟩ = some (.slice (some ⟨b4, p4, none⟩) o.to.length k4) := cell_at k0' 4
  have q5 : ((w.alloc (.cells #[.slice (some ⟨b0, p0, none⟩) o.ln.length k0, .slice (some ⟨b1, p1, none⟩) o.ta.length k1, .slice (some ⟨b2, p2, none⟩) o.ho.length k2, .slice (some ⟨b3, p3, none⟩) o.od.length k3, .slice (some ⟨b4, p4, none⟩) o.to.length k4, .int .i64 o.td] 36)).alloc (.cells #[.slice none 0 0, .slice none 0 0, .slice none 0 0, .slice none 0 0, .slice none 0 0, .int .i64 0, .slice none 0 0, .slice none 0 0, .slice none 0 0, .slice none 0 0, .slice none 0 0, .int .i64 0, .string ⟨#[]⟩, .int .i64 0] 38)).cell? ⟨w.heap.size, 5, none⟩ = some (.int .i64 o.td) := cell_at k0' 5
  go_enter Tryz.func7, Tryz.ntmps7
  go_wp2_with fail
  refine (HOK.out _ N).mono ?_
  generalize ((w.alloc (.cells #[.slice (some ⟨b0, p0, none⟩) o.ln.length k0, .slice (some ⟨b1, p1, none⟩) o.ta.length k1, .slice (some ⟨b2, p2, none⟩) o.ho.length k2, .slice (some ⟨b3, p3, none⟩) o.od.length k3, .slice (some ⟨b4, p4, none⟩) o.to.length k4, .int .i64 o.td] 36)).alloc (.cells #[.slice none 0 0, .slice none 0 0, .slice none 0 0, .slice none 0 0, .slice none 0 0, .int .i64 0, .slice none 0 0, .slice none 0 0, .slice none 0 0, .slice none 0 0, .slice none 0 0, .int .i64 0, .string ⟨#[]⟩, .int .i64 0] 38)) = v0 at *
  rintro e v1 ⟨rfl, L1⟩
  have m0' := kept L1 (lt_of k0') k0'
  have m1' := kept L1 (lt_of k1') k1'
  have N1 := join_below N L1
  have hv1 : w.heap.size + 1 < v1.heap.size := lt_of m1'
  clear q0 q1 q2 q3 q4 q5 k0' k1' L1 N HOK hsz
  have q0 : v1.cell? ⟨w.heap.size, 0, none⟩ = some (.slice (some ⟨b0, p0, none⟩) o.ln.length k0) := cell_at m0' 0
  have q1 : v1.cell? ⟨w.heap.size, 1, none⟩ = some (.slice (some ⟨b1, p1, none⟩) o.ta.length k1) := cell_at m0' 1
  have q2 : v1.cell? ⟨w.heap.size, 2, none⟩ = some (.slice (some ⟨b2, p2, none⟩) o.ho.length k2) := cell_at m0' 2
  have q3 : v1.cell? ⟨w.heap.size, 3, none⟩ = some (.slice (some ⟨b3, p3, none⟩) o.od.length k3) := cell_at m0' 3
  have q4 : v1.cell? ⟨w.heap.size, 4, none⟩ = some (.slice (some ⟨b4, p4, none⟩) o.to.length k4) := cell_at m0' 4
  have q5 : v1.cell? ⟨w.heap.size, 5, none⟩ = some (.int .i64 o.td) := cell_at m0' 5
  go_wp2
  go_region_held3 (fun w' => w'.cell? ⟨w.heap.size, 0, none⟩ = some (.slice (some ⟨b0, p0, none⟩) o.ln.length k0) ∧ w'.cell? ⟨w.heap.size, 1, none⟩ = some (.slice (some ⟨b1, p1, none⟩) o.ta.length k1) ∧ w'.cell? ⟨w.heap.size, 2, none⟩ = some (.slice (some ⟨b2, p2, none⟩) o.ho.length k2) ∧ w'.cell? ⟨w.heap.size, 3, none⟩ = some (.slice (some ⟨b3, p3, none⟩) o.od.length k3) ∧ w'.cell? ⟨w.heap.size, 4, none⟩ = some (.slice (some ⟨b4, p4, none⟩) o.to.length k4) ∧ w'.cell? ⟨w.heap.size, 5, none⟩ = some (.int .i64 o.td)) (go_keep) (first
    | (go_at_call 26; have hh := M1; clear hh; (with_reducible refine (HCP.out _ ?_).mono ?_); (first | with_reducible exact N2 | with_reducible exact N2.drew); rintro e n2 ⟨y, t0, t1, t2, t3, t4, t5, gf', cf', hf', rfl, ht0, S2, M0⟩; have M2 : Below n1.heap.size n1 n2 := (by first | with_reducible exact M0 | exact ((Below.refl _ _).drew).trans M0); have N3 := join_below N2 M2; have e0 := kept M2 (lt_of j0) j0; have e1 := kept M2 (lt_of j1) j1; have r0 : n2.cell? ⟨w.heap.size, 0, none⟩ = some (.slice (some ⟨b0, p0, none⟩) o.ln.length k0) := cell_at e0 0; have r1 : n2.cell? ⟨w.heap.size, 1, none⟩ = some (.slice (some ⟨b1, p1, none⟩) o.ta.length k1) := cell_at e0 1; have r2 : n2.cell? ⟨w.heap.size, 2, none⟩ = some (.slice (some ⟨b2, p2, none⟩) o.ho.length k2) := cell_at e0 2; have r3 : n2.cell? ⟨w.heap.size, 3, none⟩ = some (.slice (some ⟨b3, p3, none⟩) o.od.length k3) := cell_at e0 3; have r4 : n2.cell? ⟨w.heap.size, 4, none⟩ = some (.slice (some ⟨b4, p4, none⟩) o.to.length k4) := cell_at e0 4; have r5 : n2.cell? ⟨w.heap.size, 5, none⟩ = some (.int .i64 o.td) := cell_at e0 5; have z0 : n2.cell? ⟨w.heap.size + 1, 0, none⟩ = some (.slice none 0 0) := cell_at e1 0; have z1 : n2.cell? ⟨w.heap.size + 1, 1, none⟩ = some (.slice none 0 0) := cell_at e1 1; have z2 : n2.cell? ⟨w.heap.size + 1, 2, none⟩ = some (.slice none 0 0) := cell_at e1 2; have z3 : n2.cell? ⟨w.heap.size + 1, 3, none⟩ = some (.slice none 0 0) := cell_at e1 3; have z4 : n2.cell? ⟨w.heap.size + 1, 4, none⟩ = some (.slice none 0 0) := cell_at e1 4; have z5 : n2.cell? ⟨w.heap.size + 1, 5, none⟩ = some (.int .i64 0) := cell_at e1 5; have z6 : n2.cell? ⟨w.heap.size + 1, 6, none⟩ = some (.slice none 0 0) := cell_at e1 6; have z7 : n2.cell? ⟨w.heap.size + 1, 7, none⟩ = some (.slice none 0 0) := cell_at e1 7; have z8 : n2.cell? ⟨w.heap.size + 1, 8, none⟩ = some (.slice none 0 0) := cell_at e1 8; have z9 : n2.cell? ⟨w.heap.size + 1, 9, none⟩ = some (.slice none 0 0) := cell_at e1 9; have z10 : n2.cell? ⟨w.heap.size + 1, 10, none⟩ = some (.slice none 0 0) := cell_at e1 10; have z11 : n2.cell? ⟨w.heap.size + 1, 11, none⟩ = some (.int .i64 0) := cell_at e1 11; have z12 : n2.cell? ⟨w.heap.size + 1, 12, none⟩ = some (.string ⟨#[]⟩) := cell_at e1 12; have z13 : n2.cell? ⟨w.heap.size + 1, 13, none⟩ = some (.int .i64 0) := cell_at e1 13; have f0 : n2.frozen? ⟨w.heap.size + 1, 0, none⟩ = false := frozen_at e1 0; have f1 : n2.frozen? ⟨w.heap.size + 1, 1, none⟩ = false := frozen_at e1 1; have f2 : n2.frozen? ⟨w.heap.size + 1, 2, none⟩ = false := frozen_at e1 2; have f3 : n2.frozen? ⟨w.heap.size + 1, 3, none⟩ = false := frozen_at e1 3; have f4 : n2.frozen? ⟨w.heap.size + 1, 4, none⟩ = false := frozen_at e1 4; have f5 : n2.frozen? ⟨w.heap.size + 1, 5, none⟩ = false := frozen_at e1 5; have f6 : n2.frozen? ⟨w.heap.size + 1, 6, none⟩ = false := frozen_at e1 6; have f7 : n2.frozen? ⟨w.heap.size + 1, 7, none⟩ = false := frozen_at e1 7; have f8 : n2.frozen? ⟨w.heap.size + 1, 8, none⟩ = false := frozen_at e1 8; have f9 : n2.frozen? ⟨w.heap.size + 1, 9, none⟩ = false := frozen_at e1 9; have f10 : n2.frozen? ⟨w.heap.size + 1, 10, none⟩ = false := frozen_at e1 10; have f11 : n2.frozen? ⟨w.heap.size + 1, 11, none⟩ = false := frozen_at e1 11; have f12 : n2.frozen? ⟨w.heap.size + 1, 12, none⟩ = false := frozen_at e1 12; have f13 : n2.frozen? ⟨w.heap.size + 1, 13, none⟩ = false := frozen_at e1 13; clear M0)
    | (go_at_call 26; (with_reducible refine (HCP.out _ ?_).mono ?_); (first | with_reducible exact N1 | with_reducible exact N1.drew); rintro e n1 ⟨x, m0, m1, m2, m3, m4, m5, gf, cf, hf, rfl, hm0, S1, M0⟩; have M1 : Below v1.heap.size v1 n1 := (by first | with_reducible exact M0 | exact ((Below.refl _ _).drew).trans M0); have N2 := join_below N1 M1; have j0 := kept M1 (lt_of m0') m0'; have j1 := kept M1 (lt_of m1') m1'; have r0 : n1.cell? ⟨w.heap.size, 0, none⟩ = some (.slice (some ⟨b0, p0, none⟩) o.ln.length k0) := cell_at j0 0; have r1 : n1.cell? ⟨w.heap.size, 1, none⟩ = some (.slice (some ⟨b1, p1, none⟩) o.ta.length k1) := cell_at j0 1; have r2 : n1.cell? ⟨w.heap.size, 2, none⟩ = some (.slice (some ⟨b2, p2, none⟩) o.ho.length k2) := cell_at j0 2; have r3 : n1.cell? ⟨w.heap.size, 3, none⟩ = some (.slice (some ⟨b3, p3, none⟩) o.od.length k3) := cell_at j0 3; have r4 : n1.cell? ⟨w.heap.size, 4, none⟩ = some (.slice (some ⟨b4, p4, none⟩) o.to.length k4) := cell_at j0 4; have r5 : n1.cell? ⟨w.heap.size, 5, none⟩ = some (.int .i64 o.td) := cell_at j0 5; clear M0))
  all_goals
    go_wp2
    refine bodyPost_ret (v := .tuple #[.agg #[.slice x.a0 o.ln.length x.c0, .slice x.a1 o.ta.length x.c1, .slice x.a2 o.ho.length x.c2, .slice x.a3 o.od.length x.c3, .slice x.a4 o.to.length x.c4, .int .i64 o.td, .slice y.a0 o.ln.length y.c0, .slice y.a1 o.ta.length y.c1, .slice y.a2 o.ho.length y.c2, .slice y.a3 o.od.length y.c3, .slice y.a4 o.to.length y.c4, .int .i64 o.td, .string ⟨#[]⟩, .int .i64 0], .bool true]) (by simp [results, Tryz.results7, go_sem, z0, z1, z2, z3, z4, z5, z6, z7, z8, z9, z10, z11, z12, z13]) rfl ?_
    have hn1 : v1.heap.size ≤ n1.heap.size := M1.size
    have hm1 : v1.heap.size ≤ m0 := hm0
    have ht1 : n1.heap.size ≤ t0 := ht0
    have T1 : OG n2 m0 m1 m2 m3 m4 m5 x o gf cf hf := S1.kh ((Kh.refl _ _).of M2)
    have hle := S1.le.2.2.2.2.2
    refine ⟨x, y, m0, m1, m2, m3, m4, m5, t0, t1, t2, t3, t4, t5, gf, cf, hf, gf', cf', hf', rfl, by omega, by omega, T1.kh ?_, S2.kh ?_, ?_⟩
    · (repeat' (first | with_reducible exact Kh.refl _ _ | with_reducible apply Kh.setG | with_reducible apply Kh.drewG)) <;> omega
    · (repeat' (first | with_reducible exact Kh.refl _ _ | with_reducible apply Kh.setG | with_reducible apply Kh.drewG)) <;> omega
    · (repeat' (first | with_reducible exact N3 | with_reducible apply Below.setCell | with_reducible apply Below.drew)) <;> first | (simp; done) | (simp; omega)

set_option maxRecDepth 100000 in
set_option maxHeartbeats 8000000 in
theorem specPlatG_no (b0 p0 b1 p1 b2 p2 b3 p3 b4 p4 k0 k1 k2 k3 k4 : Nat) (o : Offc) (w : World) (hb0 : b0 < w.heap.size) (hb1 : b1 < w.heap.size) (hb2 : b2 < w.heap.size) (hb3 : b3 < w.heap.size) (hb4 : b4 < w.heap.size) (I0 : Trains w (some ⟨b0, p0, none⟩) o.ln) (I1 : Tf.Edges w (some ⟨b1, p1, none⟩) o.ta) (I2 : Se.Holds w (some ⟨b2, p2, none⟩) o.ho) (I3 : OrdS w b3 p3 o.od) (I4 : Rp.Replys w (some ⟨b4, p4, none⟩) o.to) (hL : Lim o) (hS : Small o) (hB : offB o = false) :
    Calls Tryz.prog 5 #[.agg #[.slice (some ⟨b0, p0, none⟩) o.ln.length k0, .slice (some ⟨b1, p1, none⟩) o.ta.length k1, .slice (some ⟨b2, p2, none⟩) o.ho.length k2, .slice (some ⟨b3, p3, none⟩) o.od.length k3, .slice (some ⟨b4, p4, none⟩) o.to.length k4, .int .i64 o.td]] w fun e w' => e = .returned (.tuple #[.agg #[.slice none 0 0, .slice none 0 0, .slice none 0 0, .slice none 0 0, .slice none 0 0, .int .i64 0, .slice none 0 0, .slice none 0 0, .slice none 0 0, .slice none 0 0, .slice none 0 0, .int .i64 0, .string ⟨#[]⟩, .int .i64 0], .bool false]) ∧ Below w.heap.size w w' := by
  obtain ⟨k0', k1', hsz⟩ := Dk.two_blocks w (.cells #[.slice (some ⟨b0, p0, none⟩) o.ln.length k0, .slice (some ⟨b1, p1, none⟩) o.ta.length k1, .slice (some ⟨b2, p2, none⟩) o.ho.length k2, .slice (some ⟨b3, p3, none⟩) o.od.length k3, .slice (some ⟨b4, p4, none⟩) o.to.length k4, .int .i64 o.td] 36) (.cells #[.slice none 0 0, .slice none 0 0, .slice none 0 0, .slice none 0 0, .slice none 0 0, .int .i64 0, .slice none 0 0, .slice none 0 0, .slice none 0 0, .slice none 0 0, .slice none 0 0, .int .i64 0, .string ⟨#[]⟩, .int .i64 0] 38)
  have N : Below w.heap.size w ((w.alloc (.cells #[.slice (some ⟨b0, p0, none⟩) o.ln.length k0, .slice (some ⟨b1, p1, none⟩) o.ta.length k1, .slice (some ⟨b2, p2, none⟩) o.ho.length k2, .slice (some ⟨b3, p3, none⟩) o.od.length k3, .slice (some ⟨b4, p4, none⟩) o.to.length k4, .int .i64 o.td] 36)).alloc (.cells #[.slice none 0 0, .slice none 0 0, .slice none 0 0, .slice none 0 0, .slice none 0 0, .int .i64 0, .slice none 0 0, .slice none 0 0, .slice none 0 0, .slice none 0 0, .slice none 0 0, .int .i64 0, .string ⟨#[]⟩, .int .i64 0] 38)) := join_below (new_below _ _) (new_below _ _)
  have HOK : Hid (∀ wx, Below w.heap.size w wx → _) := fun wx (L : Below w.heap.size w wx) => specOffice_val ⟨some ⟨b0, p0, none⟩, some ⟨b1, p1, none⟩, some ⟨b2, p2, none⟩, some ⟨b3, p3, none⟩, some ⟨b4, p4, none⟩, k0, k1, k2, k3, k4⟩ o wx hL hS ⟨I0.on L, I1.on L, I2.on L, (I3.orders hb3).on L, I4.on L⟩
  rw [hB] at HOK
  clear I0 I1 I2 I3 I4 hb0 hb1 hb2 hb3 hb4 hL hS hB
  have q0 : ((w.alloc (.cells #[.slice (some ⟨b0, p0, none⟩) o.ln.length k0, .slice (some ⟨b1, p1, none⟩) o.ta.length k1, .slice (some ⟨b2, p2, none⟩) o.ho.length k2, .slice (some ⟨b3, p3, none⟩) o.od.length k3, .slice (some ⟨b4, p4, none⟩) o.to.length k4, .int .i64 o.td] 36)).alloc (.cells #[.slice none 0 0, .slice none 0 0, .slice none 0 0, .slice none 0 0, .slice none 0 0, .int .i64 0, .slice none 0 0, .slice none 0 0, .slice none 0 0, .slice none 0 0, .slice none 0 0, .int .i64 0, .string ⟨#[]⟩, .int .i64 0] 38)).cell? ⟨w.heap.size, 0, none⟩ = some (.slice (some ⟨b0, p0, none⟩) o.ln.length k0) := cell_at k0' 0
  have q1 : ((w.alloc (.cells #[.slice (some ⟨b0, p0, none⟩) o.ln.length k0, .slice (some ⟨b1, p1, none⟩) o.ta.length k1, .slice (some ⟨b2, p2, none⟩) o.ho.length k2, .slice (some ⟨b3, p3, none⟩) o.od.length k3, .slice (some ⟨b4, p4, none⟩) o.to.length k4, .int .i64 o.td] 36)).alloc (.cells #[.slice none 0 0, .slice none 0 0, .slice none 0 0, .slice none 0 0, .slice none 0 0, .int .i64 0, .slice none 0 0, .slice none 0 0, .slice none 0 0, .slice none 0 0, .slice none 0 0, .int .i64 0, .string ⟨#[]⟩, .int .i64 0] 38)).cell? ⟨w.heap.size, 1, none⟩ = some (.slice (some ⟨b1, p1, none⟩) o.ta.length k1) := cell_at k0' 1
  have q2 : ((w.alloc (.cells #[.slice (some ⟨b0, p0, none⟩) o.ln.length k0, .slice (some ⟨b1, p1, none⟩) o.ta.length k1, .slice (some ⟨b2, p2, none⟩) o.ho.length k2, .slice (some ⟨b3, p3, none⟩) o.od.length k3, .slice (some ⟨b4, p4, none⟩) o.to.length k4, .int .i64 o.td] 36)).alloc (.cells #[.slice none 0 0, .slice none 0 0, .slice none 0 0, .slice none 0 0, .slice none 0 0, .int .i64 0, .slice none 0 0, .slice none 0 0, .slice none 0 0, .slice none 0 0, .slice none 0 0, .int .i64 0, .string ⟨#[]⟩, .int .i64 0] 38)).cell? ⟨w.heap.size, 2, none⟩ = some (.slice (some ⟨b2, p2, none⟩) o.ho.length k2) := cell_at k0' 2
  have q3 : ((w.alloc (.cells #[.slice (some ⟨b0, p0, none⟩) o.ln.length k0, .slice (some ⟨b1, p1, none⟩) o.ta.length k1, .slice (some ⟨b2, p2, none⟩) o.ho.length k2, .slice (some ⟨b3, p3, none⟩) o.od.length k3, .slice (some ⟨b4, p4, none⟩) o.to.length k4, .int .i64 o.td] 36)).alloc (.cells #[.slice none 0 0, .slice none 0 0, .slice none 0 0, .slice none 0 0, .slice none 0 0, .int .i64 0, .slice none 0 0, .slice none 0 0, .slice none 0 0, .slice none 0 0, .slice none 0 0, .int .i64 0, .string ⟨#[]⟩, .int .i64 0] 38)).cell? ⟨w.heap.size, 3, none⟩ = some (.slice (some ⟨b3, p3, none⟩) o.od.length k3) := cell_at k0' 3
  have q4 : ((w.alloc (.cells #[.slice (some ⟨b0, p0, none⟩) o.ln.length k0, .slice (some ⟨b1, p1, none⟩) o.ta.length k1, .slice (some ⟨b2, p2, none⟩) o.ho.length k2, .slice (some ⟨b3, p3, none⟩) o.od.length k3, .slice (some ⟨b4, p4, none⟩) o.to.length k4, .int .i64 o.td] 36)).alloc (.cells #[.slice none 0 0, .slice none 0 0, .slice none 0 0, .slice none 0 0, .slice none 0 0, .int .i64 0, .slice none 0 0, .slice none 0 0, .slice none 0 0, .slice none 0 0, .slice none 0 0, .int .i64 0, .string ⟨#[]⟩, .int .i64 0] 38)).cell? ⟨w.heap.size, 4, none⟩ = some (.slice (some ⟨b4, p4, none⟩) o.to.length k4) := cell_at k0' 4
  have q5 : ((w.alloc (.cells #[.slice (some ⟨b0, p0, none⟩) o.ln.length k0, .slice (some ⟨b1, p1, none⟩) o.ta.length k1, .slice (some ⟨b2, p2, none⟩) o.ho.length k2, .slice (some ⟨b3, p3, none⟩) o.od.length k3, .slice (some ⟨b4, p4, none⟩) o.to.length k4, .int .i64 o.td] 36)).alloc (.cells #[.slice none 0 0, .slice none 0 0, .slice none 0 0, .slice none 0 0, .slice none 0 0, .int .i64 0, .slice none 0 0, .slice none 0 0, .slice none 0 0, .slice none 0 0, .slice none 0 0, .int .i64 0, .string ⟨#[]⟩, .int .i64 0] 38)).cell? ⟨w.heap.size, 5, none⟩ = some (.int .i64 o.td) := cell_at k0' 5
  go_enter Tryz.func5, Tryz.ntmps5
  go_wp2_with fail
  refine (HOK.out _ N).mono ?_
  generalize ((w.alloc (.cells #[.slice (some ⟨b0, p0, none⟩) o.ln.length k0, .slice (some ⟨b1, p1, none⟩) o.ta.length k1, .slice (some ⟨b2, p2, none⟩) o.ho.length k2, .slice (some ⟨b3, p3, none⟩) o.od.length k3, .slice (some ⟨b4, p4, none⟩) o.to.length k4, .int .i64 o.td] 36)).alloc (.cells #[.slice none 0 0, .slice none 0 0, .slice none 0 0, .slice none 0 0, .slice none 0 0, .int .i64 0, .slice none 0 0, .slice none 0 0, .slice none 0 0, .slice none 0 0, .slice none 0 0, .int .i64 0, .string ⟨#[]⟩, .int .i64 0] 38)) = v0 at *
  rintro e v1 ⟨rfl, L1⟩
  have m0' := kept L1 (lt_of k0') k0'
  have m1' := kept L1 (lt_of k1') k1'
  have N1 := join_below N L1
  have hv1 : w.heap.size + 1 < v1.heap.size := lt_of m1'
  clear q0 q1 q2 q3 q4 q5 k0' k1' L1 N HOK hsz
  have z0 : v1.cell? ⟨w.heap.size + 1, 0, none⟩ = some (.slice none 0 0) := cell_at m1' 0
  have z1 : v1.cell? ⟨w.heap.size + 1, 1, none⟩ = some (.slice none 0 0) := cell_at m1' 1
  have z2 : v1.cell? ⟨w.heap.size + 1, 2, none⟩ = some (.slice none 0 0) := cell_at m1' 2
  have z3 : v1.cell? ⟨w.heap.size + 1, 3, none⟩ = some (.slice none 0 0) := cell_at m1' 3
  have z4 : v1.cell? ⟨w.heap.size + 1, 4, none⟩ = some (.slice none 0 0) := cell_at m1' 4
  have z5 : v1.cell? ⟨w.heap.size + 1, 5, none⟩ = some (.int .i64 0) := cell_at m1' 5
  have z6 : v1.cell? ⟨w.heap.size + 1, 6, none⟩ = some (.slice none 0 0) := cell_at m1' 6
  have z7 : v1.cell? ⟨w.heap.size + 1, 7, none⟩ = some (.slice none 0 0) := cell_at m1' 7
  have z8 : v1.cell? ⟨w.heap.size + 1, 8, none⟩ = some (.slice none 0 0) := cell_at m1' 8
  have z9 : v1.cell? ⟨w.heap.size + 1, 9, none⟩ = some (.slice none 0 0) := cell_at m1' 9
  have z10 : v1.cell? ⟨w.heap.size + 1, 10, none⟩ = some (.slice none 0 0) := cell_at m1' 10
  have z11 : v1.cell? ⟨w.heap.size + 1, 11, none⟩ = some (.int .i64 0) := cell_at m1' 11
  have z12 : v1.cell? ⟨w.heap.size + 1, 12, none⟩ = some (.string ⟨#[]⟩) := cell_at m1' 12
  have z13 : v1.cell? ⟨w.heap.size + 1, 13, none⟩ = some (.int .i64 0) := cell_at m1' 13
  have f0 : v1.frozen? ⟨w.heap.size + 1, 0, none⟩ = false := frozen_at m1' 0
  have f1 : v1.frozen? ⟨w.heap.size + 1, 1, none⟩ = false := frozen_at m1' 1
  have f2 : v1.frozen? ⟨w.heap.size + 1, 2, none⟩ = false := frozen_at m1' 2
  have f3 : v1.frozen? ⟨w.heap.size + 1, 3, none⟩ = false := frozen_at m1' 3
  have f4 : v1.frozen? ⟨w.heap.size + 1, 4, none⟩ = false := frozen_at m1' 4
  have f5 : v1.frozen? ⟨w.heap.size + 1, 5, none⟩ = false := frozen_at m1' 5
  have f6 : v1.frozen? ⟨w.heap.size + 1, 6, none⟩ = false := frozen_at m1' 6
  have f7 : v1.frozen? ⟨w.heap.size + 1, 7, none⟩ = false := frozen_at m1' 7
  have f8 : v1.frozen? ⟨w.heap.size + 1, 8, none⟩ = false := frozen_at m1' 8
  have f9 : v1.frozen? ⟨w.heap.size + 1, 9, none⟩ = false := frozen_at m1' 9
  have f10 : v1.frozen? ⟨w.heap.size + 1, 10, none⟩ = false := frozen_at m1' 10
  have f11 : v1.frozen? ⟨w.heap.size + 1, 11, none⟩ = false := frozen_at m1' 11
  have f12 : v1.frozen? ⟨w.heap.size + 1, 12, none⟩ = false := frozen_at m1' 12
  have f13 : v1.frozen? ⟨w.heap.size + 1, 13, none⟩ = false := frozen_at m1' 13
  go_wp2
  refine bodyPost_ret (v := .tuple #[.agg #[.slice none 0 0, .slice none 0 0, .slice none 0 0, .slice none 0 0, .slice none 0 0, .int .i64 0, .slice none 0 0, .slice none 0 0, .slice none 0 0, .slice none 0 0, .slice none 0 0, .int .i64 0, .string ⟨#[]⟩, .int .i64 0], .bool false]) (by simp [results, Tryz.results5, go_sem, z0, z1, z2, z3, z4, z5, z6, z7, z8, z9, z10, z11, z12, z13]) rfl ?_
  refine ⟨rfl, ?_⟩
  (repeat' (first | with_reducible exact N1 | with_reducible apply Below.setCell | with_reducible apply Below.drew)) <;> first | (simp; done) | (simp; omega)

set_option maxRecDepth 100000 in
set_option maxHeartbeats 8000000 in
theorem specPlatG_yes (b0 p0 b1 p1 b2 p2 b3 p3 b4 p4 k0 k1 k2 k3 k4 : Nat) (o : Offc) (w : World) (hb0 : b0 < w.heap.size) (hb1 : b1 < w.heap.size) (hb2 : b2 < w.heap.size) (hb3 : b3 < w.heap.size) (hb4 : b4 < w.heap.size) (hn : o.ln.length ≤ 1048576 ∧ o.ta.length ≤ 1048576 ∧ o.ho.length ≤ 1048576 ∧ o.od.length ≤ 1048576 ∧ o.to.length ≤ 1048576) (hs : ∀ i (h : i < o.ln.length), 1 ≤ o.ln[i].l.length ∧ o.ln[i].l.length ≤ 1048576) (hr : ∀ i (h : i < o.od.length), o.od[i].l.length ≤ 1048576 ∧ o.od[i].h.nm.size ≤ 1048576) (I0 : Trains w (some ⟨b0, p0, none⟩) o.ln) (I1 : Tf.Edges w (some ⟨b1, p1, none⟩) o.ta) (I2 : Se.Holds w (some ⟨b2, p2, none⟩) o.ho) (I3 : OrdS w b3 p3 o.od) (I4 : Rp.Replys w (some ⟨b4, p4, none⟩) o.to) (hL : Lim o) (hS : Small o) (hB : offB o = true) :
    Calls Tryz.prog 5 #[.agg #[.slice (some ⟨b0, p0, none⟩) o.ln.length k0, .slice (some ⟨b1, p1, none⟩) o.ta.length k1, .slice (some ⟨b2, p2, none⟩) o.ho.length k2, .slice (some ⟨b3, p3, none⟩) o.od.length k3, .slice (some ⟨b4, p4, none⟩) o.to.length k4, .int .i64 o.td]] w fun e w' => ∃ x y : Pl, e = .returned (.tuple #[.agg #[.slice x.a0 o.ln.length x.c0, .slice x.a1 o.ta.length x.c1, .slice x.a2 o.ho.length x.c2, .slice x.a3 o.od.length x.c3, .slice x.a4 o.to.length x.c4, .int .i64 o.td, .slice y.a0 o.ln.length y.c0, .slice y.a1 o.ta.length y.c1, .slice y.a2 o.ho.length y.c2, .slice y.a3 o.od.length y.c3, .slice y.a4 o.to.length y.c4, .int .i64 o.td, .string ⟨#[]⟩, .int .i64 0], .bool true]) ∧ Dk.InK w.heap.size w' x o ∧ Dk.InK w.heap.size w' y o ∧ Below w.heap.size w w' := by
  obtain ⟨k0', k1', hsz⟩ := Dk.two_blocks w (.cells #[.slice (some ⟨b0, p0, none⟩) o.ln.length k0, .slice (some ⟨b1, p1, none⟩) o.ta.length k1, .slice (some ⟨b2, p2, none⟩) o.ho.length k2, .slice (some ⟨b3, p3, none⟩) o.od.length k3, .slice (some ⟨b4, p4, none⟩) o.to.length k4, .int .i64 o.td] 36) (.cells #[.slice none 0 0, .slice none 0 0, .slice none 0 0, .slice none 0 0, .slice none 0 0, .int .i64 0, .slice none 0 0, .slice none 0 0, .slice none 0 0, .slice none 0 0, .slice none 0 0, .int .i64 0, .string ⟨#[]⟩, .int .i64 0] 38)
  have N : Below w.heap.size w ((w.alloc (.cells #[.slice (some ⟨b0, p0, none⟩) o.ln.length k0, .slice (some ⟨b1, p1, none⟩) o.ta.length k1, .slice (some ⟨b2, p2, none⟩) o.ho.length k2, .slice (some ⟨b3, p3, none⟩) o.od.length k3, .slice (some ⟨b4, p4, none⟩) o.to.length k4, .int .i64 o.td] 36)).alloc (.cells #[.slice none 0 0, .slice none 0 0, .slice none 0 0, .slice none 0 0, .slice none 0 0, .int .i64 0, .slice none 0 0, .slice none 0 0, .slice none 0 0, .slice none 0 0, .slice none 0 0, .int .i64 0, .string ⟨#[]⟩, .int .i64 0] 38)) := join_below (new_below _ _) (new_below _ _)
  have HOK : Hid (∀ wx, Below w.heap.size w wx → _) := fun wx (L : Below w.heap.size w wx) => specOffice_val ⟨some ⟨b0, p0, none⟩, some ⟨b1, p1, none⟩, some ⟨b2, p2, none⟩, some ⟨b3, p3, none⟩, some ⟨b4, p4, none⟩, k0, k1, k2, k3, k4⟩ o wx hL hS ⟨I0.on L, I1.on L, I2.on L, (I3.orders hb3).on L, I4.on L⟩
  rw [hB] at HOK
  have HCP : Hid (∀ wx, Below w.heap.size w wx → _) := fun wx (L : Below w.heap.size w wx) => copyS_offG b0 p0 b1 p1 b2 p2 b3 p3 b4 p4 k0 k1 k2 k3 k4 o wx (Nat.lt_of_lt_of_le hb0 L.size) (Nat.lt_of_lt_of_le hb1 L.size) (Nat.lt_of_lt_of_le hb2 L.size) (Nat.lt_of_lt_of_le hb3 L.size) (Nat.lt_of_lt_of_le hb4 L.size) hn hs hr (I0.on L) (I1.on L) (I2.on L) (I3.on L hb3) (I4.on L)
  clear I0 I1 I2 I3 I4 hb0 hb1 hb2 hb3 hb4 hn hs hr hL hS hB
  have q0 : ((w.alloc (.cells #[.slice (some ⟨b0, p0, none⟩) o.ln.length k0, .slice (some ⟨b1, p1, none⟩) o.ta.length k1, .slice (some ⟨b2, p2, none⟩) o.ho.length k2, .slice (some ⟨b3, p3, none⟩) o.od.length k3, .slice (some ⟨b4, p4, none⟩) o.to.length k4, .int .i64 o.td] 36)).alloc (.cells #[.slice none 0 0, .slice none 0 0, .slice none 0 0, .slice none 0 0, .slice none 0 0, .int .i64 0, .slice none 0 0, .slice none 0 0, .slice none 0 0, .slice none 0 0, .slice none 0 0, .int .i64 0, .string ⟨#[]⟩, .int .i64 0] 38)).cell? ⟨w.heap.size, 0, none⟩ = some (.slice (some ⟨b0, p0, none⟩) o.ln.length k0) := cell_at k0' 0
  have q1 : ((w.alloc (.cells #[.slice (some ⟨b0, p0, none⟩) o.ln.length k0, .slice (some ⟨b1, p1, none⟩) o.ta.length k1, .slice (some ⟨b2, p2, none⟩) o.ho.length k2, .slice (some ⟨b3, p3, none⟩) o.od.length k3, .slice (some ⟨b4, p4, none⟩) o.to.length k4, .int .i64 o.td] 36)).alloc (.cells #[.slice none 0 0, .slice none 0 0, .slice none 0 0, .slice none 0 0, .slice none 0 0, .int .i64 0, .slice none 0 0, .slice none 0 0, .slice none 0 0, .slice none 0 0, .slice none 0 0, .int .i64 0, .string ⟨#[]⟩, .int .i64 0] 38)).cell? ⟨w.heap.size, 1, none⟩ = some (.slice (some ⟨b1, p1, none⟩) o.ta.length k1) := cell_at k0' 1
  have q2 : ((w.alloc (.cells #[.slice (some ⟨b0, p0, none⟩) o.ln.length k0, .slice (some ⟨b1, p1, none⟩) o.ta.length k1, .slice (some ⟨b2, p2, none⟩) o.ho.length k2, .slice (some ⟨b3, p3, none⟩) o.od.length k3, .slice (some ⟨b4, p4, none⟩) o.to.length k4, .int .i64 o.td] 36)).alloc (.cells #[.slice none 0 0, .slice none 0 0, .slice none 0 0, .slice none 0 0, .slice none 0 0, .int .i64 0, .slice none 0 0, .slice none 0 0, .slice none 0 0, .slice none 0 0, .slice none 0 0, .int .i64 0, .string ⟨#[]⟩, .int .i64 0] 38)).cell? ⟨w.heap.size, 2, none⟩ = some (.slice (some ⟨b2, p2, none⟩) o.ho.length k2) := cell_at k0' 2
  have q3 : ((w.alloc (.cells #[.slice (some ⟨b0, p0, none⟩) o.ln.length k0, .slice (some ⟨b1, p1, none⟩) o.ta.length k1, .slice (some ⟨b2, p2, none⟩) o.ho.length k2, .slice (some ⟨b3, p3, none⟩) o.od.length k3, .slice (some ⟨b4, p4, none⟩) o.to.length k4, .int .i64 o.td] 36)).alloc (.cells #[.slice none 0 0, .slice none 0 0, .slice none 0 0, .slice none 0 0, .slice none 0 0, .int .i64 0, .slice none 0 0, .slice none 0 0, .slice none 0 0, .slice none 0 0, .slice none 0 0, .int .i64 0, .string ⟨#[]⟩, .int .i64 0] 38)).cell? ⟨w.heap.size, 3, none⟩ = some (.slice (some ⟨b3, p3, none⟩) o.od.length k3) := cell_at k0' 3
  have q4 : ((w.alloc (.cells #[.slice (some ⟨b0, p0, none⟩) o.ln.length k0, .slice (some ⟨b1, p1, none⟩) o.ta.length k1, .slice (some ⟨b2, p2, none⟩) o.ho.length k2, .slice (some ⟨b3, p3, none⟩) o.od.length k3, .slice (some ⟨b4, p4, none⟩) o.to.length k4, .int .i64 o.td] 36)).alloc (.cells #[.slice none 0 0, .slice none 0 0, .slice none 0 0, .slice none 0 0, .slice none 0 0, .int .i64 0, .slice none 0 0, .slice none 0 0, .slice none 0 0, .slice none 0 0, .slice none 0 0, .int .i64 0, .string ⟨#[]⟩, .int .i64 0] 38)).cell? ⟨w.heap.size, 4, none⟩ = some (.slice (some ⟨b4, p4, none⟩) o.to.length k4) := cell_at k0' 4
  have q5 : ((w.alloc (.cells #[.slice (some ⟨b0, p0, none⟩) o.ln.length k0, .slice (some ⟨b1, p1, none⟩) o.ta.length k1, .slice (some ⟨b2, p2, none⟩) o.ho.length k2, .slice (some ⟨b3, p3, none⟩) o.od.length k3, .slice (some ⟨b4, p4, none⟩) o.to.length k4, .int .i64 o.td] 36)).alloc (.cells #[.slice none 0 0, .slice none 0 0, .slice none 0 0, .slice none 0 0, .slice none 0 0, .int .i64 0, .slice none 0 0, .slice none 0 0, .slice none 0 0, .slice none 0 0, .slice none 0 0, .int .i64 0, .string ⟨#[]⟩, .int .i64 0] 38)).cell? ⟨w.heap.size, 5, none⟩ = some (.int .i64 o.td) := cell_at k0' 5
  go_enter Tryz.func5, Tryz.ntmps5
  go_wp2_with fail
  refine (HOK.out _ N).mono ?_
  generalize ((w.alloc (.cells #[.slice (some ⟨b0, p0, none⟩) o.ln.length k0, .slice (some ⟨b1, p1, none⟩) o.ta.length k1, .slice (some ⟨b2, p2, none⟩) o.ho.length k2, .slice (some ⟨b3, p3, none⟩) o.od.length k3, .slice (some ⟨b4, p4, none⟩) o.to.length k4, .int .i64 o.td] 36)).alloc (.cells #[.slice none 0 0, .slice none 0 0, .slice none 0 0, .slice none 0 0, .slice none 0 0, .int .i64 0, .slice none 0 0, .slice none 0 0, .slice none 0 0, .slice none 0 0, .slice none 0 0, .int .i64 0, .string ⟨#[]⟩, .int .i64 0] 38)) = v0 at *
  rintro e v1 ⟨rfl, L1⟩
  have m0' := kept L1 (lt_of k0') k0'
  have m1' := kept L1 (lt_of k1') k1'
  have N1 := join_below N L1
  have hv1 : w.heap.size + 1 < v1.heap.size := lt_of m1'
  clear q0 q1 q2 q3 q4 q5 k0' k1' L1 N HOK hsz
  have q0 : v1.cell? ⟨w.heap.size, 0, none⟩ = some (.slice (some ⟨b0, p0, none⟩) o.ln.length k0) := cell_at m0' 0
  have q1 : v1.cell? ⟨w.heap.size, 1, none⟩ = some (.slice (some ⟨b1, p1, none⟩) o.ta.length k1) := cell_at m0' 1
  have q2 : v1.cell? ⟨w.heap.size, 2, none⟩ = some (.slice (some ⟨b2, p2, none⟩) o.ho.length k2) := cell_at m0' 2
  have q3 : v1.cell? ⟨w.heap.size, 3, none⟩ = some (.slice (some ⟨b3, p3, none⟩) o.od.length k3) := cell_at m0' 3
  have q4 : v1.cell? ⟨w.heap.size, 4, none⟩ = some (.slice (some ⟨b4, p4, none⟩) o.to.length k4) := cell_at m0' 4
  have q5 : v1.cell? ⟨w.heap.size, 5, none⟩ = some (.int .i64 o.td) := cell_at m0' 5
  go_wp2
  go_region_held3 (fun w' => w'.cell? ⟨w.heap.size, 0, none⟩ = some (.slice (some ⟨b0, p0, none⟩) o.ln.length k0) ∧ w'.cell? ⟨w.heap.size, 1, none⟩ = some (.slice (some ⟨b1, p1, none⟩) o.ta.length k1) ∧ w'.cell? ⟨w.heap.size, 2, none⟩ = some (.slice (some ⟨b2, p2, none⟩) o.ho.length k2) ∧ w'.cell? ⟨w.heap.size, 3, none⟩ = some (.slice (some ⟨b3, p3, none⟩) o.od.length k3) ∧ w'.cell? ⟨w.heap.size, 4, none⟩ = some (.slice (some ⟨b4, p4, none⟩) o.to.length k4) ∧ w'.cell? ⟨w.heap.size, 5, none⟩ = some (.int .i64 o.td)) (go_keep) (first
    | (go_at_call 19; have hh := M1; clear hh; (with_reducible refine (HCP.out _ ?_).mono ?_); (first | with_reducible exact N2 | with_reducible exact N2.drew); rintro e n2 ⟨y, rfl, S2, M0⟩; have M2 : Below n1.heap.size n1 n2 := (by first | with_reducible exact M0 | exact ((Below.refl _ _).drew).trans M0); have N3 := join_below N2 M2; have e0 := kept M2 (lt_of j0) j0; have e1 := kept M2 (lt_of j1) j1; have r0 : n2.cell? ⟨w.heap.size, 0, none⟩ = some (.slice (some ⟨b0, p0, none⟩) o.ln.length k0) := cell_at e0 0; have r1 : n2.cell? ⟨w.heap.size, 1, none⟩ = some (.slice (some ⟨b1, p1, none⟩) o.ta.length k1) := cell_at e0 1; have r2 : n2.cell? ⟨w.heap.size, 2, none⟩ = some (.slice (some ⟨b2, p2, none⟩) o.ho.length k2) := cell_at e0 2; have r3 : n2.cell? ⟨w.heap.size, 3, none⟩ = some (.slice (some ⟨b3, p3, none⟩) o.od.length k3) := cell_at e0 3; have r4 : n2.cell? ⟨w.heap.size, 4, none⟩ = some (.slice (some ⟨b4, p4, none⟩) o.to.length k4) := cell_at e0 4; have r5 : n2.cell? ⟨w.heap.size, 5, none⟩ = some (.int .i64 o.td) := cell_at e0 5; have z0 : n2.cell? ⟨w.heap.size + 1, 0, none⟩ = some (.slice none 0 0) := cell_at e1 0; have z1 : n2.cell? ⟨w.heap.size + 1, 1, none⟩ = some (.slice none 0 0) := cell_at e1 1; have z2 : n2.cell? ⟨w.heap.size + 1, 2, none⟩ = some (.slice none 0 0) := cell_at e1 2; have z3 : n2.cell? ⟨w.heap.size + 1, 3, none⟩ = some (.slice none 0 0) := cell_at e1 3; have z4 : n2.cell? ⟨w.heap.size + 1, 4, none⟩ = some (.slice none 0 0) := cell_at e1 4; have z5 : n2.cell? ⟨w.heap.size + 1, 5, none⟩ = some (.int .i64 0) := cell_at e1 5; have z6 : n2.cell? ⟨w.heap.size + 1, 6, none⟩ = some (.slice none 0 0) := cell_at e1 6; have z7 : n2.cell? ⟨w.heap.size + 1, 7, none⟩ = some (.slice none 0 0) := cell_at e1 7; have z8 : n2.cell? ⟨w.heap.size + 1, 8, none⟩ = some (.slice none 0 0) := cell_at e1 8; have z9 : n2.cell? ⟨w.heap.size + 1, 9, none⟩ = some (.slice none 0 0) := cell_at e1 9; have z10 : n2.cell? ⟨w.heap.size + 1, 10, none⟩ = some (.slice none 0 0) := cell_at e1 10; have z11 : n2.cell? ⟨w.heap.size + 1, 11, none⟩ = some (.int .i64 0) := cell_at e1 11; have z12 : n2.cell? ⟨w.heap.size + 1, 12, none⟩ = some (.string ⟨#[]⟩) := cell_at e1 12; have z13 : n2.cell? ⟨w.heap.size + 1, 13, none⟩ = some (.int .i64 0) := cell_at e1 13; have f0 : n2.frozen? ⟨w.heap.size + 1, 0, none⟩ = false := frozen_at e1 0; have f1 : n2.frozen? ⟨w.heap.size + 1, 1, none⟩ = false := frozen_at e1 1; have f2 : n2.frozen? ⟨w.heap.size + 1, 2, none⟩ = false := frozen_at e1 2; have f3 : n2.frozen? ⟨w.heap.size + 1, 3, none⟩ = false := frozen_at e1 3; have f4 : n2.frozen? ⟨w.heap.size + 1, 4, none⟩ = false := frozen_at e1 4; have f5 : n2.frozen? ⟨w.heap.size + 1, 5, none⟩ = false := frozen_at e1 5; have f6 : n2.frozen? ⟨w.heap.size + 1, 6, none⟩ = false := frozen_at e1 6; have f7 : n2.frozen? ⟨w.heap.size + 1, 7, none⟩ = false := frozen_at e1 7; have f8 : n2.frozen? ⟨w.heap.size + 1, 8, none⟩ = false := frozen_at e1 8; have f9 : n2.frozen? ⟨w.heap.size + 1, 9, none⟩ = false := frozen_at e1 9; have f10 : n2.frozen? ⟨w.heap.size + 1, 10, none⟩ = false := frozen_at e1 10; have f11 : n2.frozen? ⟨w.heap.size + 1, 11, none⟩ = false := frozen_at e1 11; have f12 : n2.frozen? ⟨w.heap.size + 1, 12, none⟩ = false := frozen_at e1 12; have f13 : n2.frozen? ⟨w.heap.size + 1, 13, none⟩ = false := frozen_at e1 13; clear M0)
    | (go_at_call 19; (with_reducible refine (HCP.out _ ?_).mono ?_); (first | with_reducible exact N1 | with_reducible exact N1.drew); rintro e n1 ⟨x, rfl, S1, M0⟩; have M1 : Below v1.heap.size v1 n1 := (by first | with_reducible exact M0 | exact ((Below.refl _ _).drew).trans M0); have N2 := join_below N1 M1; have j0 := kept M1 (lt_of m0') m0'; have j1 := kept M1 (lt_of m1') m1'; have r0 : n1.cell? ⟨w.heap.size, 0, none⟩ = some (.slice (some ⟨b0, p0, none⟩) o.ln.length k0) := cell_at j0 0; have r1 : n1.cell? ⟨w.heap.size, 1, none⟩ = some (.slice (some ⟨b1, p1, none⟩) o.ta.length k1) := cell_at j0 1; have r2 : n1.cell? ⟨w.heap.size, 2, none⟩ = some (.slice (some ⟨b2, p2, none⟩) o.ho.length k2) := cell_at j0 2; have r3 : n1.cell? ⟨w.heap.size, 3, none⟩ = some (.slice (some ⟨b3, p3, none⟩) o.od.length k3) := cell_at j0 3; have r4 : n1.cell? ⟨w.heap.size, 4, none⟩ = some (.slice (some ⟨b4, p4, none⟩) o.to.length k4) := cell_at j0 4; have r5 : n1.cell? ⟨w.heap.size, 5, none⟩ = some (.int .i64 o.td) := cell_at j0 5; clear M0))
  all_goals
    go_wp2
    refine bodyPost_ret (v := .tuple #[.agg #[.slice x.a0 o.ln.length x.c0, .slice x.a1 o.ta.length x.c1, .slice x.a2 o.ho.length x.c2, .slice x.a3 o.od.length x.c3, .slice x.a4 o.to.length x.c4, .int .i64 o.td, .slice y.a0 o.ln.length y.c0, .slice y.a1 o.ta.length y.c1, .slice y.a2 o.ho.length y.c2, .slice y.a3 o.od.length y.c3, .slice y.a4 o.to.length y.c4, .int .i64 o.td, .string ⟨#[]⟩, .int .i64 0], .bool true]) (by simp [results, Tryz.results5, go_sem, z0, z1, z2, z3, z4, z5, z6, z7, z8, z9, z10, z11, z12, z13]) rfl ?_
    have hn1 : v1.heap.size ≤ n1.heap.size := M1.size
    have T1 : Dk.InK v1.heap.size n2 x o := Dk.InK.on S1 M2
    have T2 : Dk.InK n1.heap.size n2 y o := S2
    refine ⟨x, y, rfl, (T1.kp ?_).wide (by omega), (T2.kp ?_).wide (by omega), ?_⟩
    · (repeat' (first | with_reducible exact Dk.Kp.refl _ _ | with_reducible apply Dk.Kp.setR | with_reducible apply Kp.drewG)) <;> omega
    · (repeat' (first | with_reducible exact Dk.Kp.refl _ _ | with_reducible apply Dk.Kp.setR | with_reducible apply Kp.drewG)) <;> omega
    · (repeat' (first | with_reducible exact N3 | with_reducible apply Below.setCell | with_reducible apply Below.drew)) <;> first | (simp; done) | (simp; omega)

end Of
end Go.Proofs.YtehmlnojjfeheaaGreat

/- PlatformStart of the program and of its model over lists that were copied, right or not; the marks of such lists. -/
namespace Go.Proofs.YtehmlnojjfeheaaGreat
namespace Of
open Go.ChangeShapes Go.WideShapes Go.ChangeAt Go.RowKit Go.Joins
open Pk (new_below join_below cell_at heap_new frozen_at lt_of kept heap_old info_of Room)
open Tn (Band Tr)
open Od (Oo)
set_option linter.unusedSimpArgs false
set_option linter.unusedVariables false

/-- An office of nothing; what PlatformStart tells. -/
def oz : Offc := ⟨[], [], [], [], [], 0⟩
def ansO (o : Offc) : Offc := if offB o = true then o else oz
def nilP : Pl := ⟨none, none, none, none, none, 0, 0, 0, 0, 0⟩

theorem off_lines {o : Offc} (h : offB o = true) : o.ln.length ≤ 40 ∧ ∀ i (hi : i < o.ln.length), 2 ≤ o.ln[i].l.length ∧ o.ln[i].l.length ≤ 20 := by
  unfold offB at h
  simp only [Bool.and_eq_true] at h
  exact lines_len h.1.1.1.1.1

theorem nm_le {ts : List Oo} (h : Od.bulk ts ≤ 1048576) (k : Nat) (hk : k < ts.length) : ts[k].l.length ≤ 1048576 ∧ ts[k].h.nm.size ≤ 1048576 := by
  unfold Od.bulk at h
  have := Od.sumTo_step ts k hk
  have := Od.sumTo_mono ts (k + 1) ts.length (by omega)
  have : ts[k].sz = ts[k].h.nm.size + ts[k].l.length := rfl
  omega

theorem oz_in (w : World) : In w nilP oz := ⟨Or.inl rfl, Or.inl rfl, Or.inl rfl, Or.inl rfl, Or.inl rfl⟩

theorem ans_small {o : Offc} (h : Small o) : Small (ansO o) := by
  unfold ansO
  by_cases hb : offB o = true
  · rw [if_pos hb]; exact h
  · rw [if_neg hb]
    exact ⟨show Tn.bulk [] ≤ 1048576 by decide, show 0 ≤ 1048576 by decide, show 0 ≤ 1048576 by decide, show Od.bulk [] ≤ 1048576 by decide, show 0 ≤ 1048576 by decide⟩

theorem bulk_len {ts : List Oo} (h : Od.bulk ts ≤ 1048576) : ts.length ≤ 1048576 := by
  unfold Od.bulk at h
  omega

theorem bulk_lenT {ts : List Tr} (h : Tn.bulk ts ≤ 1048576) : ts.length ≤ 1048576 := by
  unfold Tn.bulk at h
  omega

theorem ans_sm {o : Offc} (h : Small o) : Sm (ansO o) := by
  obtain ⟨h0, h1, h2, h3, h4⟩ := h
  unfold ansO
  by_cases hb : offB o = true
  · rw [if_pos hb]
    obtain ⟨q1, q2⟩ := off_lines hb
    exact ⟨q1, fun i hi => (q2 i hi).2, h1, h2, bulk_len h3, fun i hi => (nm_le h3 i hi).1, h4⟩
  · rw [if_neg hb]
    exact ⟨show 0 ≤ 40 by decide, fun i hi => by simp [oz] at hi, show 0 ≤ 1048576 by decide, show 0 ≤ 1048576 by decide, show 0 ≤ 1048576 by decide, fun i hi => by simp [oz] at hi, show 0 ≤ 1048576 by decide⟩

/-- What the copied lists are, list by list. -/
theorem Oc.parts {lo hi : Nat} {w : World} {y : Pl} {o : Offc} (O : Oc lo hi w y o) : ∃ b0 b1 b2 b3 b4 : Nat, y = ⟨some ⟨b0, 0, none⟩, some ⟨b1, 0, none⟩, some ⟨b2, 0, none⟩, some ⟨b3, 0, none⟩, some ⟨b4, 0, none⟩, y.c0, y.c1, y.c2, y.c3, y.c4⟩ ∧
    b0 < w.heap.size ∧ b1 < w.heap.size ∧ b2 < w.heap.size ∧ b3 < w.heap.size ∧ b4 < w.heap.size ∧ Tn.Trains w (some ⟨b0, 0, none⟩) o.ln ∧ Tf.Edges w (some ⟨b1, 0, none⟩) o.ta ∧ Se.Holds w (some ⟨b2, 0, none⟩) o.ho ∧ OrdS w b3 0 o.od ∧ Rp.Replys w (some ⟨b4, 0, none⟩) o.to := by
  obtain ⟨g0, h0, g1, g2, g3, h3, g4, ⟨e0, e1, e2, e3, e4⟩, I, r0, r1, r2, r3, r4, -⟩ := O
  obtain ⟨a0, a1, a2, a3, a4, c0, c1, c2, c3, c4⟩ := y
  dsimp only at e0 e1 e2 e3 e4
  subst e0 e1 e2 e3 e4
  obtain ⟨i0, i1, i2, i3, i4⟩ := I
  dsimp only at i0 i1 i2 i3 i4
  have l0 := r0.lh; have l1 := r1.hs; have l2 := r2.hs; have l3 := r3.lh; have l4 := r4.hs; have s0 := r0.hs; have s3 := r3.hs
  refine ⟨g0, g1, g2, g3, g4, rfl, by omega, by omega, by omega, by omega, by omega, i0, i1, i2, ?_, i4⟩
  intro i hi
  rcases i3 with i3 | ⟨b, p, e, hb, hc⟩
  · rw [i3] at hi; simp at hi
  · simp only [Option.some.injEq, Addr.mk.injEq, and_true] at e
    obtain ⟨rfl, rfl⟩ := e
    obtain ⟨n1, ai, ci, n2, n3⟩ := hc i hi
    obtain ⟨gi, q1, q2, q3, q4, q5⟩ := r3.q.2 i hi
    rw [Nat.zero_add] at n2
    rw [q4] at n2
    simp only [Option.some.injEq, Value.slice.injEq] at n2
    obtain ⟨n2, -, -⟩ := n2
    subst n2
    exact ⟨n1, gi, 0, o.od[i].l.length, by omega, by rw [Nat.zero_add]; exact q4, n3⟩

theorem Oc.in {lo hi : Nat} {w : World} {y : Pl} {o : Offc} (O : Oc lo hi w y o) : In w y o := by
  obtain ⟨g0, h0, g1, g2, g3, h3, g4, -, I, -⟩ := O
  exact I

theorem oz_og (w : World) : OG w w.heap.size w.heap.size w.heap.size w.heap.size w.heap.size w.heap.size nilP oz (fun _ => 0) (fun _ => 0) (fun _ => 0) :=
  ⟨Or.inl rfl, Or.inl rfl, Or.inl rfl, Or.inl rfl, Or.inl rfl, by omega⟩

theorem implPlat_any (HCS : ∀ (s : ByteArray) (W : World), s.size ≤ 1048576 → Calls Tryz.prog 109 #[.string s] W fun e w' => e = .returned (.string s) ∧ Below W.heap.size W w') (lo hi : Nat) (y : Pl) (o : Offc) (w : World) (hL : Lim o) (hS : Small o) (O : Oc lo hi w y o) :
    Calls Tryz.prog 7 #[ofV y o] w fun e w' => ∃ (x y : Pl) (m0 m1 m2 m3 m4 m5 t0 t1 t2 t3 t4 t5 : Nat) (gf cf hf gf' cf' hf' : Nat → Nat), e = .returned (.tuple #[.agg #[.slice x.a0 (ansO o).ln.length x.c0, .slice x.a1 (ansO o).ta.length x.c1, .slice x.a2 (ansO o).ho.length x.c2, .slice x.a3 (ansO o).od.length x.c3, .slice x.a4 (ansO o).to.length x.c4, .int .i64 (ansO o).td, .slice y.a0 (ansO o).ln.length y.c0, .slice y.a1 (ansO o).ta.length y.c1, .slice y.a2 (ansO o).ho.length y.c2, .slice y.a3 (ansO o).od.length y.c3, .slice y.a4 (ansO o).to.length y.c4, .int .i64 (ansO o).td, .string ⟨#[]⟩, .int .i64 0], .bool (offB o)]) ∧ w.heap.size ≤ m0 ∧ m5 ≤ t0 ∧ OG w' m0 m1 m2 m3 m4 m5 x (ansO o) gf cf hf ∧ OG w' t0 t1 t2 t3 t4 t5 y (ansO o) gf' cf' hf' ∧ Below w.heap.size w w' := by
  obtain ⟨b0, b1, b2, b3, b4, ey, h0, h1, h2, h3, h4, I0, I1, I2, I3, I4⟩ := O.parts
  have ev : ofV y o = .agg #[.slice (some ⟨b0, 0, none⟩) o.ln.length y.c0, .slice (some ⟨b1, 0, none⟩) o.ta.length y.c1, .slice (some ⟨b2, 0, none⟩) o.ho.length y.c2, .slice (some ⟨b3, 0, none⟩) o.od.length y.c3, .slice (some ⟨b4, 0, none⟩) o.to.length y.c4, .int .i64 o.td] := by
    rw [ey]
  rw [ev]
  cases hB : offB o
  · have ea : ansO o = oz := by unfold ansO; rw [hB]; rfl
    rw [ea]
    refine (implPlatG_no HCS b0 0 b1 0 b2 0 b3 0 b4 0 y.c0 y.c1 y.c2 y.c3 y.c4 o w h0 h1 h2 h3 h4 I0 I1 I2 I3 I4 hL hS hB).mono ?_
    rintro e w' ⟨rfl, K⟩
    exact ⟨nilP, nilP, w'.heap.size, w'.heap.size, w'.heap.size, w'.heap.size, w'.heap.size, w'.heap.size, w'.heap.size, w'.heap.size, w'.heap.size, w'.heap.size, w'.heap.size, w'.heap.size, fun _ => 0, fun _ => 0, fun _ => 0, fun _ => 0, fun _ => 0, fun _ => 0, rfl, K.size, Nat.le_refl _, oz_og _, oz_og _, K⟩
  · have ea : ansO o = o := by unfold ansO; rw [hB]; rfl
    rw [ea]
    obtain ⟨q1, q2⟩ := off_lines hB
    exact implPlatG_yes HCS b0 0 b1 0 b2 0 b3 0 b4 0 y.c0 y.c1 y.c2 y.c3 y.c4 o w h0 h1 h2 h3 h4 ⟨bulk_lenT hS.1, hS.2.1, hS.2.2.1, bulk_len hS.2.2.2.1, hS.2.2.2.2⟩ (fun i hi => by have := q2 i hi; omega) (fun i hi => nm_le hS.2.2.2.1 i hi) I0 I1 I2 I3 I4 hL hS hB

theorem specPlat_any  (lo hi : Nat) (y : Pl) (o : Offc) (w : World) (hL : Lim o) (hS : Small o) (O : Oc lo hi w y o) :
    Calls Tryz.prog 5 #[ofV y o] w fun e w' => ∃ x y : Pl, e = .returned (.tuple #[.agg #[.slice x.a0 (ansO o).ln.length x.c0, .slice x.a1 (ansO o).ta.length x.c1, .slice x.a2 (ansO o).ho.length x.c2, .slice x.a3 (ansO o).od.length x.c3, .slice x.a4 (ansO o).to.length x.c4, .int .i64 (ansO o).td, .slice y.a0 (ansO o).ln.length y.c0, .slice y.a1 (ansO o).ta.length y.c1, .slice y.a2 (ansO o).ho.length y.c2, .slice y.a3 (ansO o).od.length y.c3, .slice y.a4 (ansO o).to.length y.c4, .int .i64 (ansO o).td, .string ⟨#[]⟩, .int .i64 0], .bool (offB o)]) ∧ Dk.InK w.heap.size w' x (ansO o) ∧ Dk.InK w.heap.size w' y (ansO o) ∧ Below w.heap.size w w' := by
  obtain ⟨b0, b1, b2, b3, b4, ey, h0, h1, h2, h3, h4, I0, I1, I2, I3, I4⟩ := O.parts
  have ev : ofV y o = .agg #[.slice (some ⟨b0, 0, none⟩) o.ln.length y.c0, .slice (some ⟨b1, 0, none⟩) o.ta.length y.c1, .slice (some ⟨b2, 0, none⟩) o.ho.length y.c2, .slice (some ⟨b3, 0, none⟩) o.od.length y.c3, .slice (some ⟨b4, 0, none⟩) o.to.length y.c4, .int .i64 o.td] := by
    rw [ey]
  rw [ev]
  cases hB : offB o
  · have ea : ansO o = oz := by unfold ansO; rw [hB]; rfl
    rw [ea]
    refine (specPlatG_no b0 0 b1 0 b2 0 b3 0 b4 0 y.c0 y.c1 y.c2 y.c3 y.c4 o w h0 h1 h2 h3 h4 I0 I1 I2 I3 I4 hL hS hB).mono ?_
    rintro e w' ⟨rfl, K⟩
    exact ⟨nilP, nilP, rfl, fun W _ => oz_in W, fun W _ => oz_in W, K⟩
  · have ea : ansO o = o := by unfold ansO; rw [hB]; rfl
    rw [ea]
    obtain ⟨q1, q2⟩ := off_lines hB
    exact specPlatG_yes b0 0 b1 0 b2 0 b3 0 b4 0 y.c0 y.c1 y.c2 y.c3 y.c4 o w h0 h1 h2 h3 h4 ⟨bulk_lenT hS.1, hS.2.1, hS.2.2.1, bulk_len hS.2.2.2.1, hS.2.2.2.2⟩ (fun i hi => by have := q2 i hi; omega) (fun i hi => nm_le hS.2.2.2.1 i hi) I0 I1 I2 I3 I4 hL hS hB

theorem markOffC_val (lo hi : Nat) (y : Pl) (o : Offc) (w : World) (hhi : hi ≤ w.heap.size) (hS : Small o) (O : Oc lo hi w y o) :
    Calls Tryz.prog 10 #[ofV y o, .int .i64 1] w fun e w' => ∃ z, e = .returned (.int .i64 z) ∧ 0 ≤ z ∧ Fb lo hi w w' := by
  obtain ⟨g0, h0, g1, g2, g3, h3, g4, ⟨e0, e1, e2, e3, e4⟩, -, r0, r1, r2, r3, r4, o1, o2, o3, o4, o5⟩ := O
  obtain ⟨s0, s1, s2, s3, s4⟩ := hS
  have f0 := r0.lo; have f1 := r1.lo; have f2 := r2.lo; have f3 := r3.lo; have f4 := r4.lo
  have l0 := r0.lh; have l3 := r3.lh
  obtain ⟨a0, a1, a2, a3, a4, c0, c1, c2, c3, c4⟩ := y
  dsimp only at e0 e1 e2 e3 e4
  subst e0 e1 e2 e3 e4
  have b0 := bulk_lenT s0
  have b3 := bulk_len s3
  have bo : ∀ i (h : i < o.od.length), o.od[i].l.length ≤ 1048576 := fun i hi => (nm_le s3 i hi).1
  refine (markOffice_gen ⟨_, _, _, _, _, c0, c1, c2, c3, c4⟩ o.ln.length o.ta.length o.ho.length o.od.length o.to.length o.td 1 lo hi w hhi
    (fun z W => 1 ≤ z ∧ z ≤ 10000000000000 ∧ Ql lo W g1 (g1 + 1) (fun W => Room W g1 (o.ta.length * 3)) ∧ Ql lo W g2 (g2 + 1) (fun W => Room W g2 (o.ho.length * 7)) ∧ Ql lo W g3 h3 (fun W => MkO W g3 h3 g3 o.od) ∧ Ql lo W g4 (g4 + 1) (fun W => Room W g4 (o.to.length * 4)))
    (fun z W => 1 ≤ z ∧ z ≤ 20000000000000 ∧ Ql lo W g2 (g2 + 1) (fun W => Room W g2 (o.ho.length * 7)) ∧ Ql lo W g3 h3 (fun W => MkO W g3 h3 g3 o.od) ∧ Ql lo W g4 (g4 + 1) (fun W => Room W g4 (o.to.length * 4)))
    (fun z W => 1 ≤ z ∧ z ≤ 30000000000000 ∧ Ql lo W g3 h3 (fun W => MkO W g3 h3 g3 o.od) ∧ Ql lo W g4 (g4 + 1) (fun W => Room W g4 (o.to.length * 4)))
    (fun z W => 1 ≤ z ∧ z ≤ 40000000000000 ∧ Ql lo W g4 (g4 + 1) (fun W => Room W g4 (o.to.length * 4)))
    (fun z W => 0 ≤ z) ?_ ?_ ?_ ?_ ?_).mono ?_
  · intro W K
    refine (markTrainS_bd g0 h0 g0 o.ln c0 W s0 (Nat.le_refl _) l0 (r0.of K).q).mono ?_
    rintro e w' ⟨z, hz, hz2, rfl, B⟩
    have F := Fb.band B
    exact ⟨z, rfl, F.wide (by omega) (by omega), hz, by omega, (r1.of K).fb F (by omega), (r2.of K).fb F (by omega), (r3.of K).fb F (by omega), (r4.of K).fb F (by omega)⟩
  · rintro z W ⟨hz, hz2, q1, q2, q3, q4⟩
    refine (markE_z (l := g1) (h := g1 + 1) s1 (by omega) (by omega) (Or.inr ⟨g1, rfl, Nat.le_refl _, Nat.lt_succ_self _, q1.hs, q1.q⟩)).mono ?_
    rintro e w' ⟨rfl, F, -⟩
    exact ⟨_, rfl, F.wide (by omega) (by omega), by omega, by omega, q2.fb F (by omega), q3.fb F (by omega), q4.fb F (by omega)⟩
  · rintro z W ⟨hz, hz2, q2, q3, q4⟩
    refine (markH_z (l := g2) (h := g2 + 1) s2 (by omega) (by omega) (Or.inr ⟨g2, rfl, Nat.le_refl _, Nat.lt_succ_self _, q2.hs, q2.q⟩)).mono ?_
    rintro e w' ⟨rfl, F, -⟩
    exact ⟨_, rfl, F.wide (by omega) (by omega), by omega, by omega, q3.fb F (by omega), q4.fb F (by omega)⟩
  · rintro z W ⟨hz, hz2, q3, q4⟩
    have bd := offO_bd z o.od bo o.od.length (Nat.le_refl _)
    obtain ⟨gf, hM⟩ : ∃ gf, McO W g3 h3 g3 gf o.od := by
      refine ⟨fun i => if h : i < o.od.length then Classical.choose (q3.q.2 i h) else 0, q3.q.1, fun i hi => ?_⟩
      obtain ⟨p1, p2, p3, p4, p5⟩ := Classical.choose_spec (q3.q.2 i hi)
      simp only [hi, dif_pos]
      exact ⟨_, _, p4, Or.inr ⟨rfl, p1, p2, p3, p5⟩⟩
    refine (markO_z (l := g3) (h := h3) (gf := gf) b3 bo (by omega) (by omega) (Or.inr ⟨g3, rfl, Nat.le_refl _, l3, q3.hs, hM⟩)).mono ?_
    rintro e w' ⟨rfl, F, -⟩
    exact ⟨_, rfl, F.wide (by omega) (by omega), by omega, by omega, q4.fb F (by omega)⟩
  · rintro z W ⟨hz, hz2, q4⟩
    refine (markR_z (l := g4) (h := g4 + 1) s4 (by omega) (by omega) (Or.inr ⟨g4, rfl, Nat.le_refl _, Nat.lt_succ_self _, q4.hs, q4.q⟩)).mono ?_
    rintro e w' ⟨rfl, F, -⟩
    exact ⟨_, rfl, F.wide (by omega) (by omega), by omega⟩
  · rintro e w' ⟨z, rfl, F, hz⟩
    exact ⟨z, rfl, hz, F⟩

end Of
end Go.Proofs.YtehmlnojjfeheaaGreat

/-
  DERIVED: THE SHELF's CONTRACTS AT THIS DUMP, IN PLAIN WORDS (tools/lay-plain.mjs out of 'TryzShelf.lean', which tools/lay-shelf.mjs wrote): THE SAME DECLARATIONS UNDER THE SAME NAMES: 'import', 'namespace', 'open', 'def', 'theorem' AND NOTHING ELSE: no command of the shelf's: FOR A HAND-IN. Each laying: the table of numbers ('.._ren') and one theorem, a field a fact of the dump's own or the kernel's comparison; each contract: ONE APPLICATION.
-/
namespace Go.Proofs
open Go.Shelf
def Tryz.laysM316_ren : Go.Shelf.Ren := ⟨fun | 316 => 116 | n => n, fun | 9 => 9 | 3 => 3 | 4 => 4 | 37 => 140 | 0 => 0 | 127 => 160 | 5 => 5 | n => n, fun | n => n⟩
theorem Tryz.laysM316 : Go.Proofs.LaysM.n316 Tryz.prog Tryz.laysM316_ren := {
  mixed := by kernel_rfl
  f316 := Tryz.func116.trans (congrArg some (by kernel_rfl))
  t0 := Tryz.underlying0
  a0 := Tryz.isAgg0
  z0 := Tryz.sizeOf0
  v0 := Tryz.zeroValue0
  t3 := Tryz.underlying3
  a3 := Tryz.isAgg3
  z3 := Tryz.sizeOf3
  v3 := Tryz.zeroValue3
  t4 := Tryz.underlying4
  a4 := Tryz.isAgg4
  z4 := Tryz.sizeOf4
  v4 := Tryz.zeroValue4
  t9 := Tryz.underlying9
  a9 := Tryz.isAgg9
  z9 := Tryz.sizeOf9
  v9 := Tryz.zeroValue9
  t37 := Tryz.underlying140
  a37 := Tryz.isAgg140
  z37 := Tryz.sizeOf140
  v37 := Tryz.zeroValue140
  t127 := Tryz.underlying160
  a127 := Tryz.isAgg160
  z127 := Tryz.sizeOf160
  v127 := Tryz.zeroValue160
  t5 := Tryz.underlying5
  a5 := Tryz.isAgg5
  z5 := Tryz.sizeOf5
  v5 := Tryz.zeroValue5
  i0 := by kernel_rfl
  i3 := by kernel_rfl
  i4 := by kernel_rfl
  i5 := by kernel_rfl
  i9 := by kernel_rfl
  i37 := by kernel_rfl
  i127 := by kernel_rfl }
open Go.RowKit in
/-- internal/stringslite.Clone (what strings.Clone calls): "Clone returns a fresh copy of s.": THE SAME BYTES. Of what was there nothing has turned (a new row is laid, and frozen, where s is not empty). (LAID: no walk: one application.) -/
theorem Tryz.stringslite_Clone (s : ByteArray) (w : World) (hlim : s.size ≤ 281474976710656) :
    Calls Tryz.prog 116 #[.string s] w fun e w' => e = .returned (.string s) ∧ Below w.heap.size w w' := Any.stringslite_Clone Tryz.laysM316 s w hlim
end Go.Proofs

/- The contract of strings.Clone, over the library's. -/
namespace Go.Proofs.YtehmlnojjfeheaaGreat
namespace Of
open Go.ChangeShapes Go.WideShapes Go.ChangeAt Go.RowKit
set_option linter.unusedSimpArgs false
set_option linter.unusedVariables false

theorem clone_val (s : ByteArray) (w : World) (hs : s.size ≤ 1048576) :
    Calls Tryz.prog 109 #[.string s] w fun e w' => e = .returned (.string s) ∧ Below w.heap.size w w' := by
  have HC : Hid (∀ W, _) := fun W => Tryz.stringslite_Clone s W (by omega)
  go_enter Tryz.func109, Tryz.ntmps109
  go_wp2_with fail
  refine (HC.out _).mono ?_
  rintro e w1 ⟨rfl, L1⟩
  go_wp2
  go_ret
  exact ⟨rfl, L1⟩

end Of
end Go.Proofs.YtehmlnojjfeheaaGreat

/- Contracts of the laws' own helpers over controls: a copy of a slice of them, and two such slices held against each other. -/
namespace Go.Proofs.YtehmlnojjfeheaaGreat
namespace Hn
open Go.ChangeShapes Go.WideShapes Go.ChangeAt Go.RowKit
open Pk (new_below join_below cell_at heap_new frozen_at lt_of kept info_of own_form own_below)
set_option linter.unusedSimpArgs false
set_option linter.unusedVariables false

/-- One of controls. -/
structure Ct where
  dv : Int
  no : Int
  tk : Int
  tr : Int
  dy : Int
  sa : Int

/-- It as a value. -/
abbrev lgV (p : Ct) : Value := .agg #[.int .i64 p.dv, .int .i64 p.no, .int .i64 p.tk, .int .i64 p.tr, .int .i64 p.dy, .int .i64 p.sa]

/-- A slice of them. -/
def Controls (w : World) (a : Option Addr) (ps : List Ct) : Prop :=
  ps = [] ∨ ∃ b o, a = some ⟨b, o, none⟩ ∧ b < w.heap.size ∧ ∀ i (h : i < ps.length), w.cell? ⟨b, o + i * 6, none⟩ = some (.int .i64 ps[i].dv) ∧ w.cell? ⟨b, o + i * 6 + 1, none⟩ = some (.int .i64 ps[i].no) ∧ w.cell? ⟨b, o + i * 6 + 2, none⟩ = some (.int .i64 ps[i].tk) ∧ w.cell? ⟨b, o + i * 6 + 3, none⟩ = some (.int .i64 ps[i].tr) ∧ w.cell? ⟨b, o + i * 6 + 4, none⟩ = some (.int .i64 ps[i].dy) ∧ w.cell? ⟨b, o + i * 6 + 5, none⟩ = some (.int .i64 ps[i].sa)

theorem Controls.on {w w1 : World} {a : Option Addr} {ps : List Ct} (h : Controls w a ps) (L : Below w.heap.size w w1) : Controls w1 a ps := by
  rcases h with h | ⟨b, o, ha, hb, hc⟩
  · exact Or.inl h
  · exact Or.inr ⟨b, o, ha, Nat.lt_of_lt_of_le hb L.size, fun i hi => by rw [L.cell (p := ⟨b, o + i * 6, none⟩) hb, L.cell (p := ⟨b, o + i * 6 + 1, none⟩) hb, L.cell (p := ⟨b, o + i * 6 + 2, none⟩) hb, L.cell (p := ⟨b, o + i * 6 + 3, none⟩) hb, L.cell (p := ⟨b, o + i * 6 + 4, none⟩) hb, L.cell (p := ⟨b, o + i * 6 + 5, none⟩) hb]; exact hc i hi⟩

theorem Controls.at {w : World} {a : Option Addr} {ps : List Ct} (h : Controls w a ps) (k : Nat) (hk : k < ps.length) : ∃ b o, a = some ⟨b, o, none⟩ ∧ b < w.heap.size ∧ w.cell? ⟨b, o + k * 6, none⟩ = some (.int .i64 ps[k].dv) ∧ w.cell? ⟨b, o + k * 6 + 1, none⟩ = some (.int .i64 ps[k].no) ∧ w.cell? ⟨b, o + k * 6 + 2, none⟩ = some (.int .i64 ps[k].tk) ∧ w.cell? ⟨b, o + k * 6 + 3, none⟩ = some (.int .i64 ps[k].tr) ∧ w.cell? ⟨b, o + k * 6 + 4, none⟩ = some (.int .i64 ps[k].dy) ∧ w.cell? ⟨b, o + k * 6 + 5, none⟩ = some (.int .i64 ps[k].sa) := by
  rcases h with h | ⟨b, o, ha, hb, hc⟩
  · subst h; simp at hk
  · exact ⟨b, o, ha, hb, hc k hk⟩

/-- The first k of block g are laid; all n can be written. -/
def Laidcontrol (w : World) (g n k : Nat) (ps : List Ct) : Prop := (∀ j, j < n * 6 → (∃ v, w.cell? ⟨g, j, none⟩ = some v) ∧ w.frozen? ⟨g, j, none⟩ = false) ∧
  ∀ i (h : i < ps.length), i < k → w.cell? ⟨g, i * 6, none⟩ = some (.int .i64 ps[i].dv) ∧ w.cell? ⟨g, i * 6 + 1, none⟩ = some (.int .i64 ps[i].no) ∧ w.cell? ⟨g, i * 6 + 2, none⟩ = some (.int .i64 ps[i].tk) ∧ w.cell? ⟨g, i * 6 + 3, none⟩ = some (.int .i64 ps[i].tr) ∧ w.cell? ⟨g, i * 6 + 4, none⟩ = some (.int .i64 ps[i].dy) ∧ w.cell? ⟨g, i * 6 + 5, none⟩ = some (.int .i64 ps[i].sa)

theorem set_cell {w : World} {g i j : Nat} {u v : Value} (h : w.cell? ⟨g, i, none⟩ = some v) : (w.setCell ⟨g, j, none⟩ u).cell? ⟨g, i, none⟩ = some (if i = j then u else v) := by
  by_cases e : i = j
  · subst e
    rw [if_pos rfl]
    exact World.cell?_setCell_same _ _ _ h
  · rw [if_neg e, World.cell?_setCell_other _ _ _ _ (by intro h; apply e; simpa using h.symm)]
    exact h

/-- Its cells written. -/
def setcontrol (w : World) (g j : Nat) (p : Ct) : World := (((((w.setCell ⟨g, j, none⟩ (.int .i64 p.dv)).setCell ⟨g, j + 1, none⟩ (.int .i64 p.no)).setCell ⟨g, j + 2, none⟩ (.int .i64 p.tk)).setCell ⟨g, j + 3, none⟩ (.int .i64 p.tr)).setCell ⟨g, j + 4, none⟩ (.int .i64 p.dy)).setCell ⟨g, j + 5, none⟩ (.int .i64 p.sa)

theorem setcontrol_cell {w : World} {g i j : Nat} {p : Ct} {v : Value} (h : w.cell? ⟨g, i, none⟩ = some v) : (setcontrol w g j p).cell? ⟨g, i, none⟩ = some (if i = j + 5 then .int .i64 p.sa else if i = j + 4 then .int .i64 p.dy else if i = j + 3 then .int .i64 p.tr else if i = j + 2 then .int .i64 p.tk else if i = j + 1 then .int .i64 p.no else if i = j then .int .i64 p.dv else v) := set_cell (set_cell (set_cell (set_cell (set_cell (set_cell h)))))

theorem Laidcontrol.on {w w1 : World} {g n k : Nat} {ps : List Ct} (h : Laidcontrol w g n k ps) {B : Nat} (L : Below B w w1) (hg : g < B) : Laidcontrol w1 g n k ps := by
  refine ⟨fun j hj => ?_, fun i hi hk => ?_⟩
  · rw [L.cell (p := ⟨g, j, none⟩) hg, L.frozen (p := ⟨g, j, none⟩) hg]
    exact h.1 j hj
  · rw [L.cell (p := ⟨g, i * 6, none⟩) hg, L.cell (p := ⟨g, i * 6 + 1, none⟩) hg, L.cell (p := ⟨g, i * 6 + 2, none⟩) hg, L.cell (p := ⟨g, i * 6 + 3, none⟩) hg, L.cell (p := ⟨g, i * 6 + 4, none⟩) hg, L.cell (p := ⟨g, i * 6 + 5, none⟩) hg]
    exact h.2 i hi hk

theorem Laidcontrol.step {w : World} {g n k : Nat} {ps : List Ct} (h : Laidcontrol w g n k ps) (hk : k < n) (hkp : k < ps.length) : Laidcontrol (setcontrol w g (k * 6) ps[k]) g n (k + 1) ps := by
  refine ⟨fun j hj => ?_, fun i hi hik => ?_⟩
  · obtain ⟨⟨v, hv⟩, hf⟩ := h.1 j hj
    exact ⟨⟨_, setcontrol_cell hv⟩, by unfold setcontrol; rw [World.frozen?_setCell, World.frozen?_setCell, World.frozen?_setCell, World.frozen?_setCell, World.frozen?_setCell, World.frozen?_setCell]; exact hf⟩
  · by_cases e : i = k
    · subst e
      obtain ⟨⟨v0, h0⟩, -⟩ := h.1 (i * 6) (by omega)
      obtain ⟨⟨v1, h1⟩, -⟩ := h.1 (i * 6 + 1) (by omega)
      obtain ⟨⟨v2, h2⟩, -⟩ := h.1 (i * 6 + 2) (by omega)
      obtain ⟨⟨v3, h3⟩, -⟩ := h.1 (i * 6 + 3) (by omega)
      obtain ⟨⟨v4, h4⟩, -⟩ := h.1 (i * 6 + 4) (by omega)
      obtain ⟨⟨v5, h5⟩, -⟩ := h.1 (i * 6 + 5) (by omega)
      rw [setcontrol_cell h0, setcontrol_cell h1, setcontrol_cell h2, setcontrol_cell h3, setcontrol_cell h4, setcontrol_cell h5]
      simp
    · obtain ⟨h0, h1, h2, h3, h4, h5⟩ := h.2 i hi (by omega)
      rw [setcontrol_cell h0, setcontrol_cell h1, setcontrol_cell h2, setcontrol_cell h3, setcontrol_cell h4, setcontrol_cell h5]
      rw [if_neg (by omega), if_neg (by omega), if_neg (by omega), if_neg (by omega), if_neg (by omega), if_neg (by omega), if_neg (by omega), if_neg (by omega), if_neg (by omega), if_neg (by omega), if_neg (by omega), if_neg (by omega), if_neg (by omega), if_neg (by omega), if_neg (by omega), if_neg (by omega), if_neg (by omega), if_neg (by omega), if_neg (by omega), if_neg (by omega), if_neg (by omega), if_neg (by omega), if_neg (by omega), if_neg (by omega), if_neg (by omega), if_neg (by omega), if_neg (by omega), if_neg (by omega), if_neg (by omega), if_neg (by omega), if_neg (by omega), if_neg (by omega), if_neg (by omega), if_neg (by omega), if_neg (by omega), if_neg (by omega)]
      exact ⟨rfl, rfl, rfl, rfl, rfl, rfl⟩

theorem Laidcontrol.all {w : World} {g : Nat} {ps : List Ct} (h : Laidcontrol w g ps.length ps.length ps) (hg : g < w.heap.size) : Controls w (some ⟨g, 0, none⟩) ps :=
  Or.inr ⟨g, 0, rfl, hg, fun i hi => by rw [Nat.zero_add]; exact h.2 i hi hi⟩

end Hn
end Go.Proofs.YtehmlnojjfeheaaGreat

/- Contracts of the laws' own helpers over slices of numbers: their size, a copy, two held against each other, marked from a number on and held against the marks. -/
namespace Go.Proofs.YtehmlnojjfeheaaGreat
namespace Hn
open Go.ChangeShapes Go.WideShapes Go.ChangeAt Go.RowKit
open Pk (new_below join_below cell_at heap_new frozen_at lt_of kept info_of own_form own_below Drawn Room)
set_option linter.unusedSimpArgs false
set_option linter.unusedVariables false

/-- A slice of numbers. -/
def Ints (w : World) (a : Option Addr) (zs : List Int) : Prop := zs = [] ∨ ∃ b o, a = some ⟨b, o, none⟩ ∧ b < w.heap.size ∧ ∀ i (hi : i < zs.length), w.cell? ⟨b, o + i, none⟩ = some (.int .i64 zs[i])

theorem Ints.on {w w1 : World} {a : Option Addr} {zs : List Int} (h : Ints w a zs) (hb : Below w.heap.size w w1) : Ints w1 a zs := by
  rcases h with h | ⟨b, o, ha, hlt, hc⟩
  · exact Or.inl h
  · exact Or.inr ⟨b, o, ha, Nat.lt_of_lt_of_le hlt hb.size, fun i hi => by rw [hb.cell (p := ⟨b, o + i, none⟩) hlt]; exact hc i hi⟩

theorem Ints.at {w : World} {a : Option Addr} {zs : List Int} (h : Ints w a zs) (i : Nat) (hi : i < zs.length) : ∃ b o, a = some ⟨b, o, none⟩ ∧ b < w.heap.size ∧ w.cell? ⟨b, o + i, none⟩ = some (.int .i64 zs[i]) := by
  rcases h with h | ⟨b, o, ha, hlt, hc⟩
  · subst h; simp at hi
  · exact ⟨b, o, ha, hlt, hc i hi⟩

theorem intInfo : (Tryz.prog.info? 3).map (fun i => (i.zero, i.size, i.bytes)) = some (some (.int .i64 0), 1, 8) := by kernel_rfl

/-- The first k cells of block g hold the numbers; all n can be written. -/
def Filled (w : World) (g n k : Nat) (zs : List Int) : Prop := ∀ j, j < n → (∃ v, w.cell? ⟨g, j, none⟩ = some v) ∧ w.frozen? ⟨g, j, none⟩ = false ∧ (j < k → w.cell? ⟨g, j, none⟩ = some (.int .i64 (zs.getD j 0)))

theorem Filled.step {w : World} {g n k : Nat} {zs : List Int} (h : Filled w g n k zs) : Filled (w.setCell ⟨g, k, none⟩ (.int .i64 (zs.getD k 0))) g n (k + 1) zs := by
  intro j hj
  obtain ⟨⟨v, hv⟩, hf, hc⟩ := h j hj
  by_cases e : j = k
  · subst e
    refine ⟨⟨_, World.cell?_setCell_same _ _ _ hv⟩, by rw [World.frozen?_setCell]; exact hf, fun _ => World.cell?_setCell_same _ _ _ hv⟩
  · have hne : (⟨g, j, none⟩ : Addr) ≠ ⟨g, k, none⟩ := by simp [e]
    refine ⟨⟨v, by rw [World.cell?_setCell_other _ _ _ _ (by simp [e])]; exact hv⟩, by rw [World.frozen?_setCell]; exact hf, fun hk => ?_⟩
    rw [World.cell?_setCell_other _ _ _ _ (by simp [e])]
    exact hc (by omega)

theorem Filled.ints {w : World} {g : Nat} {zs : List Int} (h : Filled w g zs.length zs.length zs) (hg : g < w.heap.size) : Ints w (some ⟨g, 0, none⟩) zs := by
  refine Or.inr ⟨g, 0, rfl, hg, fun i hi => ?_⟩
  have := (h i hi).2.2 hi
  rw [Nat.zero_add, this, List.getD_eq_getElem?_getD, List.getElem?_eq_getElem hi]
  rfl

theorem Filled.made {w : World} {g n : Nat} {cur : Array Value} {t : TypeId} {zs : List Int} (h : w.heap[g]? = some (.cells cur t (0, 0))) (hs : cur.size = n) : Filled w g n 0 zs := by
  intro j hj
  refine ⟨⟨cur[j], ?_⟩, frozen_at h j, fun hk => by omega⟩
  rw [cell_at h j]
  exact Array.getElem?_eq_getElem (by omega)

/-- What came in as a row, as a slice of numbers. -/
theorem ints_row {w : World} {x : Addr} {len : Nat} {zs : List Int} (hl : len ≤ zs.length) (hc : ∀ i, i < zs.length → w.cell? (x.add i) = some (.int .i64 (zs.getD i 0))) : ∃ ys : List Int, ys.length = len ∧ Ints w (some x) ys := by
  by_cases h0 : len = 0
  · exact ⟨[], h0.symm, Or.inl rfl⟩
  obtain ⟨b, o, spot⟩ := x
  have hs := World.cell?_spot (hc 0 (by omega))
  simp [Addr.add] at hs
  subst hs
  refine ⟨zs.take len, by rw [List.length_take]; omega, Or.inr ⟨b, o, rfl, ?_, fun i hi => ?_⟩⟩
  · have h1 := hc 0 (by omega)
    apply Nat.lt_of_not_le
    intro hle
    unfold World.cell? at h1
    simp [Addr.add, Array.getElem?_eq_none hle] at h1
  · rw [List.length_take] at hi
    have h1 := hc i (by omega)
    rw [show Addr.add ⟨b, o, none⟩ i = ⟨b, o + i, none⟩ by simp [Addr.add]] at h1
    rw [h1, List.getElem_take, List.getD_eq_getElem?_getD, List.getElem?_eq_getElem (by omega)]
    rfl

/-- All but the blocks from lo up to hi is as it was. -/
structure Band (lo hi : Nat) (w w' : World) : Prop where
  os : w'.os = w.os
  tape : w'.tape = w.tape
  output : w'.output = w.output
  size : w'.heap.size = w.heap.size
  block : ∀ b, b < lo ∨ hi ≤ b → w'.heap[b]? = w.heap[b]?

theorem Band.refl (lo hi : Nat) (w : World) : Band lo hi w w := ⟨rfl, rfl, rfl, rfl, fun _ _ => rfl⟩

theorem Band.trans {lo hi : Nat} {a b c : World} (h : Band lo hi a b) (k : Band lo hi b c) : Band lo hi a c :=
  ⟨k.os.trans h.os, k.tape.trans h.tape, k.output.trans h.output, k.size.trans h.size, fun i hi => (k.block i hi).trans (h.block i hi)⟩

theorem Band.wide {lo hi lo' hi' : Nat} {w w' : World} (h : Band lo hi w w') (h1 : lo' ≤ lo) (h2 : hi ≤ hi') : Band lo' hi' w w' :=
  ⟨h.os, h.tape, h.output, h.size, fun b hb => h.block b (by omega)⟩

theorem Band.set {lo hi : Nat} {a w : World} (h : Band lo hi a w) {g i : Nat} (h1 : lo ≤ g) (h2 : g < hi) (u : Value) : Band lo hi a (w.setCell ⟨g, i, none⟩ u) := by
  have L := (Below.refl 0 w).setCell (p := ⟨g, i, none⟩) (Nat.zero_le _) u
  refine ⟨L.os.trans h.os, L.tape.trans h.tape, L.output.trans h.output, by rw [World.size_setCell]; exact h.size, fun b hb => ?_⟩
  rw [Below.heap_setCell w ⟨g, i, none⟩ u b (by show b ≠ g; omega)]
  exact h.block b hb

theorem Band.below {lo hi : Nat} {w w' : World} (h : Band lo hi w w') : Below lo w w' := ⟨h.os, h.tape, h.output, Nat.le_of_eq h.size.symm, fun k hk => h.block k (Or.inl hk)⟩


theorem Ints.band {lo hi : Nat} {w w1 : World} {a : Option Addr} {zs : List Int} (h : Ints w a zs) (L : Band lo hi w w1) (ha : ∀ b o, a = some ⟨b, o, none⟩ → zs ≠ [] → b < lo ∨ hi ≤ b) : Ints w1 a zs := by
  rcases h with h | ⟨b, o, rfl, hlt, hc⟩
  · exact Or.inl h
  · by_cases hz : zs = []
    · exact Or.inl hz
    · exact Or.inr ⟨b, o, rfl, by rw [L.size]; exact hlt, fun i hi => by rw [World.cell?_of_block (a := ⟨b, o + i, none⟩) (L.block b (ha b o rfl hz))]; exact hc i hi⟩

/-- Numbers in a block of their own have room. -/
theorem Ints.room {w : World} {g : Nat} {zs : List Int} (h : Ints w (some ⟨g, 0, none⟩) zs) (hf : ∀ i, w.frozen? ⟨g, i, none⟩ = false) : Room w g zs.length := by
  intro j hj
  obtain ⟨b, o, e, -, hc⟩ := h.at j hj
  simp only [Option.some.injEq, Addr.mk.injEq] at e
  obtain ⟨rfl, rfl, -⟩ := e
  rw [Nat.zero_add] at hc
  exact ⟨⟨_, hc⟩, hf j⟩

theorem Room.band {lo hi : Nat} {w w1 : World} {g m : Nat} (h : Room w g m) (L : Band lo hi w w1) (hg : g < lo ∨ hi ≤ g) : Room w1 g m := by
  intro j hj
  rw [World.cell?_of_block (a := ⟨g, j, none⟩) (L.block g hg), World.frozen?_of_block (a := ⟨g, j, none⟩) (L.block g hg)]
  exact h j hj

/-- The marks of n numbers in block g. -/
def Mkd (z : Int) (w : World) (g n : Nat) : Prop := ∀ i, i < n → w.cell? ⟨g, i, none⟩ = some (.int .i64 (z + (i : Int)))

theorem Mkd.on {w w1 : World} {g n B : Nat} {z : Int} (h : Mkd z w g n) (L : Below B w w1) (hg : g < B) : Mkd z w1 g n := by
  intro i hi
  rw [L.cell (p := ⟨g, i, none⟩) hg]
  exact h i hi

theorem Mkd.step {w : World} {g n k : Nat} {z : Int} (h : Mkd z w g k) (R : Room w g n) (hk : k < n) : Mkd z (w.setCell ⟨g, k, none⟩ (.int .i64 (z + (k : Int)))) g (k + 1) := by
  intro i hi
  by_cases e : i = k
  · subst e
    obtain ⟨⟨v, hv⟩, -⟩ := R i hk
    rw [set_cell hv, if_pos rfl]
  · rw [set_cell (h i (by omega)), if_neg e]

end Hn
end Go.Proofs.YtehmlnojjfeheaaGreat

/- Lists of numbers that are off: OffOk of program and model. -/
namespace Go.Proofs.YtehmlnojjfeheaaGreat
namespace Hn
open Go.ChangeShapes Go.WideShapes Go.ChangeAt Go.RowKit
open Pk (new_below join_below cell_at heap_new frozen_at lt_of kept heap_old Drawn info_of Room)
set_option linter.unusedSimpArgs false
set_option linter.unusedVariables false

def inB (x lo hi : Int) : Bool := decide (lo ≤ x) && decide (x ≤ hi)

theorem in_is {x lo hi : Int} : inB x lo hi = true ↔ lo ≤ x ∧ x ≤ hi := by simp [inB]
theorem in_not {x lo hi : Int} : inB x lo hi = false ↔ ¬ (lo ≤ x ∧ x ≤ hi) := by
  rw [← in_is]
  simp

theorem btw_yes (x lo hi : Int) (w : World) (h : inB x lo hi = true) :
    Calls Tryz.prog 85 #[.int .i64 x, .int .i64 lo, .int .i64 hi] w fun e w' => e = .returned (.bool true) ∧ w' = w := by
  obtain ⟨h1, h2⟩ := in_is.1 h
  have d1 : decide (lo ≤ x) = true := decide_eq_true h1
  have d2 : decide (x ≤ hi) = true := decide_eq_true h2
  clear h h1 h2
  go_enter Tryz.func85, Tryz.ntmps85
  go_wp2
  go_ret
  exact ⟨rfl, rfl⟩

theorem btw_no (x lo hi : Int) (w : World) (h : inB x lo hi = false) :
    Calls Tryz.prog 85 #[.int .i64 x, .int .i64 lo, .int .i64 hi] w fun e w' => e = .returned (.bool false) ∧ w' = w := by
  by_cases h1 : lo ≤ x
  · have h2 : ¬ x ≤ hi := fun h2 => in_not.1 h ⟨h1, h2⟩
    have d1 : decide (lo ≤ x) = true := decide_eq_true h1
    have d2 : decide (x ≤ hi) = false := decide_eq_false h2
    clear h h1 h2
    go_enter Tryz.func85, Tryz.ntmps85
    go_wp2
    go_ret
    exact ⟨rfl, rfl⟩
  · have d1 : decide (lo ≤ x) = false := decide_eq_false h1
    clear h h1
    go_enter Tryz.func85, Tryz.ntmps85
    go_wp2
    go_ret
    exact ⟨rfl, rfl⟩

theorem btw_val (x lo hi : Int) (w : World) : Calls Tryz.prog 85 #[.int .i64 x, .int .i64 lo, .int .i64 hi] w fun e w' => e = .returned (.bool (inB x lo hi)) ∧ w' = w := by
  cases h : inB x lo hi
  · exact btw_no x lo hi w h
  · exact btw_yes x lo hi w h

theorem ins_yes (x lo hi : Int) (w : World) (h : inB x lo hi = true) :
    Calls Tryz.prog 43 #[.int .i64 x, .int .i64 lo, .int .i64 hi] w fun e w' => e = .returned (.bool true) ∧ w' = w := by
  obtain ⟨h1, h2⟩ := in_is.1 h
  have d1 : decide (lo ≤ x) = true := decide_eq_true h1
  have d2 : decide (x ≤ hi) = true := decide_eq_true h2
  clear h h1 h2
  go_enter Tryz.func43, Tryz.ntmps43
  go_wp2
  go_ret
  exact ⟨rfl, rfl⟩

theorem ins_no (x lo hi : Int) (w : World) (h : inB x lo hi = false) :
    Calls Tryz.prog 43 #[.int .i64 x, .int .i64 lo, .int .i64 hi] w fun e w' => e = .returned (.bool false) ∧ w' = w := by
  by_cases h1 : lo ≤ x
  · have h2 : ¬ x ≤ hi := fun h2 => in_not.1 h ⟨h1, h2⟩
    have d1 : decide (lo ≤ x) = true := decide_eq_true h1
    have d2 : decide (x ≤ hi) = false := decide_eq_false h2
    clear h h1 h2
    go_enter Tryz.func43, Tryz.ntmps43
    go_wp2
    go_ret
    exact ⟨rfl, rfl⟩
  · have d1 : decide (lo ≤ x) = false := decide_eq_false h1
    clear h h1
    go_enter Tryz.func43, Tryz.ntmps43
    go_wp2
    go_ret
    exact ⟨rfl, rfl⟩

theorem ins_val (x lo hi : Int) (w : World) : Calls Tryz.prog 43 #[.int .i64 x, .int .i64 lo, .int .i64 hi] w fun e w' => e = .returned (.bool (inB x lo hi)) ∧ w' = w := by
  cases h : inB x lo hi
  · exact ins_no x lo hi w h
  · exact ins_yes x lo hi w h

/-- Numbers that ascend from above p on, none above the greatest. -/
def offG (p : Int) : List Int → Bool
  | [] => true
  | x :: t => decide (p < x) && (decide (x ≤ 999999999) && offG x t)

/-- Whether a list of numbers is right. -/
def offB (l : List Int) : Bool := decide (l.length ≤ 200) && offG 0 l

theorem off_step {p : Int} {l : List Int} {k : Nat} (hk : k < l.length) : offG p (l.drop k) = (decide (p < l[k]) && (decide (l[k] ≤ 999999999) && offG l[k] (l.drop (k + 1)))) := by
  rw [List.drop_eq_getElem_cons hk]
  rfl

theorem off_end (p : Int) (l : List Int) : offG p (l.drop l.length) = true := by simp [offG]

/-- What stands ahead of place k. -/
def pre (l : List Int) (k : Nat) : Int := if k = 0 then 0 else l.getD (k - 1) 0

theorem pre_next {l : List Int} {k : Nat} (hk : k < l.length) : pre l (k + 1) = l[k] := by
  unfold pre
  rw [if_neg (by omega), List.getD_eq_getElem?_getD, Nat.add_sub_cancel, List.getElem?_eq_getElem hk]
  rfl

theorem off_first {p x : Int} {t : List Int} {r : Bool} (h : (decide (p < x) && (decide (x ≤ 999999999) && offG x t)) = r) (h1 : p < x) (h2 : x ≤ 999999999) : offG x t = r := by
  rw [decide_eq_true h1, decide_eq_true h2, Bool.true_and, Bool.true_and] at h
  exact h

theorem off_no {p x : Int} {t : List Int} {r : Bool} (h : (decide (p < x) && (decide (x ≤ 999999999) && offG x t)) = r) (h1 : ¬ (p < x ∧ x ≤ 999999999)) : r = false := by
  rw [← h]
  by_cases h2 : p < x
  · have h3 : ¬ x ≤ 999999999 := fun h3 => h1 ⟨h2, h3⟩
    rw [decide_eq_false h3]
    simp
  · rw [decide_eq_false h2]
    simp

theorem offG_pos : ∀ {p : Int} {l : List Int}, 0 ≤ p → offG p l = true → ∀ x ∈ l, 1 ≤ x
  | _, [], _, _, x, hx => by simp at hx
  | p, y :: t, hp, h, x, hx => by
    simp [offG] at h
    rcases List.mem_cons.1 hx with rfl | hx
    · omega
    · exact offG_pos (p := y) (by omega) h.2.2 x hx

end Hn
end Go.Proofs.YtehmlnojjfeheaaGreat

/- Devices as values: what they hold, and where it lies. -/
namespace Go.Proofs.YtehmlnojjfeheaaGreat
namespace Hn
open Go.ChangeShapes Go.WideShapes Go.ChangeAt Go.RowKit
open Pk (new_below join_below cell_at heap_new frozen_at lt_of kept heap_old Drawn info_of Room)
set_option linter.unusedSimpArgs false
set_option linter.unusedVariables false

/-- What a device holds. -/
structure Hnd where
  dv : Int
  p : Int
  q : Int
  g : Int
  op : Int
  is : Int
  ve : Int
  ol : List Int
  sl : List Ct

/-- Where its lists lie. -/
structure Pl where
  a : Option Addr
  c : Nat
  b : Option Addr
  d : Nat

/-- It as a value, and as a block. -/
abbrev hnV (x : Pl) (o : Hnd) : Value := .agg #[.int .i64 o.dv, .int .i64 o.p, .int .i64 o.q, .int .i64 o.g, .int .i64 o.op, .int .i64 o.is, .int .i64 o.ve, .slice x.a o.ol.length x.c, .slice x.b o.sl.length x.d]
abbrev hnB (x : Pl) (o : Hnd) (t : TypeId) : Obj := .cells #[.int .i64 o.dv, .int .i64 o.p, .int .i64 o.q, .int .i64 o.g, .int .i64 o.op, .int .i64 o.is, .int .i64 o.ve, .slice x.a o.ol.length x.c, .slice x.b o.sl.length x.d] t

/-- Its lists lie there. -/
structure In (w : World) (x : Pl) (o : Hnd) : Prop where
  off : Ints w x.a o.ol
  seen : Controls w x.b o.sl

theorem In.on {w w1 : World} {x : Pl} {o : Hnd} (h : In w x o) (L : Below w.heap.size w w1) : In w1 x o := ⟨h.off.on L, h.seen.on L⟩

/-- The controls are those of the device, numbered on from k. -/
def seenF (dv : Int) (k : Nat) : List Ct → Bool
  | [] => true
  | c :: t => decide (c.dv = dv) && (decide (c.no = (k : Int) + 1) && seenF dv (k + 1) t)

def seenB (dv : Int) (l : List Ct) : Bool := decide (l.length ≤ 300) && seenF dv 0 l

/-- Whether a device is right. -/
def handB (o : Hnd) : Bool := inB o.dv 1 9999 && (inB o.is 0 9999 && (decide (0 ≤ o.ve) && (offB o.ol && seenB o.dv o.sl)))

theorem seen_step {dv : Int} {l : List Ct} {k : Nat} (hk : k < l.length) : seenF dv k (l.drop k) = (decide (l[k].dv = dv) && (decide (l[k].no = (k : Int) + 1) && seenF dv (k + 1) (l.drop (k + 1)))) := by
  rw [List.drop_eq_getElem_cons hk]
  rfl

theorem seen_end (dv : Int) (k : Nat) (l : List Ct) : seenF dv k (l.drop l.length) = true := by simp [seenF]

theorem seen_yes {dv x y : Int} {k : Int} {r s : Bool} (h : (decide (x = dv) && (decide (y = k) && r)) = s) (h1 : x = dv) (h2 : y = k) : r = s := by
  rw [decide_eq_true h1, decide_eq_true h2, Bool.true_and, Bool.true_and] at h
  exact h

theorem seen_no {dv x y : Int} {k : Int} {r s : Bool} (h : (decide (x = dv) && (decide (y = k) && r)) = s) (h1 : ¬ (x = dv ∧ y = k)) : s = false := by
  rw [← h]
  by_cases h2 : x = dv
  · have h3 : ¬ y = k := fun h3 => h1 ⟨h2, h3⟩
    rw [decide_eq_false h3]
    simp
  · rw [decide_eq_false h2]
    simp

end Hn
end Go.Proofs.YtehmlnojjfeheaaGreat

/- Controls that came in: how many there are, and what they hold. -/
namespace Go.Proofs.YtehmlnojjfeheaaGreat
namespace Hn
open Go.ChangeShapes Go.WideShapes Go.ChangeAt Go.RowKit
set_option linter.unusedSimpArgs false
set_option linter.unusedVariables false

theorem add_plain (b o i : Nat) : Addr.add ⟨b, o, none⟩ i = ⟨b, o + i, none⟩ := by simp [Addr.add]

/-- Numbers that an int controls. -/
abbrev WfI (x : Int) : Prop := (Lit.int .i64 x).wf = true

/-- All numbers of a control are such. -/
structure Wf (p : Ct) : Prop where
  dv : WfI p.dv
  no : WfI p.no
  tk : WfI p.tk
  tr : WfI p.tr
  dy : WfI p.dy
  sa : WfI p.sa

/-- All controls of a list are so. -/
def Wfs (ps : List Ct) : Prop := ∀ p ∈ ps, Wf p

end Hn
end Go.Proofs.YtehmlnojjfeheaaGreat

/- Contracts of the laws' own helpers over controls that a function has been given or has made: marked, held against the marks. -/
namespace Go.Proofs.YtehmlnojjfeheaaGreat
namespace Hn
open Go.ChangeShapes Go.WideShapes Go.ChangeAt Go.RowKit
open Pk (new_below join_below cell_at heap_new frozen_at lt_of kept heap_old Drawn info_of Room)
set_option linter.unusedSimpArgs false
set_option linter.unusedVariables false

theorem Controls.band {lo hi : Nat} {w w1 : World} {a : Option Addr} {ps : List Ct} (h : Controls w a ps) (L : Band lo hi w w1) (ha : ∀ b o, a = some ⟨b, o, none⟩ → ps ≠ [] → b < lo ∨ hi ≤ b) : Controls w1 a ps := by
  rcases h with h | ⟨b, o, rfl, hlt, hc⟩
  · exact Or.inl h
  · by_cases hz : ps = []
    · exact Or.inl hz
    · have hb := L.block b (ha b o rfl hz)
      exact Or.inr ⟨b, o, rfl, by rw [L.size]; exact hlt, fun i hi => by rw [World.cell?_of_block (a := ⟨b, o + i * 6, none⟩) hb, World.cell?_of_block (a := ⟨b, o + i * 6 + 1, none⟩) hb, World.cell?_of_block (a := ⟨b, o + i * 6 + 2, none⟩) hb, World.cell?_of_block (a := ⟨b, o + i * 6 + 3, none⟩) hb, World.cell?_of_block (a := ⟨b, o + i * 6 + 4, none⟩) hb, World.cell?_of_block (a := ⟨b, o + i * 6 + 5, none⟩) hb]; exact hc i hi⟩

/-- The marks of n controls in block g. -/
def Marked (z : Int) (w : World) (g n : Nat) : Prop := ∀ i, i < n → w.cell? ⟨g, i * 6, none⟩ = some (.int .i64 (z + 6 * (i : Int))) ∧ w.cell? ⟨g, i * 6 + 1, none⟩ = some (.int .i64 (z + 6 * (i : Int) + 1)) ∧ w.cell? ⟨g, i * 6 + 2, none⟩ = some (.int .i64 (z + 6 * (i : Int) + 2)) ∧ w.cell? ⟨g, i * 6 + 3, none⟩ = some (.int .i64 (z + 6 * (i : Int) + 3)) ∧ w.cell? ⟨g, i * 6 + 4, none⟩ = some (.int .i64 (z + 6 * (i : Int) + 4)) ∧ w.cell? ⟨g, i * 6 + 5, none⟩ = some (.int .i64 (z + 6 * (i : Int) + 5))

theorem Marked.on {w w1 : World} {g n B : Nat} {z : Int} (h : Marked z w g n) (L : Below B w w1) (hg : g < B) : Marked z w1 g n := by
  intro i hi
  rw [L.cell (p := ⟨g, i * 6, none⟩) hg, L.cell (p := ⟨g, i * 6 + 1, none⟩) hg, L.cell (p := ⟨g, i * 6 + 2, none⟩) hg, L.cell (p := ⟨g, i * 6 + 3, none⟩) hg, L.cell (p := ⟨g, i * 6 + 4, none⟩) hg, L.cell (p := ⟨g, i * 6 + 5, none⟩) hg]
  exact h i hi

theorem Marked.step {w : World} {g n k : Nat} {z : Int} (h : Marked z w g k) (R : Room w g (n * 6)) (hk : k < n) : Marked z ((((((w.setCell ⟨g, k * 6, none⟩ (.int .i64 (z + 6 * (k : Int)))).setCell ⟨g, k * 6 + 1, none⟩ (.int .i64 (z + 6 * (k : Int) + 1))).setCell ⟨g, k * 6 + 2, none⟩ (.int .i64 (z + 6 * (k : Int) + 2))).setCell ⟨g, k * 6 + 3, none⟩ (.int .i64 (z + 6 * (k : Int) + 3))).setCell ⟨g, k * 6 + 4, none⟩ (.int .i64 (z + 6 * (k : Int) + 4))).setCell ⟨g, k * 6 + 5, none⟩ (.int .i64 (z + 6 * (k : Int) + 5))) g (k + 1) := by
  intro i hi
  by_cases e : i = k
  · subst e
    obtain ⟨⟨v0, e0⟩, -⟩ := R (i * 6) (by omega)
    obtain ⟨⟨v1, e1⟩, -⟩ := R (i * 6 + 1) (by omega)
    obtain ⟨⟨v2, e2⟩, -⟩ := R (i * 6 + 2) (by omega)
    obtain ⟨⟨v3, e3⟩, -⟩ := R (i * 6 + 3) (by omega)
    obtain ⟨⟨v4, e4⟩, -⟩ := R (i * 6 + 4) (by omega)
    obtain ⟨⟨v5, e5⟩, -⟩ := R (i * 6 + 5) (by omega)
    rw [set_cell (set_cell (set_cell (set_cell (set_cell (set_cell e0))))), set_cell (set_cell (set_cell (set_cell (set_cell (set_cell e1))))), set_cell (set_cell (set_cell (set_cell (set_cell (set_cell e2))))), set_cell (set_cell (set_cell (set_cell (set_cell (set_cell e3))))), set_cell (set_cell (set_cell (set_cell (set_cell (set_cell e4))))), set_cell (set_cell (set_cell (set_cell (set_cell (set_cell e5)))))]
    simp
  · obtain ⟨e0, e1, e2, e3, e4, e5⟩ := h i (by omega)
    rw [set_cell (set_cell (set_cell (set_cell (set_cell (set_cell e0))))), set_cell (set_cell (set_cell (set_cell (set_cell (set_cell e1))))), set_cell (set_cell (set_cell (set_cell (set_cell (set_cell e2))))), set_cell (set_cell (set_cell (set_cell (set_cell (set_cell e3))))), set_cell (set_cell (set_cell (set_cell (set_cell (set_cell e4))))), set_cell (set_cell (set_cell (set_cell (set_cell (set_cell e5)))))]
    rw [if_neg (by omega), if_neg (by omega), if_neg (by omega), if_neg (by omega), if_neg (by omega), if_neg (by omega), if_neg (by omega), if_neg (by omega), if_neg (by omega), if_neg (by omega), if_neg (by omega), if_neg (by omega), if_neg (by omega), if_neg (by omega), if_neg (by omega), if_neg (by omega), if_neg (by omega), if_neg (by omega), if_neg (by omega), if_neg (by omega), if_neg (by omega), if_neg (by omega), if_neg (by omega), if_neg (by omega), if_neg (by omega), if_neg (by omega), if_neg (by omega), if_neg (by omega), if_neg (by omega), if_neg (by omega), if_neg (by omega), if_neg (by omega), if_neg (by omega), if_neg (by omega), if_neg (by omega), if_neg (by omega)]
    exact ⟨rfl, rfl, rfl, rfl, rfl, rfl⟩

end Hn
end Go.Proofs.YtehmlnojjfeheaaGreat

/- Contracts of the laws' own helpers over devices: their size, a copy, two of them held against each other, marked and held against the marks. -/
namespace Go.Proofs.YtehmlnojjfeheaaGreat
namespace Hn
open Go.ChangeShapes Go.WideShapes Go.ChangeAt Go.RowKit Go.Joins
open Pk (new_below join_below cell_at heap_new frozen_at lt_of kept heap_old Drawn info_of Room)
set_option linter.unusedSimpArgs false
set_option linter.unusedVariables false

theorem named {P : Program} {f : FuncId} {args : Array Value} {w : World} {post : Ending → World → Prop} (h : ∀ W, W = w → Calls P f args W post) : Calls P f args w post := h w rfl

theorem h_set {w : World} {c i : Nat} {cs : Array Value} {t : TypeId} {f : Nat × Nat} (h : w.heap[c]? = some (.cells cs t f)) (u : Value) : (w.setCell ⟨c, i, none⟩ u).heap[c]? = some (.cells (cs.setIfInBounds i u) t f) := by
  unfold World.setCell
  simp [Array.getElem?_modify, h]

theorem h_other {w : World} {c g i : Nat} {x : Obj} (h : w.heap[c]? = some x) (hne : c ≠ g) (u : Value) : (w.setCell ⟨g, i, none⟩ u).heap[c]? = some x := by
  rw [Below.heap_setCell w ⟨g, i, none⟩ u c hne]
  exact h

theorem two_blocks (w : World) (a b : Obj) : ((w.alloc a).alloc b).heap[w.heap.size]? = some a ∧ ((w.alloc a).alloc b).heap[w.heap.size + 1]? = some b ∧ ((w.alloc a).alloc b).heap.size = w.heap.size + 1 + 1 := by
  have e1 : (w.alloc a).heap.size = w.heap.size + 1 := Array.size_push ..
  refine ⟨heap_old (heap_new w a) b, ?_, ?_⟩
  · rw [← e1]; exact heap_new (w.alloc a) b
  · rw [← e1]; exact Array.size_push ..

theorem three_blocks (w : World) (a b c : Obj) : (((w.alloc a).alloc b).alloc c).heap[w.heap.size]? = some a ∧ (((w.alloc a).alloc b).alloc c).heap[w.heap.size + 1]? = some b ∧ (((w.alloc a).alloc b).alloc c).heap[w.heap.size + 1 + 1]? = some c := by
  have e1 : (w.alloc a).heap.size = w.heap.size + 1 := Array.size_push ..
  have e2 : ((w.alloc a).alloc b).heap.size = w.heap.size + 1 + 1 := by rw [← e1]; exact Array.size_push ..
  refine ⟨heap_old (heap_old (heap_new w a) b) c, ?_, ?_⟩
  · rw [← e1]; exact heap_old (heap_new (w.alloc a) b) c
  · rw [← e2]; exact heap_new ((w.alloc a).alloc b) c

/-- Its lists lie in the blocks g1 and g2, from lo on, which are its own. -/
structure Mine (lo : Nat) (w : World) (x : Pl) (o : Hnd) (g1 g2 : Nat) : Prop where
  ne : g1 ≠ g2
  lo1 : lo ≤ g1
  lo2 : lo ≤ g2
  off : o.ol.length = 0 ∨ (x.a = some ⟨g1, 0, none⟩ ∧ g1 < w.heap.size ∧ Room w g1 o.ol.length)
  seen : o.sl.length = 0 ∨ (x.b = some ⟨g2, 0, none⟩ ∧ g2 < w.heap.size ∧ Room w g2 (o.sl.length * 6))

theorem Mine.on {lo : Nat} {w w1 : World} {x : Pl} {o : Hnd} {g1 g2 : Nat} (h : Mine lo w x o g1 g2) (L : Below w.heap.size w w1) : Mine lo w1 x o g1 g2 :=
  ⟨h.ne, h.lo1, h.lo2, h.off.imp_right fun ⟨h1, h2, h3⟩ => ⟨h1, Nat.lt_of_lt_of_le h2 L.size, h3.on L h2⟩, h.seen.imp_right fun ⟨h1, h2, h3⟩ => ⟨h1, Nat.lt_of_lt_of_le h2 L.size, h3.on L h2⟩⟩

/-- Of the blocks that there were all are kept but some from lo up to hi. -/
structure Brd (lo hi : Nat) (w w' : World) : Prop where
  os : w'.os = w.os
  tape : w'.tape = w.tape
  output : w'.output = w.output
  size : w.heap.size ≤ w'.heap.size
  block : ∀ b, b < w.heap.size → b < lo ∨ hi ≤ b → w'.heap[b]? = w.heap[b]?

theorem Brd.of {lo hi : Nat} {w w' : World} (h : Below w.heap.size w w') : Brd lo hi w w' := ⟨h.os, h.tape, h.output, h.size, fun b hb _ => h.block b hb⟩

theorem Brd.band {lo hi lo' hi' : Nat} {w w' : World} (h : Band lo' hi' w w') (h1 : lo ≤ lo') (h2 : hi' ≤ hi) : Brd lo hi w w' := ⟨h.os, h.tape, h.output, Nat.le_of_eq h.size.symm, fun b _ hb => h.block b (by omega)⟩

theorem Brd.trans {lo hi : Nat} {a b c : World} (h : Brd lo hi a b) (k : Brd lo hi b c) : Brd lo hi a c :=
  ⟨k.os.trans h.os, k.tape.trans h.tape, k.output.trans h.output, Nat.le_trans h.size k.size, fun i hi h' => (k.block i (Nat.lt_of_lt_of_le hi h.size) h').trans (h.block i hi h')⟩

theorem Brd.below {lo hi B : Nat} {a w w' : World} (h : Brd lo hi w w') (L : Below B a w) (hB : B ≤ lo) (hs : B ≤ a.heap.size) : Below B a w' :=
  ⟨h.os.trans L.os, h.tape.trans L.tape, h.output.trans L.output, Nat.le_trans L.size h.size, fun k hk => (h.block k (Nat.lt_of_lt_of_le (Nat.lt_of_lt_of_le hk hs) L.size) (Or.inl (by omega))).trans (L.block k hk)⟩

/-- Its lists lie below lo or from hi on. -/
def Far (lo hi : Nat) (x : Pl) (o : Hnd) : Prop := (∀ b u, x.a = some ⟨b, u, none⟩ → o.ol ≠ [] → b < lo ∨ hi ≤ b) ∧ ∀ b u, x.b = some ⟨b, u, none⟩ → o.sl ≠ [] → b < lo ∨ hi ≤ b

theorem Far.of {lo hi : Nat} {w : World} {x : Pl} {o : Hnd} (h : In w x o) (hl : w.heap.size ≤ lo) : Far lo hi x o := by
  refine ⟨fun b u e hne => ?_, fun b u e hne => ?_⟩
  · rcases h.off with h0 | ⟨b', o', e', hb, -⟩
    · exact absurd h0 hne
    · rw [e] at e'
      simp only [Option.some.injEq, Addr.mk.injEq] at e'
      omega
  · rcases h.seen with h0 | ⟨b', o', e', hb, -⟩
    · exact absurd h0 hne
    · rw [e] at e'
      simp only [Option.some.injEq, Addr.mk.injEq] at e'
      omega

theorem Far.mine {lo hi : Nat} {w : World} {x : Pl} {o : Hnd} {g1 g2 : Nat} (h : Mine hi w x o g1 g2) : Far lo hi x o := by
  refine ⟨fun b u e hne => ?_, fun b u e hne => ?_⟩
  · rcases h.off with h0 | ⟨h1, -, -⟩
    · exact absurd (List.eq_nil_of_length_eq_zero h0) hne
    · rw [e] at h1
      simp only [Option.some.injEq, Addr.mk.injEq] at h1
      have := h.lo1
      omega
  · rcases h.seen with h0 | ⟨h1, -, -⟩
    · exact absurd (List.eq_nil_of_length_eq_zero h0) hne
    · rw [e] at h1
      simp only [Option.some.injEq, Addr.mk.injEq] at h1
      have := h.lo2
      omega

theorem Ints.brd {lo hi : Nat} {w w1 : World} {a : Option Addr} {zs : List Int} (h : Ints w a zs) (L : Brd lo hi w w1) (ha : ∀ b o, a = some ⟨b, o, none⟩ → zs ≠ [] → b < lo ∨ hi ≤ b) : Ints w1 a zs := by
  rcases h with h | ⟨b, o, rfl, hlt, hc⟩
  · exact Or.inl h
  · by_cases hz : zs = []
    · exact Or.inl hz
    · exact Or.inr ⟨b, o, rfl, Nat.lt_of_lt_of_le hlt L.size, fun i hi => by rw [World.cell?_of_block (a := ⟨b, o + i, none⟩) (L.block b hlt (ha b o rfl hz))]; exact hc i hi⟩

theorem Controls.brd {lo hi : Nat} {w w1 : World} {a : Option Addr} {ps : List Ct} (h : Controls w a ps) (L : Brd lo hi w w1) (ha : ∀ b o, a = some ⟨b, o, none⟩ → ps ≠ [] → b < lo ∨ hi ≤ b) : Controls w1 a ps := by
  rcases h with h | ⟨b, o, rfl, hlt, hc⟩
  · exact Or.inl h
  · by_cases hz : ps = []
    · exact Or.inl hz
    · have hb := L.block b hlt (ha b o rfl hz)
      exact Or.inr ⟨b, o, rfl, Nat.lt_of_lt_of_le hlt L.size, fun i hi => by rw [World.cell?_of_block (a := ⟨b, o + i * 6, none⟩) hb, World.cell?_of_block (a := ⟨b, o + i * 6 + 1, none⟩) hb, World.cell?_of_block (a := ⟨b, o + i * 6 + 2, none⟩) hb, World.cell?_of_block (a := ⟨b, o + i * 6 + 3, none⟩) hb, World.cell?_of_block (a := ⟨b, o + i * 6 + 4, none⟩) hb, World.cell?_of_block (a := ⟨b, o + i * 6 + 5, none⟩) hb]; exact hc i hi⟩

theorem In.brd {lo hi : Nat} {w w1 : World} {x : Pl} {o : Hnd} (h : In w x o) (L : Brd lo hi w w1) (F : Far lo hi x o) : In w1 x o := ⟨h.off.brd L F.1, h.seen.brd L F.2⟩

theorem Room.brd {lo hi : Nat} {w w1 : World} {g m : Nat} (h : Room w g m) (L : Brd lo hi w w1) (h0 : g < w.heap.size) (hg : g < lo ∨ hi ≤ g) : Room w1 g m := by
  intro j hj
  rw [World.cell?_of_block (a := ⟨g, j, none⟩) (L.block g h0 hg), World.frozen?_of_block (a := ⟨g, j, none⟩) (L.block g h0 hg)]
  exact h j hj

theorem Mine.brd {lo hi lo' : Nat} {w w1 : World} {x : Pl} {o : Hnd} {g1 g2 : Nat} (h : Mine lo' w x o g1 g2) (L : Brd lo hi w w1) (hh : hi ≤ lo') : Mine lo' w1 x o g1 g2 :=
  ⟨h.ne, h.lo1, h.lo2, h.off.imp_right fun ⟨h1, h2, h3⟩ => ⟨h1, Nat.lt_of_lt_of_le h2 L.size, Room.brd h3 L h2 (Or.inr (Nat.le_trans hh h.lo1))⟩, h.seen.imp_right fun ⟨h1, h2, h3⟩ => ⟨h1, Nat.lt_of_lt_of_le h2 L.size, Room.brd h3 L h2 (Or.inr (Nat.le_trans hh h.lo2))⟩⟩

/-- The marks of a device. -/
structure Mks (w : World) (o : Hnd) (g1 g2 : Nat) : Prop where
  off : Mkd 1 w g1 o.ol.length
  seen : Marked (1 + (o.ol.length : Int)) w g2 o.sl.length
  lt1 : o.ol.length = 0 ∨ g1 < w.heap.size
  lt2 : o.sl.length = 0 ∨ g2 < w.heap.size

theorem Mks.on {w w1 : World} {o : Hnd} {g1 g2 : Nat} (h : Mks w o g1 g2) (L : Below w.heap.size w w1) : Mks w1 o g1 g2 := by
  refine ⟨?_, ?_, h.lt1.imp_right fun k => Nat.lt_of_lt_of_le k L.size, h.lt2.imp_right fun k => Nat.lt_of_lt_of_le k L.size⟩
  · rcases h.lt1 with h0 | h0
    · intro i hi; omega
    · exact h.off.on L h0
  · rcases h.lt2 with h0 | h0
    · intro i hi; omega
    · exact h.seen.on L h0

theorem Brd.one {lo hi g : Nat} {w w' : World} (h : Band g (g + 1) w w') (hc : w.heap.size ≤ g ∨ (lo ≤ g ∧ g < hi)) : Brd lo hi w w' := ⟨h.os, h.tape, h.output, Nat.le_of_eq h.size.symm, fun b h0 hb => h.block b (by omega)⟩

theorem Mkd.band {w w1 : World} {g n lo hi : Nat} {z : Int} (h : Mkd z w g n) (L : Band lo hi w w1) (hg : g < lo ∨ hi ≤ g) : Mkd z w1 g n := by
  intro i hi'
  rw [World.cell?_of_block (a := ⟨g, i, none⟩) (L.block g hg)]
  exact h i hi'

end Hn
end Go.Proofs.YtehmlnojjfeheaaGreat

/- Two booths that begin alike are told alike. -/
namespace Go.Proofs.YtehmlnojjfeheaaGreat
namespace Dk
open Go.ChangeShapes Go.WideShapes Go.ChangeAt Go.RowKit
open Pk (new_below join_below cell_at heap_new frozen_at lt_of kept heap_old info_of Room own_form)
open Of (Offc Pl ofV In Small)
open Tn (Tr Trains)
open Tf (Ed Edges)
set_option linter.unusedSimpArgs false
set_option linter.unusedVariables false

theorem two_blocks2 (w : World) (a b : Obj) : ((w.alloc a).alloc b).heap[w.heap.size]? = some a ∧ ((w.alloc a).alloc b).heap[w.heap.size + 1]? = some b := by
  have e1 : (w.alloc a).heap.size = w.heap.size + 1 := Array.size_push ..
  refine ⟨heap_old (heap_new w a) b, ?_⟩
  rw [← e1]
  exact heap_new (w.alloc a) b

set_option maxRecDepth 100000 in
set_option maxHeartbeats 4000000 in
theorem eqPlat_same (x y x' y' : Pl) (o : Offc) (w : World) (hz : Small o) (I : In w x o) (J : In w y o) (I' : In w x' o) (J' : In w y' o) :
    Calls Tryz.prog 8 #[.agg #[.slice x.a0 o.ln.length x.c0, .slice x.a1 o.ta.length x.c1, .slice x.a2 o.ho.length x.c2, .slice x.a3 o.od.length x.c3, .slice x.a4 o.to.length x.c4, .int .i64 o.td, .slice y.a0 o.ln.length y.c0, .slice y.a1 o.ta.length y.c1, .slice y.a2 o.ho.length y.c2, .slice y.a3 o.od.length y.c3, .slice y.a4 o.to.length y.c4, .int .i64 o.td, .string ⟨#[]⟩, .int .i64 0], .agg #[.slice x'.a0 o.ln.length x'.c0, .slice x'.a1 o.ta.length x'.c1, .slice x'.a2 o.ho.length x'.c2, .slice x'.a3 o.od.length x'.c3, .slice x'.a4 o.to.length x'.c4, .int .i64 o.td, .slice y'.a0 o.ln.length y'.c0, .slice y'.a1 o.ta.length y'.c1, .slice y'.a2 o.ho.length y'.c2, .slice y'.a3 o.od.length y'.c3, .slice y'.a4 o.to.length y'.c4, .int .i64 o.td, .string ⟨#[]⟩, .int .i64 0]] w fun e w' => e = .returned (.bool true) ∧ Below w.heap.size w w' := by
  have N := join_below (new_below w (.cells #[.slice x.a0 o.ln.length x.c0, .slice x.a1 o.ta.length x.c1, .slice x.a2 o.ho.length x.c2, .slice x.a3 o.od.length x.c3, .slice x.a4 o.to.length x.c4, .int .i64 o.td, .slice y.a0 o.ln.length y.c0, .slice y.a1 o.ta.length y.c1, .slice y.a2 o.ho.length y.c2, .slice y.a3 o.od.length y.c3, .slice y.a4 o.to.length y.c4, .int .i64 o.td, .string ⟨#[]⟩, .int .i64 0] 38)) (new_below _ (.cells #[.slice x'.a0 o.ln.length x'.c0, .slice x'.a1 o.ta.length x'.c1, .slice x'.a2 o.ho.length x'.c2, .slice x'.a3 o.od.length x'.c3, .slice x'.a4 o.to.length x'.c4, .int .i64 o.td, .slice y'.a0 o.ln.length y'.c0, .slice y'.a1 o.ta.length y'.c1, .slice y'.a2 o.ho.length y'.c2, .slice y'.a3 o.od.length y'.c3, .slice y'.a4 o.to.length y'.c4, .int .i64 o.td, .string ⟨#[]⟩, .int .i64 0] 38))
  obtain ⟨k0, k1⟩ := two_blocks2 w (.cells #[.slice x.a0 o.ln.length x.c0, .slice x.a1 o.ta.length x.c1, .slice x.a2 o.ho.length x.c2, .slice x.a3 o.od.length x.c3, .slice x.a4 o.to.length x.c4, .int .i64 o.td, .slice y.a0 o.ln.length y.c0, .slice y.a1 o.ta.length y.c1, .slice y.a2 o.ho.length y.c2, .slice y.a3 o.od.length y.c3, .slice y.a4 o.to.length y.c4, .int .i64 o.td, .string ⟨#[]⟩, .int .i64 0] 38) (.cells #[.slice x'.a0 o.ln.length x'.c0, .slice x'.a1 o.ta.length x'.c1, .slice x'.a2 o.ho.length x'.c2, .slice x'.a3 o.od.length x'.c3, .slice x'.a4 o.to.length x'.c4, .int .i64 o.td, .slice y'.a0 o.ln.length y'.c0, .slice y'.a1 o.ta.length y'.c1, .slice y'.a2 o.ho.length y'.c2, .slice y'.a3 o.od.length y'.c3, .slice y'.a4 o.to.length y'.c4, .int .i64 o.td, .string ⟨#[]⟩, .int .i64 0] 38)
  have HI : Hid (∀ W : World, Below w.heap.size w W → _) := fun W (L : Below w.heap.size w W) => Of.eqOffice_same x x' o W hz (I.on L) (I'.on L)
  have HJ : Hid (∀ W : World, Below w.heap.size w W → _) := fun W (L : Below w.heap.size w W) => Of.eqOffice_same y y' o W hz (J.on L) (J'.on L)
  clear I J I' J' hz
  go_enter Tryz.func8, Tryz.ntmps8
  have c1 : ((w.alloc (.cells #[.slice x.a0 o.ln.length x.c0, .slice x.a1 o.ta.length x.c1, .slice x.a2 o.ho.length x.c2, .slice x.a3 o.od.length x.c3, .slice x.a4 o.to.length x.c4, .int .i64 o.td, .slice y.a0 o.ln.length y.c0, .slice y.a1 o.ta.length y.c1, .slice y.a2 o.ho.length y.c2, .slice y.a3 o.od.length y.c3, .slice y.a4 o.to.length y.c4, .int .i64 o.td, .string ⟨#[]⟩, .int .i64 0] 38)).alloc (.cells #[.slice x'.a0 o.ln.length x'.c0, .slice x'.a1 o.ta.length x'.c1, .slice x'.a2 o.ho.length x'.c2, .slice x'.a3 o.od.length x'.c3, .slice x'.a4 o.to.length x'.c4, .int .i64 o.td, .slice y'.a0 o.ln.length y'.c0, .slice y'.a1 o.ta.length y'.c1, .slice y'.a2 o.ho.length y'.c2, .slice y'.a3 o.od.length y'.c3, .slice y'.a4 o.to.length y'.c4, .int .i64 o.td, .string ⟨#[]⟩, .int .i64 0] 38)).cell? ⟨w.heap.size, 0, none⟩ = some (.slice x.a0 o.ln.length x.c0) := cell_at k0 0
  have c2 : ((w.alloc (.cells #[.slice x.a0 o.ln.length x.c0, .slice x.a1 o.ta.length x.c1, .slice x.a2 o.ho.length x.c2, .slice x.a3 o.od.length x.c3, .slice x.a4 o.to.length x.c4, .int .i64 o.td, .slice y.a0 o.ln.length y.c0, .slice y.a1 o.ta.length y.c1, .slice y.a2 o.ho.length y.c2, .slice y.a3 o.od.length y.c3, .slice y.a4 o.to.length y.c4, .int .i64 o.td, .string ⟨#[]⟩, .int .i64 0] 38)).alloc (.cells #[.slice x'.a0 o.ln.length x'.c0, .slice x'.a1 o.ta.length x'.c1, .slice x'.a2 o.ho.length x'.c2, .slice x'.a3 o.od.length x'.c3, .slice x'.a4 o.to.length x'.c4, .int .i64 o.td, .slice y'.a0 o.ln.length y'.c0, .slice y'.a1 o.ta.length y'.c1, .slice y'.a2 o.ho.length y'.c2, .slice y'.a3 o.od.length y'.c3, .slice y'.a4 o.to.length y'.c4, .int .i64 o.td, .string ⟨#[]⟩, .int .i64 0] 38)).cell? ⟨w.heap.size, 1, none⟩ = some (.slice x.a1 o.ta.length x.c1) := cell_at k0 1
  have c3 : ((w.alloc (.cells #[.slice x.a0 o.ln.length x.c0, .slice x.a1 o.ta.length x.c1, .slice x.a2 o.ho.length x.c2, .slice x.a3 o.od.length x.c3, .slice x.a4 o.to.length x.c4, .int .i64 o.td, .slice y.a0 o.ln.length y.c0, .slice y.a1 o.ta.length y.c1, .slice y.a2 o.ho.length y.c2, .slice y.a3 o.od.length y.c3, .slice y.a4 o.to.length y.c4, .int .i64 o.td, .string ⟨#[]⟩, .int .i64 0] 38)).alloc (.cells #[.slice x'.a0 o.ln.length x'.c0, .slice x'.a1 o.ta.length x'.c1, .slice x'.a2 o.ho.length x'.c2, .slice x'.a3 o.od.length x'.c3, .slice x'.a4 o.to.length x'.c4, .int .i64 o.td, .slice y'.a0 o.ln.length y'.c0, .slice y'.a1 o.ta.length y'.c1, .slice y'.a2 o.ho.length y'.c2, .slice y'.a3 o.od.length y'.c3, .slice y'.a4 o.to.length y'.c4, .int .i64 o.td, .string ⟨#[]⟩, .int .i64 0] 38)).cell? ⟨w.heap.size, 2, none⟩ = some (.slice x.a2 o.ho.length x.c2) := cell_at k0 2
  have c4 : ((w.alloc (.cells #[.slice x.a0 o.ln.length x.c0, .slice x.a1 o.ta.length x.c1, .slice x.a2 o.ho.length x.c2, .slice x.a3 o.od.length x.c3, .slice x.a4 o.to.length x.c4, .int .i64 o.td, .slice y.a0 o.ln.length y.c0, .slice y.a1 o.ta.length y.c1, .slice y.a2 o.ho.length y.c2, .slice y.a3 o.od.length y.c3, .slice y.a4 o.to.length y.c4, .int .i64 o.td, .string ⟨#[]⟩, .int .i64 0] 38)).alloc (.cells #[.slice x'.a0 o.ln.length x'.c0, .slice x'.a1 o.ta.length x'.c1, .slice x'.a2 o.ho.length x'.c2, .slice x'.a3 o.od.length x'.c3, .slice x'.a4 o.to.length x'.c4, .int .i64 o.td, .slice y'.a0 o.ln.length y'.c0, .slice y'.a1 o.ta.length y'.c1, .slice y'.a2 o.ho.length y'.c2, .slice y'.a3 o.od.length y'.c3, .slice y'.a4 o.to.length y'.c4, .int .i64 o.td, .string ⟨#[]⟩, .int .i64 0] 38)).cell? ⟨w.heap.size, 3, none⟩ = some (.slice x.a3 o.od.length x.c3) := cell_at k0 3
  have c5 : ((w.alloc (.cells #[.slice x.a0 o.ln.length x.c0, .slice x.a1 o.ta.length x.c1, .slice x.a2 o.ho.length x.c2, .slice x.a3 o.od.length x.c3, .slice x.a4 o.to.length x.c4, .int .i64 o.td, .slice y.a0 o.ln.length y.c0, .slice y.a1 o.ta.length y.c1, .slice y.a2 o.ho.length y.c2, .slice y.a3 o.od.length y.c3, .slice y.a4 o.to.length y.c4, .int .i64 o.td, .string ⟨#[]⟩, .int .i64 0] 38)).alloc (.cells #[.slice x'.a0 o.ln.length x'.c0, .slice x'.a1 o.ta.length x'.c1, .slice x'.a2 o.ho.length x'.c2, .slice x'.a3 o.od.length x'.c3, .slice x'.a4 o.to.length x'.c4, .int .i64 o.td, .slice y'.a0 o.ln.length y'.c0, .slice y'.a1 o.ta.length y'.c1, .slice y'.a2 o.ho.length y'.c2, .slice y'.a3 o.od.length y'.c3, .slice y'.a4 o.to.length y'.c4, .int .i64 o.td, .string ⟨#[]⟩, .int .i64 0] 38)).cell? ⟨w.heap.size, 4, none⟩ = some (.slice x.a4 o.to.length x.c4) := cell_at k0 4
  have c6 : ((w.alloc (.cells #[.slice x.a0 o.ln.length x.c0, .slice x.a1 o.ta.length x.c1, .slice x.a2 o.ho.length x.c2, .slice x.a3 o.od.length x.c3, .slice x.a4 o.to.length x.c4, .int .i64 o.td, .slice y.a0 o.ln.length y.c0, .slice y.a1 o.ta.length y.c1, .slice y.a2 o.ho.length y.c2, .slice y.a3 o.od.length y.c3, .slice y.a4 o.to.length y.c4, .int .i64 o.td, .string ⟨#[]⟩, .int .i64 0] 38)).alloc (.cells #[.slice x'.a0 o.ln.length x'.c0, .slice x'.a1 o.ta.length x'.c1, .slice x'.a2 o.ho.length x'.c2, .slice x'.a3 o.od.length x'.c3, .slice x'.a4 o.to.length x'.c4, .int .i64 o.td, .slice y'.a0 o.ln.length y'.c0, .slice y'.a1 o.ta.length y'.c1, .slice y'.a2 o.ho.length y'.c2, .slice y'.a3 o.od.length y'.c3, .slice y'.a4 o.to.length y'.c4, .int .i64 o.td, .string ⟨#[]⟩, .int .i64 0] 38)).cell? ⟨w.heap.size, 5, none⟩ = some (.int .i64 o.td) := cell_at k0 5
  have c7 : ((w.alloc (.cells #[.slice x.a0 o.ln.length x.c0, .slice x.a1 o.ta.length x.c1, .slice x.a2 o.ho.length x.c2, .slice x.a3 o.od.length x.c3, .slice x.a4 o.to.length x.c4, .int .i64 o.td, .slice y.a0 o.ln.length y.c0, .slice y.a1 o.ta.length y.c1, .slice y.a2 o.ho.length y.c2, .slice y.a3 o.od.length y.c3, .slice y.a4 o.to.length y.c4, .int .i64 o.td, .string ⟨#[]⟩, .int .i64 0] 38)).alloc (.cells #[.slice x'.a0 o.ln.length x'.c0, .slice x'.a1 o.ta.length x'.c1, .slice x'.a2 o.ho.length x'.c2, .slice x'.a3 o.od.length x'.c3, .slice x'.a4 o.to.length x'.c4, .int .i64 o.td, .slice y'.a0 o.ln.length y'.c0, .slice y'.a1 o.ta.length y'.c1, .slice y'.a2 o.ho.length y'.c2, .slice y'.a3 o.od.length y'.c3, .slice y'.a4 o.to.length y'.c4, .int .i64 o.td, .string ⟨#[]⟩, .int .i64 0] 38)).cell? ⟨w.heap.size + 1, 0, none⟩ = some (.slice x'.a0 o.ln.length x'.c0) := cell_at k1 0
  have c8 : ((w.alloc (.cells #[.slice x.a0 o.ln.length x.c0, .slice x.a1 o.ta.length x.c1, .slice x.a2 o.ho.length x.c2, .slice x.a3 o.od.length x.c3, .slice x.a4 o.to.length x.c4, .int .i64 o.td, .slice y.a0 o.ln.length y.c0, .slice y.a1 o.ta.length y.c1, .slice y.a2 o.ho.length y.c2, .slice y.a3 o.od.length y.c3, .slice y.a4 o.to.length y.c4, .int .i64 o.td, .string ⟨#[]⟩, .int .i64 0] 38)).alloc (.cells #[.slice x'.a0 o.ln.length x'.c0, .slice x'.a1 o.ta.length x'.c1, .slice x'.a2 o.ho.length x'.c2, .slice x'.a3 o.od.length x'.c3, .slice x'.a4 o.to.length x'.c4, .int .i64 o.td, .slice y'.a0 o.ln.length y'.c0, .slice y'.a1 o.ta.length y'.c1, .slice y'.a2 o.ho.length y'.c2, .slice y'.a3 o.od.length y'.c3, .slice y'.a4 o.to.length y'.c4, .int .i64 o.td, .string ⟨#[]⟩, .int .i64 0] 38)).cell? ⟨w.heap.size + 1, 1, none⟩ = some (.slice x'.a1 o.ta.length x'.c1) := cell_at k1 1
  have c9 : ((w.alloc (.cells #[.slice x.a0 o.ln.length x.c0, .slice x.a1 o.ta.length x.c1, .slice x.a2 o.ho.length x.c2, .slice x.a3 o.od.length x.c3, .slice x.a4 o.to.length x.c4, .int .i64 o.td, .slice y.a0 o.ln.length y.c0, .slice y.a1 o.ta.length y.c1, .slice y.a2 o.ho.length y.c2, .slice y.a3 o.od.length y.c3, .slice y.a4 o.to.length y.c4, .int .i64 o.td, .string ⟨#[]⟩, .int .i64 0] 38)).alloc (.cells #[.slice x'.a0 o.ln.length x'.c0, .slice x'.a1 o.ta.length x'.c1, .slice x'.a2 o.ho.length x'.c2, .slice x'.a3 o.od.length x'.c3, .slice x'.a4 o.to.length x'.c4, .int .i64 o.td, .slice y'.a0 o.ln.length y'.c0, .slice y'.a1 o.ta.length y'.c1, .slice y'.a2 o.ho.length y'.c2, .slice y'.a3 o.od.length y'.c3, .slice y'.a4 o.to.length y'.c4, .int .i64 o.td, .string ⟨#[]⟩, .int .i64 0] 38)).cell? ⟨w.heap.size + 1, 2, none⟩ = some (.slice x'.a2 o.ho.length x'.c2) := cell_at k1 2
  have c10 : ((w.alloc (.cells #[.slice x.a0 o.ln.length x.c0, .slice x.a1 o.ta.length x.c1, .slice x.a2 o.ho.length x.c2, .slice x.a3 o.od.length x.c3, .slice x.a4 o.to.length x.c4, .int .i64 o.td, .slice y.a0 o.ln.length y.c0, .slice y.a1 o.ta.length y.c1, .slice y.a2 o.ho.length y.c2, .slice y.a3 o.od.length y.c3, .slice y.a4 o.to.length y.c4, .int .i64 o.td, .string ⟨#[]⟩, .int .i64 0] 38)).alloc (.cells #[.slice x'.a0 o.ln.length x'.c0, .slice x'.a1 o.ta.length x'.c1, .slice x'.a2 o.ho.length x'.c2, .slice x'.a3 o.od.length x'.c3, .slice x'.a4 o.to.length x'.c4, .int .i64 o.td, .slice y'.a0 o.ln.length y'.c0, .slice y'.a1 o.ta.length y'.c1, .slice y'.a2 o.ho.length y'.c2, .slice y'.a3 o.od.length y'.c3, .slice y'.a4 o.to.length y'.c4, .int .i64 o.td, .string ⟨#[]⟩, .int .i64 0] 38)).cell? ⟨w.heap.size + 1, 3, none⟩ = some (.slice x'.a3 o.od.length x'.c3) := cell_at k1 3
  have c11 : ((w.alloc (.cells #[.slice x.a0 o.ln.length x.c0, .slice x.a1 o.ta.length x.c1, .slice x.a2 o.ho.length x.c2, .slice x.a3 o.od.length x.c3, .slice x.a4 o.to.length x.c4, .int .i64 o.td, .slice y.a0 o.ln.length y.c0, .slice y.a1 o.ta.length y.c1, .slice y.a2 o.ho.length y.c2, .slice y.a3 o.od.length y.c3, .slice y.a4 o.to.length y.c4, .int .i64 o.td, .string ⟨#[]⟩, .int .i64 0] 38)).alloc (.cells #[.slice x'.a0 o.ln.length x'.c0, .slice x'.a1 o.ta.length x'.c1, .slice x'.a2 o.ho.length x'.c2, .slice x'.a3 o.od.length x'.c3, .slice x'.a4 o.to.length x'.c4, .int .i64 o.td, .slice y'.a0 o.ln.length y'.c0, .slice y'.a1 o.ta.length y'.c1, .slice y'.a2 o.ho.length y'.c2, .slice y'.a3 o.od.length y'.c3, .slice y'.a4 o.to.length y'.c4, .int .i64 o.td, .string ⟨#[]⟩, .int .i64 0] 38)).cell? ⟨w.heap.size + 1, 4, none⟩ = some (.slice x'.a4 o.to.length x'.c4) := cell_at k1 4
  have c12 : ((w.alloc (.cells #[.slice x.a0 o.ln.length x.c0, .slice x.a1 o.ta.length x.c1, .slice x.a2 o.ho.length x.c2, .slice x.a3 o.od.length x.c3, .slice x.a4 o.to.length x.c4, .int .i64 o.td, .slice y.a0 o.ln.length y.c0, .slice y.a1 o.ta.length y.c1, .slice y.a2 o.ho.length y.c2, .slice y.a3 o.od.length y.c3, .slice y.a4 o.to.length y.c4, .int .i64 o.td, .string ⟨#[]⟩, .int .i64 0] 38)).alloc (.cells #[.slice x'.a0 o.ln.length x'.c0, .slice x'.a1 o.ta.length x'.c1, .slice x'.a2 o.ho.length x'.c2, .slice x'.a3 o.od.length x'.c3, .slice x'.a4 o.to.length x'.c4, .int .i64 o.td, .slice y'.a0 o.ln.length y'.c0, .slice y'.a1 o.ta.length y'.c1, .slice y'.a2 o.ho.length y'.c2, .slice y'.a3 o.od.length y'.c3, .slice y'.a4 o.to.length y'.c4, .int .i64 o.td, .string ⟨#[]⟩, .int .i64 0] 38)).cell? ⟨w.heap.size + 1, 5, none⟩ = some (.int .i64 o.td) := cell_at k1 5
  go_wp2_with fail
  refine (HI.out _ N).mono ?_
  clear c1 c2 c3 c4 c5 c6 c7 c8 c9 c10 c11 c12
  generalize ((w.alloc (.cells #[.slice x.a0 o.ln.length x.c0, .slice x.a1 o.ta.length x.c1, .slice x.a2 o.ho.length x.c2, .slice x.a3 o.od.length x.c3, .slice x.a4 o.to.length x.c4, .int .i64 o.td, .slice y.a0 o.ln.length y.c0, .slice y.a1 o.ta.length y.c1, .slice y.a2 o.ho.length y.c2, .slice y.a3 o.od.length y.c3, .slice y.a4 o.to.length y.c4, .int .i64 o.td, .string ⟨#[]⟩, .int .i64 0] 38)).alloc (.cells #[.slice x'.a0 o.ln.length x'.c0, .slice x'.a1 o.ta.length x'.c1, .slice x'.a2 o.ho.length x'.c2, .slice x'.a3 o.od.length x'.c3, .slice x'.a4 o.to.length x'.c4, .int .i64 o.td, .slice y'.a0 o.ln.length y'.c0, .slice y'.a1 o.ta.length y'.c1, .slice y'.a2 o.ho.length y'.c2, .slice y'.a3 o.od.length y'.c3, .slice y'.a4 o.to.length y'.c4, .int .i64 o.td, .string ⟨#[]⟩, .int .i64 0] 38)) = v0 at *
  rintro e v1 ⟨rfl, Lv1⟩
  have m13 := Pk.kept Lv1 (Pk.lt_of k0) k0
  clear k0
  have m14 := Pk.kept Lv1 (Pk.lt_of k1) k1
  clear k1
  have L15 := Pk.join_below N Lv1
  clear N
  have hs16 : v0.heap.size ≤ v1.heap.size := Lv1.size
  have c17 : v1.cell? ⟨w.heap.size, 6, none⟩ = some (.slice y.a0 o.ln.length y.c0) := cell_at m13 6
  have c18 : v1.cell? ⟨w.heap.size, 7, none⟩ = some (.slice y.a1 o.ta.length y.c1) := cell_at m13 7
  have c19 : v1.cell? ⟨w.heap.size, 8, none⟩ = some (.slice y.a2 o.ho.length y.c2) := cell_at m13 8
  have c20 : v1.cell? ⟨w.heap.size, 9, none⟩ = some (.slice y.a3 o.od.length y.c3) := cell_at m13 9
  have c21 : v1.cell? ⟨w.heap.size, 10, none⟩ = some (.slice y.a4 o.to.length y.c4) := cell_at m13 10
  have c22 : v1.cell? ⟨w.heap.size, 11, none⟩ = some (.int .i64 o.td) := cell_at m13 11
  have c23 : v1.cell? ⟨w.heap.size + 1, 6, none⟩ = some (.slice y'.a0 o.ln.length y'.c0) := cell_at m14 6
  have c24 : v1.cell? ⟨w.heap.size + 1, 7, none⟩ = some (.slice y'.a1 o.ta.length y'.c1) := cell_at m14 7
  have c25 : v1.cell? ⟨w.heap.size + 1, 8, none⟩ = some (.slice y'.a2 o.ho.length y'.c2) := cell_at m14 8
  have c26 : v1.cell? ⟨w.heap.size + 1, 9, none⟩ = some (.slice y'.a3 o.od.length y'.c3) := cell_at m14 9
  have c27 : v1.cell? ⟨w.heap.size + 1, 10, none⟩ = some (.slice y'.a4 o.to.length y'.c4) := cell_at m14 10
  have c28 : v1.cell? ⟨w.heap.size + 1, 11, none⟩ = some (.int .i64 o.td) := cell_at m14 11
  go_wp2_with fail
  refine (HJ.out _ L15).mono ?_
  clear c17 c18 c19 c20 c21 c22 c23 c24 c25 c26 c27 c28
  rintro e v2 ⟨rfl, Lv2⟩
  have m29 := Pk.kept Lv2 (Pk.lt_of m13) m13
  clear m13
  have m30 := Pk.kept Lv2 (Pk.lt_of m14) m14
  clear m14
  have L31 := Pk.join_below L15 Lv2
  clear L15
  have hs32 : v1.heap.size ≤ v2.heap.size := Lv2.size
  have c33 : v2.cell? ⟨w.heap.size, 12, none⟩ = some (.string ⟨#[]⟩) := cell_at m29 12
  have c34 : v2.cell? ⟨w.heap.size, 13, none⟩ = some (.int .i64 0) := cell_at m29 13
  have c35 : v2.cell? ⟨w.heap.size + 1, 12, none⟩ = some (.string ⟨#[]⟩) := cell_at m30 12
  have c36 : v2.cell? ⟨w.heap.size + 1, 13, none⟩ = some (.int .i64 0) := cell_at m30 13
  go_wp2
  go_ret
  exact ⟨rfl, L31⟩

end Dk
end Go.Proofs.YtehmlnojjfeheaaGreat

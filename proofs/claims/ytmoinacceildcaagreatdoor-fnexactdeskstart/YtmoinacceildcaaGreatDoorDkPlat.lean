/- PlatformStart of an office that begins, of the program and of its model. -/
import Derived.Test.YtmoinacceildcaaGreatDoorDkCopy
import Derived.Test.YtmoinacceildcaaGreatDoorOfOkS
import Derived.Test.YtmoinacceildcaaGreatDoorOfOk
import Derived.Deep.Cut
namespace Go.Proofs.YtmoinacceildcaaGreatDoor
namespace Dk
open Go.ChangeShapes Go.WideShapes Go.ChangeAt Go.RowKit
open Pk (new_below join_below cell_at heap_new frozen_at lt_of kept heap_old info_of Room own_form)
open Of (Kp put6 put6_below St Et Lw opened_val closed_val copyS_val nil_row edges_cells snap snap_len snap_get snap_one snap_at own_g et_mk h_set h_other Offc Pl ofV In)
open Tn (Tr Trains)
open Tf (Ed Edges)
set_option linter.unusedSimpArgs false
set_option linter.unusedVariables false

open Of (Kh Lm offB Lim Small)

/-- The lists of an office that begins lie from lo to hi, and may be written. -/
def Sp (w : World) (lo hi : Nat) (a2 a3 : Option Addr) (ts : List Tr) (es : List Ed) : Prop := ∃ mid gf cf, lo ≤ mid ∧ mid ≤ hi ∧ hi ≤ w.heap.size ∧ Lm w lo mid a2 gf cf ts ∧ Et w mid a3 es ∧ ∀ g, a3 = some ⟨g, 0, none⟩ → es.length ≠ 0 → g < hi

theorem Sp.of {w : World} {lo : Nat} {a2 a3 : Option Addr} {ts : List Tr} {es : List Ed} (h : St w lo a2 a3 ts es) (hl : lo ≤ w.heap.size) : Sp w lo w.heap.size a2 a3 ts es := by
  obtain ⟨mid, gf, cf, h1, h2, h3, h4⟩ := h.mid hl
  refine ⟨mid, gf, cf, h1, h2, Nat.le_refl _, h3, h4, fun g hg h0 => ?_⟩
  obtain ⟨g', hg', -, q2, -⟩ := h4.resolve_left h0
  rw [hg] at hg'
  simp only [Option.some.injEq, Addr.mk.injEq, and_true] at hg'
  omega

theorem Sp.kh {w w1 : World} {lo hi : Nat} {a2 a3 : Option Addr} {ts : List Tr} {es : List Ed} (h : Sp w lo hi a2 a3 ts es) (k : Kh lo w w1) : Sp w1 lo hi a2 a3 ts es := by
  obtain ⟨mid, gf, cf, h1, h2, h3, h4, h5, h6⟩ := h
  obtain ⟨k1, k2⟩ := Of.le_kh h1 ⟨h4, h5⟩ k
  exact ⟨mid, gf, cf, h1, h2, Nat.le_trans h3 k.1, k1, k2, h6⟩

theorem Sp.on {w w1 : World} {lo hi : Nat} {a2 a3 : Option Addr} {ts : List Tr} {es : List Ed} (h : Sp w lo hi a2 a3 ts es) (L : Below w.heap.size w w1) : Sp w1 lo hi a2 a3 ts es := h.kh ((Kh.refl _ _).of L)

theorem Sp.both {w : World} {lo hi : Nat} {a2 a3 : Option Addr} {ts : List Tr} {es : List Ed} (h : Sp w lo hi a2 a3 ts es) : Trains w a2 ts ∧ Edges w a3 es := by
  obtain ⟨mid, gf, cf, h1, h2, h3, h4, h5, h6⟩ := h
  exact ⟨h4.lt.trains, h5.edges⟩

theorem Kh.setR {lo g i : Nat} {w W : World} {v : Value} (k : Kh lo w W) (h : g < lo) : Kh lo w (W.setCell ⟨g, i, none⟩ v) := ⟨by rw [World.size_setCell]; exact k.1, fun b h1 h2 => by rw [Below.heap_setCell W ⟨g, i, none⟩ v b (by show b ≠ g; omega)]; exact k.2 b h1 h2⟩
theorem Kh.drewR {lo : Nat} {w W : World} (k : Kh lo w W) : Kh lo w W.drew := k

theorem off_yes {ts : List Tr} {es : List Ed} {td : Int} (h : Of.startB ts es td = true) : offB ⟨ts, es, [], [], [], td⟩ = true := by
  unfold Of.startB at h
  simp only [Bool.and_eq_true] at h
  unfold offB
  rw [h.1, h.2.1]
  rfl

theorem Kp.drewR {lo : Nat} {w W : World} (k : Kp lo w W) : Kp lo w W.drew := k

theorem Sp.wide {w : World} {lo lo' hi : Nat} {a2 a3 : Option Addr} {ts : List Tr} {es : List Ed} (h : Sp w lo hi a2 a3 ts es) (hl : lo' ≤ lo) : Sp w lo' hi a2 a3 ts es := by
  obtain ⟨mid, gf, cf, h1, h2, h3, h4, h5, h6⟩ := h
  exact ⟨mid, gf, cf, Nat.le_trans hl h1, h2, h3, h4.wide hl, h5, h6⟩

set_option maxRecDepth 100000 in
set_option maxHeartbeats 8000000 in
theorem implPlat_val (b o d u : Nat) (ts : List Tr) (es : List Ed) (cap cap2 : Nat) (td : Int) (w : World) (hn : ts.length ≤ 1048576) (hm : es.length ≤ 1048576) (hb : b < w.heap.size) (hd : d < w.heap.size) (hs : ∀ i (h : i < ts.length), 1 ≤ ts[i].l.length ∧ ts[i].l.length ≤ 1048576) (I : Trains w (some ⟨b, o, none⟩) ts) (J : Edges w (some ⟨d, u, none⟩) es) (hL : Lim ⟨ts, es, [], [], [], td⟩) (hS : Small ⟨ts, es, [], [], [], td⟩) (hB : Of.startB ts es td = true) :
    Calls Tryz.prog 17 #[.agg #[.slice (some ⟨b, o, none⟩) ts.length cap, .slice (some ⟨d, u, none⟩) es.length cap2, .slice none 0 0, .slice none 0 0, .slice none 0 0, .int .i64 td]] w fun e w' => ∃ a2 c2 a3 c3 b2 d2 b3 d3 mid, e = .returned (.tuple #[.agg #[.slice a2 ts.length c2, .slice a3 es.length c3, .slice none 0 0, .slice none 0 0, .slice none 0 0, .int .i64 td, .slice b2 ts.length d2, .slice b3 es.length d3, .slice none 0 0, .slice none 0 0, .slice none 0 0, .int .i64 td, .string ⟨#[]⟩, .int .i64 0], .bool true]) ∧ Sp w' w.heap.size mid a2 a3 ts es ∧ (∃ hi, Sp w' mid hi b2 b3 ts es) ∧ Below w.heap.size w w' := by
  obtain ⟨k0, k1, hsz⟩ := two_blocks w (.cells #[.slice (some ⟨b, o, none⟩) ts.length cap, .slice (some ⟨d, u, none⟩) es.length cap2, .slice none 0 0, .slice none 0 0, .slice none 0 0, .int .i64 td] 28) (.cells #[.slice none 0 0, .slice none 0 0, .slice none 0 0, .slice none 0 0, .slice none 0 0, .int .i64 0, .slice none 0 0, .slice none 0 0, .slice none 0 0, .slice none 0 0, .slice none 0 0, .int .i64 0, .string ⟨#[]⟩, .int .i64 0] 30)
  have N : Below w.heap.size w ((w.alloc (.cells #[.slice (some ⟨b, o, none⟩) ts.length cap, .slice (some ⟨d, u, none⟩) es.length cap2, .slice none 0 0, .slice none 0 0, .slice none 0 0, .int .i64 td] 28)).alloc (.cells #[.slice none 0 0, .slice none 0 0, .slice none 0 0, .slice none 0 0, .slice none 0 0, .int .i64 0, .slice none 0 0, .slice none 0 0, .slice none 0 0, .slice none 0 0, .slice none 0 0, .int .i64 0, .string ⟨#[]⟩, .int .i64 0] 30)) := join_below (new_below _ _) (new_below _ _)
  have HOK : Hid (∀ wx, Below w.heap.size w wx → _) := fun wx (L : Below w.heap.size w wx) => Of.implOffice_val ⟨some ⟨b, o, none⟩, some ⟨d, u, none⟩, none, none, none, cap, cap2, 0, 0, 0⟩ ⟨ts, es, [], [], [], td⟩ wx hL hS ⟨I.on L, J.on L, Or.inl rfl, Or.inl rfl, Or.inl rfl⟩
  rw [off_yes hB] at HOK
  have HCP : Hid (∀ wx, Below w.heap.size w wx → _) := fun wx (L : Below w.heap.size w wx) => copyOff_val b o d u ts es cap cap2 td wx hn hm (Nat.lt_of_lt_of_le hb L.size) (Nat.lt_of_lt_of_le hd L.size) hs (I.on L) (J.on L)
  clear I J hm hb hd hn hs hL hS hB
  have q0 : ((w.alloc (.cells #[.slice (some ⟨b, o, none⟩) ts.length cap, .slice (some ⟨d, u, none⟩) es.length cap2, .slice none 0 0, .slice none 0 0, .slice none 0 0, .int .i64 td] 28)).alloc (.cells #[.slice none 0 0, .slice none 0 0, .slice none 0 0, .slice none 0 0, .slice none 0 0, .int .i64 0, .slice none 0 0, .slice none 0 0, .slice none 0 0, .slice none 0 0, .slice none 0 0, .int .i64 0, .string ⟨#[]⟩, .int .i64 0] 30)).cell? ⟨w.heap.size, 0, none⟩ = some (.slice (some ⟨b, o, none⟩) ts.length cap) := cell_at k0 0
  have q1 : ((w.alloc (.cells #[.slice (some ⟨b, o, none⟩) ts.length cap, .slice (some ⟨d, u, none⟩) es.length cap2, .slice none 0 0, .slice none 0 0, .slice none 0 0, .int .i64 td] 28)).alloc (.cells #[.slice none 0 0, .slice none 0 0, .slice none 0 0, .slice none 0 0, .slice none 0 0, .int .i64 0, .slice none 0 0, .slice none 0 0, .slice none 0 0, .slice none 0 0, .slice none 0 0, .int .i64 0, .string ⟨#[]⟩, .int .i64 0] 30)).cell? ⟨w.heap.size, 1, none⟩ = some (.slice (some ⟨d, u, none⟩) es.length cap2) := cell_at k0 1
  have q2 : ((w.alloc (.cells #[.slice (some ⟨b, o, none⟩) ts.length cap, .slice (some ⟨d, u, none⟩) es.length cap2, .slice none 0 0, .slice none 0 0, .slice none 0 0, .int .i64 td] 28)).alloc (.cells #[.slice none 0 0, .slice none 0 0, .slice none 0 0, .slice none 0 0, .slice none 0 0, .int .i64 0, .slice none 0 0, .slice none 0 0, .slice none 0 0, .slice none 0 0, .slice none 0 0, .int .i64 0, .string ⟨#[]⟩, .int .i64 0] 30)).cell? ⟨w.heap.size, 2, none⟩ = some (.slice none 0 0) := cell_at k0 2
  have q3 : ((w.alloc (.cells #[.slice (some ⟨b, o, none⟩) ts.length cap, .slice (some ⟨d, u, none⟩) es.length cap2, .slice none 0 0, .slice none 0 0, .slice none 0 0, .int .i64 td] 28)).alloc (.cells #[.slice none 0 0, .slice none 0 0, .slice none 0 0, .slice none 0 0, .slice none 0 0, .int .i64 0, .slice none 0 0, .slice none 0 0, .slice none 0 0, .slice none 0 0, .slice none 0 0, .int .i64 0, .string ⟨#[]⟩, .int .i64 0] 30)).cell? ⟨w.heap.size, 3, none⟩ = some (.slice none 0 0) := cell_at k0 3
  have q4 : ((w.alloc (.cells #[.slice (some ⟨b, o, none⟩) ts.length cap, .slice (some ⟨d, u, none⟩) es.length cap2, .slice none 0 0, .slice none 0 0, .slice none 0 0, .int .i64 td] 28)).alloc (.cells #[.slice none 0 0, .slice none 0 0, .slice none 0 0, .slice none 0 0, .slice none 0 0, .int .i64 0, .slice none 0 0, .slice none 0 0, .slice none 0 0, .slice none 0 0, .slice none 0 0, .int .i64 0, .string ⟨#[]⟩, .int .i64 0] 30)).cell? ⟨w.heap.size, 4, none⟩ = some (.slice none 0 0) := cell_at k0 4
  have q5 : ((w.alloc (.cells #[.slice (some ⟨b, o, none⟩) ts.length cap, .slice (some ⟨d, u, none⟩) es.length cap2, .slice none 0 0, .slice none 0 0, .slice none 0 0, .int .i64 td] 28)).alloc (.cells #[.slice none 0 0, .slice none 0 0, .slice none 0 0, .slice none 0 0, .slice none 0 0, .int .i64 0, .slice none 0 0, .slice none 0 0, .slice none 0 0, .slice none 0 0, .slice none 0 0, .int .i64 0, .string ⟨#[]⟩, .int .i64 0] 30)).cell? ⟨w.heap.size, 5, none⟩ = some (.int .i64 td) := cell_at k0 5
  go_enter Tryz.func17, Tryz.ntmps17
  go_wp2_with fail
  refine (HOK.out _ N).mono ?_
  generalize ((w.alloc (.cells #[.slice (some ⟨b, o, none⟩) ts.length cap, .slice (some ⟨d, u, none⟩) es.length cap2, .slice none 0 0, .slice none 0 0, .slice none 0 0, .int .i64 td] 28)).alloc (.cells #[.slice none 0 0, .slice none 0 0, .slice none 0 0, .slice none 0 0, .slice none 0 0, .int .i64 0, .slice none 0 0, .slice none 0 0, .slice none 0 0, .slice none 0 0, .slice none 0 0, .int .i64 0, .string ⟨#[]⟩, .int .i64 0] 30)) = v0 at *
  rintro e v1 ⟨rfl, L1⟩
  have m0 := kept L1 (lt_of k0) k0
  have m1 := kept L1 (lt_of k1) k1
  have N1 := join_below N L1
  have hv1 : w.heap.size + 1 < v1.heap.size := lt_of m1
  clear q0 q1 q2 q3 q4 q5 k0 k1 L1 N HOK hsz
  have q0 : v1.cell? ⟨w.heap.size, 0, none⟩ = some (.slice (some ⟨b, o, none⟩) ts.length cap) := cell_at m0 0
  have q1 : v1.cell? ⟨w.heap.size, 1, none⟩ = some (.slice (some ⟨d, u, none⟩) es.length cap2) := cell_at m0 1
  have q2 : v1.cell? ⟨w.heap.size, 2, none⟩ = some (.slice none 0 0) := cell_at m0 2
  have q3 : v1.cell? ⟨w.heap.size, 3, none⟩ = some (.slice none 0 0) := cell_at m0 3
  have q4 : v1.cell? ⟨w.heap.size, 4, none⟩ = some (.slice none 0 0) := cell_at m0 4
  have q5 : v1.cell? ⟨w.heap.size, 5, none⟩ = some (.int .i64 td) := cell_at m0 5
  go_wp2
  go_region_held3 (fun w' => w'.cell? ⟨w.heap.size, 0, none⟩ = some (.slice (some ⟨b, o, none⟩) ts.length cap) ∧ w'.cell? ⟨w.heap.size, 1, none⟩ = some (.slice (some ⟨d, u, none⟩) es.length cap2) ∧ w'.cell? ⟨w.heap.size, 2, none⟩ = some (.slice none 0 0) ∧ w'.cell? ⟨w.heap.size, 3, none⟩ = some (.slice none 0 0) ∧ w'.cell? ⟨w.heap.size, 4, none⟩ = some (.slice none 0 0) ∧ w'.cell? ⟨w.heap.size, 5, none⟩ = some (.int .i64 td)) (go_keep) (first
    | (go_at_call 45; have hh := M1; clear hh; (with_reducible refine (HCP.out _ ?_).mono ?_); (first | with_reducible exact N2 | with_reducible exact N2.drew); rintro e n2 ⟨b2, d2, b3, d3, rfl, S2, M0⟩; have M2 : Below n1.heap.size n1 n2 := (by first | with_reducible exact M0 | exact ((Below.refl _ _).drew).trans M0); have N3 := join_below N2 M2; have p0 := kept M2 (lt_of j0) j0; have p1 := kept M2 (lt_of j1) j1; have r0 : n2.cell? ⟨w.heap.size, 0, none⟩ = some (.slice (some ⟨b, o, none⟩) ts.length cap) := cell_at p0 0; have r1 : n2.cell? ⟨w.heap.size, 1, none⟩ = some (.slice (some ⟨d, u, none⟩) es.length cap2) := cell_at p0 1; have r2 : n2.cell? ⟨w.heap.size, 2, none⟩ = some (.slice none 0 0) := cell_at p0 2; have r3 : n2.cell? ⟨w.heap.size, 3, none⟩ = some (.slice none 0 0) := cell_at p0 3; have r4 : n2.cell? ⟨w.heap.size, 4, none⟩ = some (.slice none 0 0) := cell_at p0 4; have r5 : n2.cell? ⟨w.heap.size, 5, none⟩ = some (.int .i64 td) := cell_at p0 5; have z0 : n2.cell? ⟨w.heap.size + 1, 0, none⟩ = some (.slice none 0 0) := cell_at p1 0; have z1 : n2.cell? ⟨w.heap.size + 1, 1, none⟩ = some (.slice none 0 0) := cell_at p1 1; have z2 : n2.cell? ⟨w.heap.size + 1, 2, none⟩ = some (.slice none 0 0) := cell_at p1 2; have z3 : n2.cell? ⟨w.heap.size + 1, 3, none⟩ = some (.slice none 0 0) := cell_at p1 3; have z4 : n2.cell? ⟨w.heap.size + 1, 4, none⟩ = some (.slice none 0 0) := cell_at p1 4; have z5 : n2.cell? ⟨w.heap.size + 1, 5, none⟩ = some (.int .i64 0) := cell_at p1 5; have z6 : n2.cell? ⟨w.heap.size + 1, 6, none⟩ = some (.slice none 0 0) := cell_at p1 6; have z7 : n2.cell? ⟨w.heap.size + 1, 7, none⟩ = some (.slice none 0 0) := cell_at p1 7; have z8 : n2.cell? ⟨w.heap.size + 1, 8, none⟩ = some (.slice none 0 0) := cell_at p1 8; have z9 : n2.cell? ⟨w.heap.size + 1, 9, none⟩ = some (.slice none 0 0) := cell_at p1 9; have z10 : n2.cell? ⟨w.heap.size + 1, 10, none⟩ = some (.slice none 0 0) := cell_at p1 10; have z11 : n2.cell? ⟨w.heap.size + 1, 11, none⟩ = some (.int .i64 0) := cell_at p1 11; have z12 : n2.cell? ⟨w.heap.size + 1, 12, none⟩ = some (.string ⟨#[]⟩) := cell_at p1 12; have z13 : n2.cell? ⟨w.heap.size + 1, 13, none⟩ = some (.int .i64 0) := cell_at p1 13; have f0 : n2.frozen? ⟨w.heap.size + 1, 0, none⟩ = false := frozen_at p1 0; have f1 : n2.frozen? ⟨w.heap.size + 1, 1, none⟩ = false := frozen_at p1 1; have f2 : n2.frozen? ⟨w.heap.size + 1, 2, none⟩ = false := frozen_at p1 2; have f3 : n2.frozen? ⟨w.heap.size + 1, 3, none⟩ = false := frozen_at p1 3; have f4 : n2.frozen? ⟨w.heap.size + 1, 4, none⟩ = false := frozen_at p1 4; have f5 : n2.frozen? ⟨w.heap.size + 1, 5, none⟩ = false := frozen_at p1 5; have f6 : n2.frozen? ⟨w.heap.size + 1, 6, none⟩ = false := frozen_at p1 6; have f7 : n2.frozen? ⟨w.heap.size + 1, 7, none⟩ = false := frozen_at p1 7; have f8 : n2.frozen? ⟨w.heap.size + 1, 8, none⟩ = false := frozen_at p1 8; have f9 : n2.frozen? ⟨w.heap.size + 1, 9, none⟩ = false := frozen_at p1 9; have f10 : n2.frozen? ⟨w.heap.size + 1, 10, none⟩ = false := frozen_at p1 10; have f11 : n2.frozen? ⟨w.heap.size + 1, 11, none⟩ = false := frozen_at p1 11; have f12 : n2.frozen? ⟨w.heap.size + 1, 12, none⟩ = false := frozen_at p1 12; have f13 : n2.frozen? ⟨w.heap.size + 1, 13, none⟩ = false := frozen_at p1 13; clear M0)
    | (go_at_call 45; (with_reducible refine (HCP.out _ ?_).mono ?_); (first | with_reducible exact N1 | with_reducible exact N1.drew); rintro e n1 ⟨a2, c2, a3, c3, rfl, S1, M0⟩; have M1 : Below v1.heap.size v1 n1 := (by first | with_reducible exact M0 | exact ((Below.refl _ _).drew).trans M0); have N2 := join_below N1 M1; have j0 := kept M1 (lt_of m0) m0; have j1 := kept M1 (lt_of m1) m1; have r0 : n1.cell? ⟨w.heap.size, 0, none⟩ = some (.slice (some ⟨b, o, none⟩) ts.length cap) := cell_at j0 0; have r1 : n1.cell? ⟨w.heap.size, 1, none⟩ = some (.slice (some ⟨d, u, none⟩) es.length cap2) := cell_at j0 1; have r2 : n1.cell? ⟨w.heap.size, 2, none⟩ = some (.slice none 0 0) := cell_at j0 2; have r3 : n1.cell? ⟨w.heap.size, 3, none⟩ = some (.slice none 0 0) := cell_at j0 3; have r4 : n1.cell? ⟨w.heap.size, 4, none⟩ = some (.slice none 0 0) := cell_at j0 4; have r5 : n1.cell? ⟨w.heap.size, 5, none⟩ = some (.int .i64 td) := cell_at j0 5; clear M0))
  all_goals
    go_wp2
    refine bodyPost_ret (v := .tuple #[.agg #[.slice a2 ts.length c2, .slice a3 es.length c3, .slice none 0 0, .slice none 0 0, .slice none 0 0, .int .i64 td, .slice b2 ts.length d2, .slice b3 es.length d3, .slice none 0 0, .slice none 0 0, .slice none 0 0, .int .i64 td, .string ⟨#[]⟩, .int .i64 0], .bool true]) (by simp [results, Tryz.results17, go_sem, z0, z1, z2, z3, z4, z5, z6, z7, z8, z9, z10, z11, z12, z13]) rfl ?_
    have T1 : Sp n2 v1.heap.size n1.heap.size a2 a3 ts es := (Sp.of (lo := v1.heap.size) S1 M1.size).on M2
    have T2 : Sp n2 n1.heap.size n2.heap.size b2 b3 ts es := Sp.of (lo := n1.heap.size) S2 M2.size
    have hn1 : v1.heap.size ≤ n1.heap.size := M1.size
    refine ⟨a2, c2, a3, c3, b2, d2, b3, d3, n1.heap.size, rfl, (T1.kh ?_).wide (by omega), ⟨n2.heap.size, T2.kh ?_⟩, ?_⟩
    · (repeat' (first | with_reducible exact Kh.refl _ _ | with_reducible apply Kh.setR | with_reducible apply Kh.drewR)) <;> omega
    · (repeat' (first | with_reducible exact Kh.refl _ _ | with_reducible apply Kh.setR | with_reducible apply Kh.drewR)) <;> omega
    · (repeat' (first | with_reducible exact N3 | with_reducible apply Below.setCell | with_reducible apply Below.drew)) <;> first | (simp; done) | (simp; omega)

set_option maxRecDepth 100000 in
set_option maxHeartbeats 8000000 in
theorem specPlat_val (b o d u : Nat) (ts : List Tr) (es : List Ed) (cap cap2 : Nat) (td : Int) (w : World) (hn : ts.length ≤ 1048576) (hm : es.length ≤ 1048576) (hb : b < w.heap.size) (hd : d < w.heap.size) (hs : ∀ i (h : i < ts.length), 1 ≤ ts[i].l.length ∧ ts[i].l.length ≤ 1048576) (I : Trains w (some ⟨b, o, none⟩) ts) (J : Edges w (some ⟨d, u, none⟩) es) (hL : Lim ⟨ts, es, [], [], [], td⟩) (hS : Small ⟨ts, es, [], [], [], td⟩) (hB : Of.startB ts es td = true) :
    Calls Tryz.prog 10 #[.agg #[.slice (some ⟨b, o, none⟩) ts.length cap, .slice (some ⟨d, u, none⟩) es.length cap2, .slice none 0 0, .slice none 0 0, .slice none 0 0, .int .i64 td]] w fun e w' => ∃ x y : Pl, e = .returned (.tuple #[.agg #[.slice x.a0 ts.length x.c0, .slice x.a1 es.length x.c1, .slice x.a2 0 x.c2, .slice x.a3 0 x.c3, .slice x.a4 0 x.c4, .int .i64 td, .slice y.a0 ts.length y.c0, .slice y.a1 es.length y.c1, .slice y.a2 0 y.c2, .slice y.a3 0 y.c3, .slice y.a4 0 y.c4, .int .i64 td, .string ⟨#[]⟩, .int .i64 0], .bool true]) ∧ InK w.heap.size w' x ⟨ts, es, [], [], [], td⟩ ∧ InK w.heap.size w' y ⟨ts, es, [], [], [], td⟩ ∧ Below w.heap.size w w' := by
  obtain ⟨k0, k1, hsz⟩ := two_blocks w (.cells #[.slice (some ⟨b, o, none⟩) ts.length cap, .slice (some ⟨d, u, none⟩) es.length cap2, .slice none 0 0, .slice none 0 0, .slice none 0 0, .int .i64 td] 28) (.cells #[.slice none 0 0, .slice none 0 0, .slice none 0 0, .slice none 0 0, .slice none 0 0, .int .i64 0, .slice none 0 0, .slice none 0 0, .slice none 0 0, .slice none 0 0, .slice none 0 0, .int .i64 0, .string ⟨#[]⟩, .int .i64 0] 30)
  have N : Below w.heap.size w ((w.alloc (.cells #[.slice (some ⟨b, o, none⟩) ts.length cap, .slice (some ⟨d, u, none⟩) es.length cap2, .slice none 0 0, .slice none 0 0, .slice none 0 0, .int .i64 td] 28)).alloc (.cells #[.slice none 0 0, .slice none 0 0, .slice none 0 0, .slice none 0 0, .slice none 0 0, .int .i64 0, .slice none 0 0, .slice none 0 0, .slice none 0 0, .slice none 0 0, .slice none 0 0, .int .i64 0, .string ⟨#[]⟩, .int .i64 0] 30)) := join_below (new_below _ _) (new_below _ _)
  have HOK : Hid (∀ wx, Below w.heap.size w wx → _) := fun wx (L : Below w.heap.size w wx) => Of.specOffice_val ⟨some ⟨b, o, none⟩, some ⟨d, u, none⟩, none, none, none, cap, cap2, 0, 0, 0⟩ ⟨ts, es, [], [], [], td⟩ wx hL hS ⟨I.on L, J.on L, Or.inl rfl, Or.inl rfl, Or.inl rfl⟩
  rw [off_yes hB] at HOK
  have HCP : Hid (∀ wx, Below w.heap.size w wx → _) := fun wx (L : Below w.heap.size w wx) => copyS_off b o d u ts es cap cap2 td wx hn hm (Nat.lt_of_lt_of_le hb L.size) (Nat.lt_of_lt_of_le hd L.size) hs (I.on L) (J.on L)
  clear I J hm hb hd hn hs hL hS hB
  have q0 : ((w.alloc (.cells #[.slice (some ⟨b, o, none⟩) ts.length cap, .slice (some ⟨d, u, none⟩) es.length cap2, .slice none 0 0, .slice none 0 0, .slice none 0 0, .int .i64 td] 28)).alloc (.cells #[.slice none 0 0, .slice none 0 0, .slice none 0 0, .slice none 0 0, .slice none 0 0, .int .i64 0, .slice none 0 0, .slice none 0 0, .slice none 0 0, .slice none 0 0, .slice none 0 0, .int .i64 0, .string ⟨#[]⟩, .int .i64 0] 30)).cell? ⟨w.heap.size, 0, none⟩ = some (.slice (some ⟨b, o, none⟩) ts.length cap) := cell_at k0 0
  have q1 : ((w.alloc (.cells #[.slice (some ⟨b, o, none⟩) ts.length cap, .slice (some ⟨d, u, none⟩) es.length cap2, .slice none 0 0, .slice none 0 0, .slice none 0 0, .int .i64 td] 28)).alloc (.cells #[.slice none 0 0, .slice none 0 0, .slice none 0 0, .slice none 0 0, .slice none 0 0, .int .i64 0, .slice none 0 0, .slice none 0 0, .slice none 0 0, .slice none 0 0, .slice none 0 0, .int .i64 0, .string ⟨#[]⟩, .int .i64 0] 30)).cell? ⟨w.heap.size, 1, none⟩ = some (.slice (some ⟨d, u, none⟩) es.length cap2) := cell_at k0 1
  have q2 : ((w.alloc (.cells #[.slice (some ⟨b, o, none⟩) ts.length cap, .slice (some ⟨d, u, none⟩) es.length cap2, .slice none 0 0, .slice none 0 0, .slice none 0 0, .int .i64 td] 28)).alloc (.cells #[.slice none 0 0, .slice none 0 0, .slice none 0 0, .slice none 0 0, .slice none 0 0, .int .i64 0, .slice none 0 0, .slice none 0 0, .slice none 0 0, .slice none 0 0, .slice none 0 0, .int .i64 0, .string ⟨#[]⟩, .int .i64 0] 30)).cell? ⟨w.heap.size, 2, none⟩ = some (.slice none 0 0) := cell_at k0 2
  have q3 : ((w.alloc (.cells #[.slice (some ⟨b, o, none⟩) ts.length cap, .slice (some ⟨d, u, none⟩) es.length cap2, .slice none 0 0, .slice none 0 0, .slice none 0 0, .int .i64 td] 28)).alloc (.cells #[.slice none 0 0, .slice none 0 0, .slice none 0 0, .slice none 0 0, .slice none 0 0, .int .i64 0, .slice none 0 0, .slice none 0 0, .slice none 0 0, .slice none 0 0, .slice none 0 0, .int .i64 0, .string ⟨#[]⟩, .int .i64 0] 30)).cell? ⟨w.heap.size, 3, none⟩ = some (.slice none 0 0) := cell_at k0 3
  have q4 : ((w.alloc (.cells #[.slice (some ⟨b, o, none⟩) ts.length cap, .slice (some ⟨d, u, none⟩) es.length cap2, .slice none 0 0, .slice none 0 0, .slice none 0 0, .int .i64 td] 28)).alloc (.cells #[.slice none 0 0, .slice none 0 0, .slice none 0 0, .slice none 0 0, .slice none 0 0, .int .i64 0, .slice none 0 0, .slice none 0 0, .slice none 0 0, .slice none 0 0, .slice none 0 0, .int .i64 0, .string ⟨#[]⟩, .int .i64 0] 30)).cell? ⟨w.heap.size, 4, none⟩ = some (.slice none 0 0) := cell_at k0 4
  have q5 : ((w.alloc (.cells #[.slice (some ⟨b, o, none⟩) ts.length cap, .slice (some ⟨d, u, none⟩) es.length cap2, .slice none 0 0, .slice none 0 0, .slice none 0 0, .int .i64 td] 28)).alloc (.cells #[.slice none 0 0, .slice none 0 0, .slice none 0 0, .slice none 0 0, .slice none 0 0, .int .i64 0, .slice none 0 0, .slice none 0 0, .slice none 0 0, .slice none 0 0, .slice none 0 0, .int .i64 0, .string ⟨#[]⟩, .int .i64 0] 30)).cell? ⟨w.heap.size, 5, none⟩ = some (.int .i64 td) := cell_at k0 5
  go_enter Tryz.func10, Tryz.ntmps10
  go_wp2_with fail
  refine (HOK.out _ N).mono ?_
  generalize ((w.alloc (.cells #[.slice (some ⟨b, o, none⟩) ts.length cap, .slice (some ⟨d, u, none⟩) es.length cap2, .slice none 0 0, .slice none 0 0, .slice none 0 0, .int .i64 td] 28)).alloc (.cells #[.slice none 0 0, .slice none 0 0, .slice none 0 0, .slice none 0 0, .slice none 0 0, .int .i64 0, .slice none 0 0, .slice none 0 0, .slice none 0 0, .slice none 0 0, .slice none 0 0, .int .i64 0, .string ⟨#[]⟩, .int .i64 0] 30)) = v0 at *
  rintro e v1 ⟨rfl, L1⟩
  have m0 := kept L1 (lt_of k0) k0
  have m1 := kept L1 (lt_of k1) k1
  have N1 := join_below N L1
  have hv1 : w.heap.size + 1 < v1.heap.size := lt_of m1
  clear q0 q1 q2 q3 q4 q5 k0 k1 L1 N HOK hsz
  have q0 : v1.cell? ⟨w.heap.size, 0, none⟩ = some (.slice (some ⟨b, o, none⟩) ts.length cap) := cell_at m0 0
  have q1 : v1.cell? ⟨w.heap.size, 1, none⟩ = some (.slice (some ⟨d, u, none⟩) es.length cap2) := cell_at m0 1
  have q2 : v1.cell? ⟨w.heap.size, 2, none⟩ = some (.slice none 0 0) := cell_at m0 2
  have q3 : v1.cell? ⟨w.heap.size, 3, none⟩ = some (.slice none 0 0) := cell_at m0 3
  have q4 : v1.cell? ⟨w.heap.size, 4, none⟩ = some (.slice none 0 0) := cell_at m0 4
  have q5 : v1.cell? ⟨w.heap.size, 5, none⟩ = some (.int .i64 td) := cell_at m0 5
  go_wp2
  go_region_held3 (fun w' => w'.cell? ⟨w.heap.size, 0, none⟩ = some (.slice (some ⟨b, o, none⟩) ts.length cap) ∧ w'.cell? ⟨w.heap.size, 1, none⟩ = some (.slice (some ⟨d, u, none⟩) es.length cap2) ∧ w'.cell? ⟨w.heap.size, 2, none⟩ = some (.slice none 0 0) ∧ w'.cell? ⟨w.heap.size, 3, none⟩ = some (.slice none 0 0) ∧ w'.cell? ⟨w.heap.size, 4, none⟩ = some (.slice none 0 0) ∧ w'.cell? ⟨w.heap.size, 5, none⟩ = some (.int .i64 td)) (go_keep) (first
    | (go_at_call 35; have hh := M1; clear hh; (with_reducible refine (HCP.out _ ?_).mono ?_); (first | with_reducible exact N2 | with_reducible exact N2.drew); rintro e n2 ⟨y, rfl, S2, M0⟩; have M2 : Below n1.heap.size n1 n2 := (by first | with_reducible exact M0 | exact ((Below.refl _ _).drew).trans M0); have N3 := join_below N2 M2; have p0 := kept M2 (lt_of j0) j0; have p1 := kept M2 (lt_of j1) j1; have r0 : n2.cell? ⟨w.heap.size, 0, none⟩ = some (.slice (some ⟨b, o, none⟩) ts.length cap) := cell_at p0 0; have r1 : n2.cell? ⟨w.heap.size, 1, none⟩ = some (.slice (some ⟨d, u, none⟩) es.length cap2) := cell_at p0 1; have r2 : n2.cell? ⟨w.heap.size, 2, none⟩ = some (.slice none 0 0) := cell_at p0 2; have r3 : n2.cell? ⟨w.heap.size, 3, none⟩ = some (.slice none 0 0) := cell_at p0 3; have r4 : n2.cell? ⟨w.heap.size, 4, none⟩ = some (.slice none 0 0) := cell_at p0 4; have r5 : n2.cell? ⟨w.heap.size, 5, none⟩ = some (.int .i64 td) := cell_at p0 5; have z0 : n2.cell? ⟨w.heap.size + 1, 0, none⟩ = some (.slice none 0 0) := cell_at p1 0; have z1 : n2.cell? ⟨w.heap.size + 1, 1, none⟩ = some (.slice none 0 0) := cell_at p1 1; have z2 : n2.cell? ⟨w.heap.size + 1, 2, none⟩ = some (.slice none 0 0) := cell_at p1 2; have z3 : n2.cell? ⟨w.heap.size + 1, 3, none⟩ = some (.slice none 0 0) := cell_at p1 3; have z4 : n2.cell? ⟨w.heap.size + 1, 4, none⟩ = some (.slice none 0 0) := cell_at p1 4; have z5 : n2.cell? ⟨w.heap.size + 1, 5, none⟩ = some (.int .i64 0) := cell_at p1 5; have z6 : n2.cell? ⟨w.heap.size + 1, 6, none⟩ = some (.slice none 0 0) := cell_at p1 6; have z7 : n2.cell? ⟨w.heap.size + 1, 7, none⟩ = some (.slice none 0 0) := cell_at p1 7; have z8 : n2.cell? ⟨w.heap.size + 1, 8, none⟩ = some (.slice none 0 0) := cell_at p1 8; have z9 : n2.cell? ⟨w.heap.size + 1, 9, none⟩ = some (.slice none 0 0) := cell_at p1 9; have z10 : n2.cell? ⟨w.heap.size + 1, 10, none⟩ = some (.slice none 0 0) := cell_at p1 10; have z11 : n2.cell? ⟨w.heap.size + 1, 11, none⟩ = some (.int .i64 0) := cell_at p1 11; have z12 : n2.cell? ⟨w.heap.size + 1, 12, none⟩ = some (.string ⟨#[]⟩) := cell_at p1 12; have z13 : n2.cell? ⟨w.heap.size + 1, 13, none⟩ = some (.int .i64 0) := cell_at p1 13; have f0 : n2.frozen? ⟨w.heap.size + 1, 0, none⟩ = false := frozen_at p1 0; have f1 : n2.frozen? ⟨w.heap.size + 1, 1, none⟩ = false := frozen_at p1 1; have f2 : n2.frozen? ⟨w.heap.size + 1, 2, none⟩ = false := frozen_at p1 2; have f3 : n2.frozen? ⟨w.heap.size + 1, 3, none⟩ = false := frozen_at p1 3; have f4 : n2.frozen? ⟨w.heap.size + 1, 4, none⟩ = false := frozen_at p1 4; have f5 : n2.frozen? ⟨w.heap.size + 1, 5, none⟩ = false := frozen_at p1 5; have f6 : n2.frozen? ⟨w.heap.size + 1, 6, none⟩ = false := frozen_at p1 6; have f7 : n2.frozen? ⟨w.heap.size + 1, 7, none⟩ = false := frozen_at p1 7; have f8 : n2.frozen? ⟨w.heap.size + 1, 8, none⟩ = false := frozen_at p1 8; have f9 : n2.frozen? ⟨w.heap.size + 1, 9, none⟩ = false := frozen_at p1 9; have f10 : n2.frozen? ⟨w.heap.size + 1, 10, none⟩ = false := frozen_at p1 10; have f11 : n2.frozen? ⟨w.heap.size + 1, 11, none⟩ = false := frozen_at p1 11; have f12 : n2.frozen? ⟨w.heap.size + 1, 12, none⟩ = false := frozen_at p1 12; have f13 : n2.frozen? ⟨w.heap.size + 1, 13, none⟩ = false := frozen_at p1 13; clear M0)
    | (go_at_call 35; (with_reducible refine (HCP.out _ ?_).mono ?_); (first | with_reducible exact N1 | with_reducible exact N1.drew); rintro e n1 ⟨x, rfl, S1, M0⟩; have M1 : Below v1.heap.size v1 n1 := (by first | with_reducible exact M0 | exact ((Below.refl _ _).drew).trans M0); have N2 := join_below N1 M1; have j0 := kept M1 (lt_of m0) m0; have j1 := kept M1 (lt_of m1) m1; have r0 : n1.cell? ⟨w.heap.size, 0, none⟩ = some (.slice (some ⟨b, o, none⟩) ts.length cap) := cell_at j0 0; have r1 : n1.cell? ⟨w.heap.size, 1, none⟩ = some (.slice (some ⟨d, u, none⟩) es.length cap2) := cell_at j0 1; have r2 : n1.cell? ⟨w.heap.size, 2, none⟩ = some (.slice none 0 0) := cell_at j0 2; have r3 : n1.cell? ⟨w.heap.size, 3, none⟩ = some (.slice none 0 0) := cell_at j0 3; have r4 : n1.cell? ⟨w.heap.size, 4, none⟩ = some (.slice none 0 0) := cell_at j0 4; have r5 : n1.cell? ⟨w.heap.size, 5, none⟩ = some (.int .i64 td) := cell_at j0 5; clear M0))
  all_goals
    go_wp2
    refine bodyPost_ret (v := .tuple #[.agg #[.slice x.a0 ts.length x.c0, .slice x.a1 es.length x.c1, .slice x.a2 0 x.c2, .slice x.a3 0 x.c3, .slice x.a4 0 x.c4, .int .i64 td, .slice y.a0 ts.length y.c0, .slice y.a1 es.length y.c1, .slice y.a2 0 y.c2, .slice y.a3 0 y.c3, .slice y.a4 0 y.c4, .int .i64 td, .string ⟨#[]⟩, .int .i64 0], .bool true]) (by simp [results, Tryz.results10, go_sem, z0, z1, z2, z3, z4, z5, z6, z7, z8, z9, z10, z11, z12, z13]) rfl ?_
    have hn1 : v1.heap.size ≤ n1.heap.size := M1.size
    have T1 : InK v1.heap.size n2 x ⟨ts, es, [], [], [], td⟩ := InK.on S1 M2
    have T2 : InK n1.heap.size n2 y ⟨ts, es, [], [], [], td⟩ := S2
    refine ⟨x, y, rfl, (T1.kp ?_).wide (by omega), (T2.kp ?_).wide (by omega), ?_⟩
    · (repeat' (first | with_reducible exact Kp.refl _ _ | with_reducible apply Kp.setR | with_reducible apply Kp.drewR)) <;> omega
    · (repeat' (first | with_reducible exact Kp.refl _ _ | with_reducible apply Kp.setR | with_reducible apply Kp.drewR)) <;> omega
    · (repeat' (first | with_reducible exact N3 | with_reducible apply Below.setCell | with_reducible apply Below.drew)) <;> first | (simp; done) | (simp; omega)

end Dk
end Go.Proofs.YtmoinacceildcaaGreatDoor

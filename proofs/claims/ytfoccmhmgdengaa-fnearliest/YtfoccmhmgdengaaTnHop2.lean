/- Contracts of the program's hops and ways. -/
import Derived.Test.YtfoccmhmgdengaaTnHop
import Derived.Deep.RegionHeld3
namespace Go.Proofs.Ytfoccmhmgdengaa
namespace Tn
open Go.ChangeShapes Go.WideShapes Go.ChangeAt Go.RowKit
open Pk (new_below join_below cell_at heap_new frozen_at lt_of kept heap_old info_of own_form own_below Room)
open Rd (Ri)
set_option linter.unusedSimpArgs false
set_option linter.unusedVariables false

/-- A hop and a way as values. -/
abbrev hopV (r : Ri) (d z : Int) : Value := .agg #[.int .i64 r.tr, .int .i64 r.dy, .int .i64 r.fr, .int .i64 r.to, .int .i64 d, .int .i64 z]
abbrev wayV (s y n : Int) : Value := .agg #[.int .i64 s, .int .i64 y, .int .i64 n]

theorem ready_val (r : Ri) (d z : Int) (w : World) (h1 : 0 ≤ z) (h2 : z ≤ 200000000) :
    Calls Try.prog 64 #[hopV r d z] w fun e w' => e = .returned (.int .i64 (z + 3)) ∧ Below w.heap.size w w' := by
  go_enter Try.func64, Try.ntmps64
  go_wp2
  go_ret
  exact ⟨rfl, new_below _ _⟩

theorem takes_val (r : Ri) (d z s y n : Int) (w : World) :
    Calls Try.prog 38 #[wayV s y n, hopV r d z] w fun e w' => e = .returned (.bool ((r.fr == s) && decide (y ≤ d))) ∧ Below w.heap.size w w' := by
  by_cases h : r.fr = s
  · have e1 : (r.fr == s) = true := beq_iff_eq.2 h
    go_enter Try.func38, Try.ntmps38
    go_wp2
    go_ret
    exact ⟨by rw [e1]; simp, join_below (new_below _ _) (new_below _ _)⟩
  · have e1 : (r.fr == s) = false := beq_eq_false_iff_ne.2 h
    clear h
    go_enter Try.func38, Try.ntmps38
    go_wp2
    go_ret
    exact ⟨by rw [e1]; simp, join_below (new_below _ _) (new_below _ _)⟩

theorem two_new (W : World) (x y : Obj) : (((W.alloc x).alloc y).drew).heap[W.heap.size]? = some x ∧ (((W.alloc x).alloc y).drew).heap[W.heap.size + 1]? = some y ∧ Below W.heap.size W (((W.alloc x).alloc y).drew) := by
  have e1 : (W.alloc x).heap.size = W.heap.size + 1 := Array.size_push ..
  refine ⟨heap_old (heap_new W x) y, ?_, (join_below (new_below W x) (new_below _ y)).drew⟩
  have := heap_new (W.alloc x) y
  rw [e1] at this
  exact this

set_option maxHeartbeats 2000000 in
theorem hopOn_val (t : Hd) (day : Int) (a : Option Addr) (l : List St) (cap i j : Nat) (w : World) (hl : l.length ≤ 1048576) (hd0 : 0 ≤ day) (hd1 : day ≤ 99999) (hi : i < l.length) (hj : j < l.length) (oi : 0 ≤ l[i].dp ∧ l[i].dp ≤ 4000) (oj : 0 ≤ l[j].ar ∧ l[j].ar ≤ 4000) (I : Stops w a l) :
    Calls Try.prog 63 #[trV t a l.length cap, .int .i64 day, .int .i64 i, .int .i64 j] w fun e w' => e = .returned (hopV ⟨t.id, day, l[i].st, l[j].st⟩ (1440 * day + l[i].dp) (1440 * day + l[j].ar)) ∧ Below w.heap.size w w' := by
  have N := join_below (new_below w (trB t a l.length cap 33)) (new_below _ (.cells #[.int .i64 0, .int .i64 0, .int .i64 0, .int .i64 0, .int .i64 0, .int .i64 0] 76))
  have e1 : (w.alloc (trB t a l.length cap 33)).heap.size = w.heap.size + 1 := Array.size_push ..
  have e2 : ((w.alloc (trB t a l.length cap 33)).alloc (.cells #[.int .i64 0, .int .i64 0, .int .i64 0, .int .i64 0, .int .i64 0, .int .i64 0] 76)).heap.size = w.heap.size + 1 + 1 := by rw [← e1]; exact Array.size_push ..
  have m0 := heap_old (heap_new w (trB t a l.length cap 33)) (.cells #[.int .i64 0, .int .i64 0, .int .i64 0, .int .i64 0, .int .i64 0, .int .i64 0] 76)
  have m1 := heap_new (w.alloc (trB t a l.length cap 33)) (.cells #[.int .i64 0, .int .i64 0, .int .i64 0, .int .i64 0, .int .i64 0, .int .i64 0] 76)
  rw [e1] at m1
  obtain ⟨b, o, rfl, hb, p0, p1, p2⟩ := (I.on N).at i hi
  obtain ⟨b', o', he, -, q0, q1, q2⟩ := (I.on N).at j hj
  simp only [Option.some.injEq, Addr.mk.injEq, and_true] at he
  obtain ⟨rfl, rfl⟩ := he
  have hi1 : (i : Int) < (l.length : Int) := by omega
  have hj1 : (j : Int) < (l.length : Int) := by omega
  have hc : 1440 * day = day * 1440 := Int.mul_comm _ _
  rw [hc]
  clear hc e1
  generalize l[i] = si at *
  generalize l[j] = sj at *
  go_enter Try.func63, Try.ntmps63
  go_wp2
  generalize (w.alloc (trB t (some ⟨b, o, none⟩) l.length cap 33)).alloc (.cells #[.int .i64 0, .int .i64 0, .int .i64 0, .int .i64 0, .int .i64 0, .int .i64 0] 76) = W at *
  have c4 : W.cell? ⟨w.heap.size, 4, none⟩ = some (.slice (some ⟨b, o, none⟩) l.length cap) := cell_at m0 4
  have HM0 : Hid (_) := m0
  have HM1 : Hid (_) := m1
  have hW0 : w.heap.size < W.heap.size := by omega
  have hW1 : w.heap.size + 1 < W.heap.size := by omega
  have n0 : w.heap.size ≠ W.heap.size := by omega
  have n2 : w.heap.size ≠ W.heap.size + 1 := by omega
  have n4 : b ≠ W.heap.size := by omega
  have n5 : b ≠ W.heap.size + 1 := by omega
  have HN : Hid (_) := N
  clear m0 m1 e2 I N
  go_region_held3 (fun w' => w'.cell? ⟨w.heap.size, 4, none⟩ = some (.slice (some ⟨b, o, none⟩) l.length cap) ∧ w'.cell? ⟨b, o + i * 3, none⟩ = some (.int .i64 si.st) ∧ w'.cell? ⟨b, o + i * 3 + 1, none⟩ = some (.int .i64 si.ar) ∧ w'.cell? ⟨b, o + i * 3 + 2, none⟩ = some (.int .i64 si.dp) ∧ w'.cell? ⟨b, o + j * 3, none⟩ = some (.int .i64 sj.st) ∧ w'.cell? ⟨b, o + j * 3 + 1, none⟩ = some (.int .i64 sj.ar) ∧ w'.cell? ⟨b, o + j * 3 + 2, none⟩ = some (.int .i64 sj.dp)) (go_keep) (fail)
  · obtain ⟨y1, y2, LX⟩ := two_new W (.cells #[.int .i64 si.st, .int .i64 si.ar, .int .i64 si.dp] 42) (.cells #[.int .i64 sj.st, .int .i64 sj.ar, .int .i64 sj.dp] 42)
    have m0 := kept LX hW0 HM0.out
    have m1 := kept LX hW1 HM1.out
    have LY := HN.out.trans (LX.mono (by omega))
    have hXS : W.heap.size + 1 < (((W.alloc (.cells #[.int .i64 si.st, .int .i64 si.ar, .int .i64 si.dp] 42)).alloc (.cells #[.int .i64 sj.st, .int .i64 sj.ar, .int .i64 sj.dp] 42)).drew).heap.size := lt_of y2
    generalize ((W.alloc (.cells #[.int .i64 si.st, .int .i64 si.ar, .int .i64 si.dp] 42)).alloc (.cells #[.int .i64 sj.st, .int .i64 sj.ar, .int .i64 sj.dp] 42)).drew = X at *
    clear p0 p1 p2 q0 q1 q2 c4 HM0 HM1 LX HN hb n4 n5
    generalize W.heap.size = P at *
    have c0 : X.cell? ⟨w.heap.size, 0, none⟩ = some (.int .i64 t.id) := cell_at m0 0
    have d0 : X.cell? ⟨P, 0, none⟩ = some (.int .i64 si.st) := cell_at y1 0
    have d2 : X.cell? ⟨P, 2, none⟩ = some (.int .i64 si.dp) := cell_at y1 2
    have g0 : X.cell? ⟨P + 1, 0, none⟩ = some (.int .i64 sj.st) := cell_at y2 0
    have g1 : X.cell? ⟨P + 1, 1, none⟩ = some (.int .i64 sj.ar) := cell_at y2 1
    have r0 : X.cell? ⟨w.heap.size + 1, 0, none⟩ = some (.int .i64 0) := cell_at m1 0
    have r1 : X.cell? ⟨w.heap.size + 1, 1, none⟩ = some (.int .i64 0) := cell_at m1 1
    have r2 : X.cell? ⟨w.heap.size + 1, 2, none⟩ = some (.int .i64 0) := cell_at m1 2
    have r3 : X.cell? ⟨w.heap.size + 1, 3, none⟩ = some (.int .i64 0) := cell_at m1 3
    have r4 : X.cell? ⟨w.heap.size + 1, 4, none⟩ = some (.int .i64 0) := cell_at m1 4
    have r5 : X.cell? ⟨w.heap.size + 1, 5, none⟩ = some (.int .i64 0) := cell_at m1 5
    have f0 : X.frozen? ⟨w.heap.size + 1, 0, none⟩ = false := frozen_at m1 0
    have f1 : X.frozen? ⟨w.heap.size + 1, 1, none⟩ = false := frozen_at m1 1
    have f2 : X.frozen? ⟨w.heap.size + 1, 2, none⟩ = false := frozen_at m1 2
    have f3 : X.frozen? ⟨w.heap.size + 1, 3, none⟩ = false := frozen_at m1 3
    have f4 : X.frozen? ⟨w.heap.size + 1, 4, none⟩ = false := frozen_at m1 4
    have f5 : X.frozen? ⟨w.heap.size + 1, 5, none⟩ = false := frozen_at m1 5
    clear m0 m1 y1 y2
    go_wp2
    refine bodyPost_ret (v := hopV ⟨t.id, day, si.st, sj.st⟩ (day * 1440 + si.dp) (day * 1440 + sj.ar)) (by simp [results, Try.results63, go_sem, r0, r1, r2, r3, r4, r5]) rfl ?_
    refine ⟨rfl, ?_⟩
    (repeat' (first | apply Below.setCell | exact LY)) <;> first | (simp; done) | (simp; omega)
  · obtain ⟨y1, y2, LX⟩ := two_new W (.cells #[.int .i64 sj.st, .int .i64 sj.ar, .int .i64 sj.dp] 42) (.cells #[.int .i64 si.st, .int .i64 si.ar, .int .i64 si.dp] 42)
    have m0 := kept LX hW0 HM0.out
    have m1 := kept LX hW1 HM1.out
    have LY := HN.out.trans (LX.mono (by omega))
    have hXS : W.heap.size + 1 < (((W.alloc (.cells #[.int .i64 sj.st, .int .i64 sj.ar, .int .i64 sj.dp] 42)).alloc (.cells #[.int .i64 si.st, .int .i64 si.ar, .int .i64 si.dp] 42)).drew).heap.size := lt_of y2
    generalize ((W.alloc (.cells #[.int .i64 sj.st, .int .i64 sj.ar, .int .i64 sj.dp] 42)).alloc (.cells #[.int .i64 si.st, .int .i64 si.ar, .int .i64 si.dp] 42)).drew = X at *
    clear p0 p1 p2 q0 q1 q2 c4 HM0 HM1 LX HN hb n4 n5
    generalize W.heap.size = P at *
    have c0 : X.cell? ⟨w.heap.size, 0, none⟩ = some (.int .i64 t.id) := cell_at m0 0
    have d0 : X.cell? ⟨P + 1, 0, none⟩ = some (.int .i64 si.st) := cell_at y2 0
    have d2 : X.cell? ⟨P + 1, 2, none⟩ = some (.int .i64 si.dp) := cell_at y2 2
    have g0 : X.cell? ⟨P, 0, none⟩ = some (.int .i64 sj.st) := cell_at y1 0
    have g1 : X.cell? ⟨P, 1, none⟩ = some (.int .i64 sj.ar) := cell_at y1 1
    have r0 : X.cell? ⟨w.heap.size + 1, 0, none⟩ = some (.int .i64 0) := cell_at m1 0
    have r1 : X.cell? ⟨w.heap.size + 1, 1, none⟩ = some (.int .i64 0) := cell_at m1 1
    have r2 : X.cell? ⟨w.heap.size + 1, 2, none⟩ = some (.int .i64 0) := cell_at m1 2
    have r3 : X.cell? ⟨w.heap.size + 1, 3, none⟩ = some (.int .i64 0) := cell_at m1 3
    have r4 : X.cell? ⟨w.heap.size + 1, 4, none⟩ = some (.int .i64 0) := cell_at m1 4
    have r5 : X.cell? ⟨w.heap.size + 1, 5, none⟩ = some (.int .i64 0) := cell_at m1 5
    have f0 : X.frozen? ⟨w.heap.size + 1, 0, none⟩ = false := frozen_at m1 0
    have f1 : X.frozen? ⟨w.heap.size + 1, 1, none⟩ = false := frozen_at m1 1
    have f2 : X.frozen? ⟨w.heap.size + 1, 2, none⟩ = false := frozen_at m1 2
    have f3 : X.frozen? ⟨w.heap.size + 1, 3, none⟩ = false := frozen_at m1 3
    have f4 : X.frozen? ⟨w.heap.size + 1, 4, none⟩ = false := frozen_at m1 4
    have f5 : X.frozen? ⟨w.heap.size + 1, 5, none⟩ = false := frozen_at m1 5
    clear m0 m1 y1 y2
    go_wp2
    refine bodyPost_ret (v := hopV ⟨t.id, day, si.st, sj.st⟩ (day * 1440 + si.dp) (day * 1440 + sj.ar)) (by simp [results, Try.results63, go_sem, r0, r1, r2, r3, r4, r5]) rfl ?_
    refine ⟨rfl, ?_⟩
    (repeat' (first | apply Below.setCell | exact LY)) <;> first | (simp; done) | (simp; omega)

end Tn
end Go.Proofs.Ytfoccmhmgdengaa

/- Contracts of the program's hops of rides and ways behind them. -/
import Derived.Test.YtfoccmhmgdengaaTnHop2
namespace Go.Proofs.Ytfoccmhmgdengaa
namespace Tn
open Go.ChangeShapes Go.WideShapes Go.ChangeAt Go.RowKit
open Pk (new_below join_below cell_at heap_new frozen_at lt_of kept heap_old info_of own_form own_below Room)
open Rd (Ri)
set_option linter.unusedSimpArgs false
set_option linter.unusedVariables false

set_option maxHeartbeats 2000000 in
theorem behind_val (r : Ri) (d z s y n : Int) (w : World) (h1 : 0 ≤ z) (h2 : z ≤ 200000000) (n1 : 0 ≤ n) (n2 : n ≤ 100) :
    Calls Try.prog 39 #[wayV s y n, hopV r d z] w fun e w' => e = .returned (wayV r.to (z + 3) (n + 1)) ∧ Below w.heap.size w w' := by
  have HR : Hid (∀ w, _) := fun w => ready_val r d z w h1 h2
  obtain ⟨k0, k1, k2⟩ := three_blocks w (.cells #[.int .i64 s, .int .i64 y, .int .i64 n] 61) (.cells #[.int .i64 r.tr, .int .i64 r.dy, .int .i64 r.fr, .int .i64 r.to, .int .i64 d, .int .i64 z] 76) (.cells #[.int .i64 0, .int .i64 0, .int .i64 0] 61)
  have N := join_below (join_below (new_below w (.cells #[.int .i64 s, .int .i64 y, .int .i64 n] 61)) (new_below _ (.cells #[.int .i64 r.tr, .int .i64 r.dy, .int .i64 r.fr, .int .i64 r.to, .int .i64 d, .int .i64 z] 76))) (new_below _ (.cells #[.int .i64 0, .int .i64 0, .int .i64 0] 61))
  have hn2 : w.heap.size ≠ w.heap.size + 1 + 1 := by omega
  have hn3 : w.heap.size + 1 + 1 ≠ w.heap.size := by omega
  have hn4 : ∀ (x : World) (u v : Value) (k : Nat), x.cell? ⟨w.heap.size, 2, none⟩ = some u → (x.setCell ⟨w.heap.size + 1 + 1, k, none⟩ v).cell? ⟨w.heap.size, 2, none⟩ = some u := fun x u v k h => by rw [World.cell?_setCell_other _ _ _ _ (by intro h9; simp only [Addr.mk.injEq] at h9; omega)]; exact h
  have hw9 : IntKind.i64.wrap (n + 1) = n + 1 := by rw [IntKind.wrap_i64]; omega
  go_enter Try.func39, Try.ntmps39
  go_wp2
  generalize ((w.alloc (.cells #[.int .i64 s, .int .i64 y, .int .i64 n] 61)).alloc (.cells #[.int .i64 r.tr, .int .i64 r.dy, .int .i64 r.fr, .int .i64 r.to, .int .i64 d, .int .i64 z] 76)).alloc (.cells #[.int .i64 0, .int .i64 0, .int .i64 0] 61) = W at *
  have c2 : W.cell? ⟨w.heap.size, 2, none⟩ = some (.int .i64 n) := cell_at k0 2
  have d0 : W.cell? ⟨w.heap.size + 1, 0, none⟩ = some (.int .i64 r.tr) := cell_at k1 0
  have d1 : W.cell? ⟨w.heap.size + 1, 1, none⟩ = some (.int .i64 r.dy) := cell_at k1 1
  have d2 : W.cell? ⟨w.heap.size + 1, 2, none⟩ = some (.int .i64 r.fr) := cell_at k1 2
  have d3 : W.cell? ⟨w.heap.size + 1, 3, none⟩ = some (.int .i64 r.to) := cell_at k1 3
  have d4 : W.cell? ⟨w.heap.size + 1, 4, none⟩ = some (.int .i64 d) := cell_at k1 4
  have d5 : W.cell? ⟨w.heap.size + 1, 5, none⟩ = some (.int .i64 z) := cell_at k1 5
  go_region_held3 (fun w' => w'.cell? ⟨w.heap.size, 2, none⟩ = some (.int .i64 n) ∧ w'.cell? ⟨w.heap.size + 1, 0, none⟩ = some (.int .i64 r.tr) ∧ w'.cell? ⟨w.heap.size + 1, 1, none⟩ = some (.int .i64 r.dy) ∧ w'.cell? ⟨w.heap.size + 1, 2, none⟩ = some (.int .i64 r.fr) ∧ w'.cell? ⟨w.heap.size + 1, 3, none⟩ = some (.int .i64 r.to) ∧ w'.cell? ⟨w.heap.size + 1, 4, none⟩ = some (.int .i64 d) ∧ w'.cell? ⟨w.heap.size + 1, 5, none⟩ = some (.int .i64 z)) (go_keep) (first
    | (go_at_call 64; (with_reducible refine (HR.out _).mono ?_); rintro e x1 ⟨rfl, L0⟩; have L1 : Below W.heap.size W x1 := (by first | exact L0 | exact ((Below.refl _ _).drew).trans L0); have j0 := kept L1 (lt_of k0) k0; have j1 := kept L1 (lt_of k1) k1; have j2 := kept L1 (lt_of k2) k2; have e2 : x1.cell? ⟨w.heap.size, 2, none⟩ = some (.int .i64 n) := cell_at j0 2; have e0 : x1.cell? ⟨w.heap.size + 1, 0, none⟩ = some (.int .i64 r.tr) := cell_at j1 0; have e1 : x1.cell? ⟨w.heap.size + 1, 1, none⟩ = some (.int .i64 r.dy) := cell_at j1 1; have e22 : x1.cell? ⟨w.heap.size + 1, 2, none⟩ = some (.int .i64 r.fr) := cell_at j1 2; have e3 : x1.cell? ⟨w.heap.size + 1, 3, none⟩ = some (.int .i64 r.to) := cell_at j1 3; have e4 : x1.cell? ⟨w.heap.size + 1, 4, none⟩ = some (.int .i64 d) := cell_at j1 4; have e5 : x1.cell? ⟨w.heap.size + 1, 5, none⟩ = some (.int .i64 z) := cell_at j1 5; have t0 : x1.cell? ⟨w.heap.size + 1 + 1, 0, none⟩ = some (.int .i64 0) := cell_at j2 0; have t1 : x1.cell? ⟨w.heap.size + 1 + 1, 1, none⟩ = some (.int .i64 0) := cell_at j2 1; have t2 : x1.cell? ⟨w.heap.size + 1 + 1, 2, none⟩ = some (.int .i64 0) := cell_at j2 2; have f0 := frozen_at j2 0; have f1 := frozen_at j2 1; have f2 := frozen_at j2 2; have LY := join_below N L1; clear j0 j1 j2 L0 L1))
  all_goals
    clear k0 k1 k2
    go_wp2
    refine bodyPost_ret (v := wayV r.to (z + 3) (n + 1)) (by simp [results, Try.results39, go_sem, t0, t1, t2]) rfl ?_
    refine ⟨rfl, ?_⟩
    (repeat' (first | apply Below.setCell | exact LY)) <;> first | (simp; done) | (simp; omega)

/-- The ride of a hop that is answered. -/
def hopR (ts : List Tr) (r : Ri) : Ri := if hopB ts r = true then r else ⟨0, 0, 0, 0⟩

set_option maxHeartbeats 4000000 in
theorem hopOf_val (a : Option Addr) (ts : List Tr) (cap : Nat) (r : Ri) (w : World) (hn : ts.length ≤ 1048576) (hs : ∀ i (h : i < ts.length), ts[i].l.length ≤ 1048576) (I : Trains w a ts) :
    Calls Try.prog 37 #[.slice a ts.length cap, Rd.lgV r] w fun e w' => e = .returned (.tuple #[hopV (hopR ts r) (hopD ts r) (hopA ts r), .bool (hopB ts r)]) ∧ Below w.heap.size w w' := by
  have hq := rT_le hs r.tr
  have HF : Hid (∀ w, Trains w a ts → _) := fun w I => implFind_val a ts cap r.tr w hn hs I
  have HNO : Hid (hopB ts r = false → hopD ts r = 0 ∧ hopA ts r = 0) := hop_no
  have HYE : Hid (hopB ts r = true → _) := fun h => hop_is h
  have HRN : Hid (hopB ts r = false → hopR ts r = ⟨0, 0, 0, 0⟩) := by intro h; unfold hopR; rw [h]; rfl
  have HRY : Hid (hopB ts r = true → hopR ts r = r) := by intro h; unfold hopR; rw [h]; rfl
  have HB : Hid (hopB ts r = ((fnd ts r.tr).isSome && (cutB (rT (fnd ts r.tr)).h (rT (fnd ts r.tr)).l r.fr r.to && runsB (rT (fnd ts r.tr)).h (rT (fnd ts r.tr)).l r.dy))) := rfl
  clear hn hs
  have N1 := join_below (new_below w (.cells #[.int .i64 r.tr, .int .i64 r.dy, .int .i64 r.fr, .int .i64 r.to] 37)) (new_below _ (.cells #[.int .i64 0, .int .i64 0, .int .i64 0, .int .i64 0, .int .i64 0, .int .i64 0] 76))
  have m0 := heap_old (heap_new w (.cells #[.int .i64 r.tr, .int .i64 r.dy, .int .i64 r.fr, .int .i64 r.to] 37)) (.cells #[.int .i64 0, .int .i64 0, .int .i64 0, .int .i64 0, .int .i64 0, .int .i64 0] 76)
  have e1 : (w.alloc (.cells #[.int .i64 r.tr, .int .i64 r.dy, .int .i64 r.fr, .int .i64 r.to] 37)).heap.size = w.heap.size + 1 := Array.size_push ..
  have q0 := heap_new (w.alloc (.cells #[.int .i64 r.tr, .int .i64 r.dy, .int .i64 r.fr, .int .i64 r.to] 37)) (.cells #[.int .i64 0, .int .i64 0, .int .i64 0, .int .i64 0, .int .i64 0, .int .i64 0] 76)
  rw [e1] at q0
  have I1 := I.on N1
  clear e1
  generalize hopD ts r = D at *
  generalize hopA ts r = Z at *
  generalize hopR ts r = HRv at *
  generalize hopB ts r = HBv at *
  go_enter Try.func37, Try.ntmps37
  go_wp2_with fail
  refine (HF.out _ I1).mono ?_
  rintro e w2 ⟨F2, L2⟩
  obtain ⟨ua, uc, rfl, O2⟩ := found_any F2
  have K2 := join_below N1 L2
  have m2 := kept L2 (lt_of m0) m0
  have q2 := kept L2 (lt_of q0) q0
  have HC : Hid (∀ (a : Option Addr) (cap : Nat) (w : World), Stops w a (rT (fnd ts r.tr)).l → _) := fun a cap w I => implCut_val (rT (fnd ts r.tr)).h r.fr r.to a (rT (fnd ts r.tr)).l cap w (by unfold maxLen; omega) I
  have HR : Hid (∀ (a : Option Addr) (cap : Nat) (w : World), Stops w a (rT (fnd ts r.tr)).l → _) := fun a cap w I => implRuns_val (rT (fnd ts r.tr)).h r.dy a (rT (fnd ts r.tr)).l cap w (by unfold maxLen; omega) I
  unfold cutV at HC
  have HOK : Hid (∀ k (hk : k < (rT (fnd ts r.tr)).l.length), cutB (rT (fnd ts r.tr)).h (rT (fnd ts r.tr)).l r.fr r.to = true → (0 ≤ (rT (fnd ts r.tr)).l[k].ar ∧ (rT (fnd ts r.tr)).l[k].ar ≤ 4000) ∧ (0 ≤ (rT (fnd ts r.tr)).l[k].dp ∧ (rT (fnd ts r.tr)).l[k].dp ≤ 4000)) := by
    intro k hk hc
    have := ok_stop (cut_ok hc) k hk
    omega
  generalize (fnd ts r.tr).isSome = fb at *
  generalize rT (fnd ts r.tr) = T at *
  generalize cutA T.h T.l r.fr r.to = cA at *
  generalize cutZ T.h T.l r.fr r.to = cZ at *
  generalize cutB T.h T.l r.fr r.to = cB at *
  generalize runsB T.h T.l r.dy = rB at *
  clear F2 HF m0 q0 I1 L2 N1 I
  have N3 := new_below w2 (trB T.h ua T.l.length uc 33)
  have x3 := heap_new w2 (trB T.h ua T.l.length uc 33)
  have m3 := kept N3 (lt_of m2) m2
  have q3 := kept N3 (lt_of q2) q2
  have K3 := join_below K2 N3
  have S3 := (stops_own O2).on N3
  have c0 : (w2.alloc (trB T.h ua T.l.length uc 33)).cell? ⟨w.heap.size, 0, none⟩ = some (.int .i64 r.tr) := cell_at m3 0
  have c1 : (w2.alloc (trB T.h ua T.l.length uc 33)).cell? ⟨w.heap.size, 1, none⟩ = some (.int .i64 r.dy) := cell_at m3 1
  have c2 : (w2.alloc (trB T.h ua T.l.length uc 33)).cell? ⟨w.heap.size, 2, none⟩ = some (.int .i64 r.fr) := cell_at m3 2
  have c3 : (w2.alloc (trB T.h ua T.l.length uc 33)).cell? ⟨w.heap.size, 3, none⟩ = some (.int .i64 r.to) := cell_at m3 3
  clear N3 m2 q2 K2 O2
  cases fb
  · obtain rfl : HBv = false := HB.out
    obtain ⟨rfl, rfl⟩ := HNO.out rfl
    clear HR HC HRY
    clear HB HNO HYE HOK
    have z0 : (w2.alloc (trB T.h ua T.l.length uc 33)).cell? ⟨w.heap.size + 1, 0, none⟩ = some (.int .i64 0) := cell_at q3 0
    have z1 : (w2.alloc (trB T.h ua T.l.length uc 33)).cell? ⟨w.heap.size + 1, 1, none⟩ = some (.int .i64 0) := cell_at q3 1
    have z2 : (w2.alloc (trB T.h ua T.l.length uc 33)).cell? ⟨w.heap.size + 1, 2, none⟩ = some (.int .i64 0) := cell_at q3 2
    have z3 : (w2.alloc (trB T.h ua T.l.length uc 33)).cell? ⟨w.heap.size + 1, 3, none⟩ = some (.int .i64 0) := cell_at q3 3
    have z4 : (w2.alloc (trB T.h ua T.l.length uc 33)).cell? ⟨w.heap.size + 1, 4, none⟩ = some (.int .i64 0) := cell_at q3 4
    have z5 : (w2.alloc (trB T.h ua T.l.length uc 33)).cell? ⟨w.heap.size + 1, 5, none⟩ = some (.int .i64 0) := cell_at q3 5
    have y0 : (w2.alloc (trB T.h ua T.l.length uc 33)).frozen? ⟨w.heap.size + 1, 0, none⟩ = false := frozen_at q3 0
    have y1 : (w2.alloc (trB T.h ua T.l.length uc 33)).frozen? ⟨w.heap.size + 1, 1, none⟩ = false := frozen_at q3 1
    have y2 : (w2.alloc (trB T.h ua T.l.length uc 33)).frozen? ⟨w.heap.size + 1, 2, none⟩ = false := frozen_at q3 2
    have y3 : (w2.alloc (trB T.h ua T.l.length uc 33)).frozen? ⟨w.heap.size + 1, 3, none⟩ = false := frozen_at q3 3
    have y4 : (w2.alloc (trB T.h ua T.l.length uc 33)).frozen? ⟨w.heap.size + 1, 4, none⟩ = false := frozen_at q3 4
    have y5 : (w2.alloc (trB T.h ua T.l.length uc 33)).frozen? ⟨w.heap.size + 1, 5, none⟩ = false := frozen_at q3 5
    go_wp2
    refine bodyPost_ret (v := .tuple #[hopV ⟨0, 0, 0, 0⟩ 0 0, .bool false]) (by simp [results, Try.results37, go_sem, z0, z1, z2, z3, z4, z5]) rfl ?_
    refine ⟨by rw [HRN.out (by simp)] <;> rfl, ?_⟩
    (repeat' (first | apply Below.setCell | exact K3)) <;> first | (simp; done) | (simp; omega)
  go_wp2_with fail
  refine (HR.out _ _ _ S3).mono ?_
  rintro e w4 ⟨rfl, L4⟩
  have K4 := join_below K3 L4
  have m4 := kept L4 (lt_of m3) m3
  have q4 := kept L4 (lt_of q3) q3
  have x4 := kept L4 (lt_of x3) x3
  have S4 := S3.on L4
  clear c0 c1 c2 c3 HR K3 L4 m3 q3 x3 S3
  cases rB
  · obtain rfl : HBv = false := by rw [HB.out]; cases cB <;> rfl
    obtain ⟨rfl, rfl⟩ := HNO.out rfl
    clear HC HRY
    clear HB HNO HYE HOK
    have z0 : w4.cell? ⟨w.heap.size + 1, 0, none⟩ = some (.int .i64 0) := cell_at q4 0
    have z1 : w4.cell? ⟨w.heap.size + 1, 1, none⟩ = some (.int .i64 0) := cell_at q4 1
    have z2 : w4.cell? ⟨w.heap.size + 1, 2, none⟩ = some (.int .i64 0) := cell_at q4 2
    have z3 : w4.cell? ⟨w.heap.size + 1, 3, none⟩ = some (.int .i64 0) := cell_at q4 3
    have z4 : w4.cell? ⟨w.heap.size + 1, 4, none⟩ = some (.int .i64 0) := cell_at q4 4
    have z5 : w4.cell? ⟨w.heap.size + 1, 5, none⟩ = some (.int .i64 0) := cell_at q4 5
    have y0 : w4.frozen? ⟨w.heap.size + 1, 0, none⟩ = false := frozen_at q4 0
    have y1 : w4.frozen? ⟨w.heap.size + 1, 1, none⟩ = false := frozen_at q4 1
    have y2 : w4.frozen? ⟨w.heap.size + 1, 2, none⟩ = false := frozen_at q4 2
    have y3 : w4.frozen? ⟨w.heap.size + 1, 3, none⟩ = false := frozen_at q4 3
    have y4 : w4.frozen? ⟨w.heap.size + 1, 4, none⟩ = false := frozen_at q4 4
    have y5 : w4.frozen? ⟨w.heap.size + 1, 5, none⟩ = false := frozen_at q4 5
    go_wp2
    refine bodyPost_ret (v := .tuple #[hopV ⟨0, 0, 0, 0⟩ 0 0, .bool false]) (by simp [results, Try.results37, go_sem, z0, z1, z2, z3, z4, z5]) rfl ?_
    refine ⟨by rw [HRN.out (by simp)] <;> rfl, ?_⟩
    (repeat' (first | apply Below.setCell | exact K4)) <;> first | (simp; done) | (simp; omega)
  have c0 : w4.cell? ⟨w.heap.size, 0, none⟩ = some (.int .i64 r.tr) := cell_at m4 0
  have c1 : w4.cell? ⟨w.heap.size, 1, none⟩ = some (.int .i64 r.dy) := cell_at m4 1
  have c2 : w4.cell? ⟨w.heap.size, 2, none⟩ = some (.int .i64 r.fr) := cell_at m4 2
  have c3 : w4.cell? ⟨w.heap.size, 3, none⟩ = some (.int .i64 r.to) := cell_at m4 3
  have d0 : w4.cell? ⟨w2.heap.size, 0, none⟩ = some (.int .i64 T.h.id) := cell_at x4 0
  have d1 : w4.cell? ⟨w2.heap.size, 1, none⟩ = some (.int .i64 T.h.dy) := cell_at x4 1
  have d2 : w4.cell? ⟨w2.heap.size, 2, none⟩ = some (.int .i64 T.h.co) := cell_at x4 2
  have d3 : w4.cell? ⟨w2.heap.size, 3, none⟩ = some (.int .i64 T.h.se) := cell_at x4 3
  have d4 : w4.cell? ⟨w2.heap.size, 4, none⟩ = some (.slice ua T.l.length uc) := cell_at x4 4
  go_wp2_with fail
  refine (HC.out _ _ _ S4).mono ?_
  rintro e w5 ⟨rfl, L5⟩
  have K5 := join_below K4 L5
  have m5 := kept L5 (lt_of m4) m4
  have q5 := kept L5 (lt_of q4) q4
  have x5 := kept L5 (lt_of x4) x4
  have S5 := S4.on L5
  clear c0 c1 c2 c3 d0 d1 d2 d3 d4 HC K4 L5 m4 q4 x4 S4
  cases cB
  · obtain rfl : HBv = false := HB.out
    obtain ⟨rfl, rfl⟩ := HNO.out rfl
    clear HRY
    clear HB HNO HYE HOK
    have z0 : w5.cell? ⟨w.heap.size + 1, 0, none⟩ = some (.int .i64 0) := cell_at q5 0
    have z1 : w5.cell? ⟨w.heap.size + 1, 1, none⟩ = some (.int .i64 0) := cell_at q5 1
    have z2 : w5.cell? ⟨w.heap.size + 1, 2, none⟩ = some (.int .i64 0) := cell_at q5 2
    have z3 : w5.cell? ⟨w.heap.size + 1, 3, none⟩ = some (.int .i64 0) := cell_at q5 3
    have z4 : w5.cell? ⟨w.heap.size + 1, 4, none⟩ = some (.int .i64 0) := cell_at q5 4
    have z5 : w5.cell? ⟨w.heap.size + 1, 5, none⟩ = some (.int .i64 0) := cell_at q5 5
    have y0 : w5.frozen? ⟨w.heap.size + 1, 0, none⟩ = false := frozen_at q5 0
    have y1 : w5.frozen? ⟨w.heap.size + 1, 1, none⟩ = false := frozen_at q5 1
    have y2 : w5.frozen? ⟨w.heap.size + 1, 2, none⟩ = false := frozen_at q5 2
    have y3 : w5.frozen? ⟨w.heap.size + 1, 3, none⟩ = false := frozen_at q5 3
    have y4 : w5.frozen? ⟨w.heap.size + 1, 4, none⟩ = false := frozen_at q5 4
    have y5 : w5.frozen? ⟨w.heap.size + 1, 5, none⟩ = false := frozen_at q5 5
    go_wp2
    refine bodyPost_ret (v := .tuple #[hopV ⟨0, 0, 0, 0⟩ 0 0, .bool false]) (by simp [results, Try.results37, go_sem, z0, z1, z2, z3, z4, z5]) rfl ?_
    refine ⟨by rw [HRN.out (by simp)] <;> rfl, ?_⟩
    (repeat' (first | apply Below.setCell | exact K5)) <;> first | (simp; done) | (simp; omega)
  obtain rfl : HBv = true := HB.out
  obtain ⟨i, j, hi, hj, hij, -, rfl, rfl, e1, e2, e3, rfl, rfl, hd0, hd1⟩ := HYE.out rfl
  have oi := HOK.out i hi (by simp)
  have oj := HOK.out j hj (by simp)
  have HOn := hopOn_val T.h r.dy ua T.l uc i j w5 hq hd0 hd1 hi hj oi.2 oj.1 S5
  have HRR : Hid (HRv = ⟨T.h.id, r.dy, T.l[i].st, T.l[j].st⟩) := by show _ = _; rw [HRY.out (by simp), e1, e2, e3]
  have HLE : Hid (w.heap.size + 1 < w5.heap.size) := lt_of q5
  clear HB HNO HYE HOK S5 e1 e2 e3 HRY HRN oi oj
  have c0 : w5.cell? ⟨w.heap.size, 0, none⟩ = some (.int .i64 r.tr) := cell_at m5 0
  have c1 : w5.cell? ⟨w.heap.size, 1, none⟩ = some (.int .i64 r.dy) := cell_at m5 1
  have c2 : w5.cell? ⟨w.heap.size, 2, none⟩ = some (.int .i64 r.fr) := cell_at m5 2
  have c3 : w5.cell? ⟨w.heap.size, 3, none⟩ = some (.int .i64 r.to) := cell_at m5 3
  have d0 : w5.cell? ⟨w2.heap.size, 0, none⟩ = some (.int .i64 T.h.id) := cell_at x5 0
  have d1 : w5.cell? ⟨w2.heap.size, 1, none⟩ = some (.int .i64 T.h.dy) := cell_at x5 1
  have d2 : w5.cell? ⟨w2.heap.size, 2, none⟩ = some (.int .i64 T.h.co) := cell_at x5 2
  have d3 : w5.cell? ⟨w2.heap.size, 3, none⟩ = some (.int .i64 T.h.se) := cell_at x5 3
  have d4 : w5.cell? ⟨w2.heap.size, 4, none⟩ = some (.slice ua T.l.length uc) := cell_at x5 4
  obtain ⟨si, hsi⟩ : ∃ s, T.l[i] = s := ⟨_, rfl⟩
  obtain ⟨sj, hsj⟩ : ∃ s, T.l[j] = s := ⟨_, rfl⟩
  rw [hsi, hsj] at HOn HRR
  have HSI : Hid (_) := hsi
  have HSJ : Hid (_) := hsj
  clear hsi hsj
  go_wp2_with fail
  refine HOn.mono ?_
  rintro e w6 ⟨rfl, L6⟩
  have K6 := join_below K5 L6
  have q6 := kept L6 (lt_of q5) q5
  clear HOn c0 c1 c2 c3 d0 d1 d2 d3 d4 m5 q5 x5 L6 K5
  have z0 : w6.cell? ⟨w.heap.size + 1, 0, none⟩ = some (.int .i64 0) := cell_at q6 0
  have z1 : w6.cell? ⟨w.heap.size + 1, 1, none⟩ = some (.int .i64 0) := cell_at q6 1
  have z2 : w6.cell? ⟨w.heap.size + 1, 2, none⟩ = some (.int .i64 0) := cell_at q6 2
  have z3 : w6.cell? ⟨w.heap.size + 1, 3, none⟩ = some (.int .i64 0) := cell_at q6 3
  have z4 : w6.cell? ⟨w.heap.size + 1, 4, none⟩ = some (.int .i64 0) := cell_at q6 4
  have z5 : w6.cell? ⟨w.heap.size + 1, 5, none⟩ = some (.int .i64 0) := cell_at q6 5
  have y0 : w6.frozen? ⟨w.heap.size + 1, 0, none⟩ = false := frozen_at q6 0
  have y1 : w6.frozen? ⟨w.heap.size + 1, 1, none⟩ = false := frozen_at q6 1
  have y2 : w6.frozen? ⟨w.heap.size + 1, 2, none⟩ = false := frozen_at q6 2
  have y3 : w6.frozen? ⟨w.heap.size + 1, 3, none⟩ = false := frozen_at q6 3
  have y4 : w6.frozen? ⟨w.heap.size + 1, 4, none⟩ = false := frozen_at q6 4
  have y5 : w6.frozen? ⟨w.heap.size + 1, 5, none⟩ = false := frozen_at q6 5
  go_wp2
  refine bodyPost_ret (v := .tuple #[hopV ⟨T.h.id, r.dy, si.st, sj.st⟩ (1440 * r.dy + si.dp) (1440 * r.dy + sj.ar), .bool true]) (by simp [results, Try.results37, go_sem, z0, z1, z2, z3, z4, z5]) rfl ?_
  refine ⟨by rw [HRR.out, HSI.out, HSJ.out] <;> rfl, ?_⟩
  (repeat' (first | apply Below.setCell | exact K6)) <;> first | (simp; done) | (simp; omega)

end Tn
end Go.Proofs.Ytfoccmhmgdengaa

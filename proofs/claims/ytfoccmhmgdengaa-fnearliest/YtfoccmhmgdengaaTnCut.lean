/- Contracts of Cut, of the program and of its model. -/
import Derived.Test.YtfoccmhmgdengaaTnSpec
namespace Go.Proofs.Ytfoccmhmgdengaa
namespace Tn
open Go.ChangeShapes Go.WideShapes Go.ChangeAt Go.RowKit
open Pk (new_below join_below cell_at heap_new frozen_at lt_of kept heap_old ret_int)
set_option linter.unusedSimpArgs false
set_option linter.unusedVariables false

/-- Whether there is a cut, and its two numbers. -/
def cutB (t : Hd) (l : List St) (x y : Int) : Bool := okB t l && (decide (idx l x 0 ≠ -1) && decide (idx l x 0 < idx l y 0))
def cutA (t : Hd) (l : List St) (x y : Int) : Int := if cutB t l x y = true then idx l x 0 else 0
def cutZ (t : Hd) (l : List St) (x y : Int) : Int := if cutB t l x y = true then idx l y 0 else 0

theorem cut_no {t : Hd} {l : List St} {x y : Int} (h : cutB t l x y = false) : cutA t l x y = 0 ∧ cutZ t l x y = 0 := by
  unfold cutA cutZ
  rw [h]
  exact ⟨rfl, rfl⟩

theorem cut_yes {t : Hd} {l : List St} {x y : Int} (h : cutB t l x y = true) : cutA t l x y = idx l x 0 ∧ cutZ t l x y = idx l y 0 := by
  unfold cutA cutZ
  rw [h]
  exact ⟨rfl, rfl⟩

abbrev cutV (t : Hd) (l : List St) (x y : Int) : Value := .tuple #[.int .i64 (cutA t l x y), .int .i64 (cutZ t l x y), .bool (cutB t l x y)]

set_option maxHeartbeats 4000000 in
theorem implCut_val (t : Hd) (x y : Int) (a : Option Addr) (l : List St) (cap : Nat) (w : World) (hl : l.length ≤ maxLen) (I : Stops w a l) :
    Calls Try.prog 11 #[trV t a l.length cap, .int .i64 x, .int .i64 y] w fun e w' => e = .returned (cutV t l x y) ∧ Below w.heap.size w w' := by
  have N := new_below w (trB t a l.length cap 33)
  have m0 := heap_new w (trB t a l.length cap 33)
  have HK : Hid (∀ w, _ → _) := fun w h => implOk_val t a l cap w hl h
  have HX : Hid (∀ w, _ → _) := fun w h => stopAt_val t x a l cap w hl h
  have HY : Hid (∀ w, _ → _) := fun w h => stopAt_val t y a l cap w hl h
  have hx := idx_bds l x
  have hy := idx_bds l y
  have I0 := I.on N
  have HB : Hid (cutB t l x y = (okB t l && (decide (idx l x 0 ≠ -1) && decide (idx l x 0 < idx l y 0)))) := rfl
  have HN : Hid (cutB t l x y = false → cutA t l x y = 0 ∧ cutZ t l x y = 0) := cut_no
  have HYS : Hid (cutB t l x y = true → cutA t l x y = idx l x 0 ∧ cutZ t l x y = idx l y 0) := cut_yes
  unfold cutV
  generalize cutA t l x y = A at *
  generalize cutZ t l x y = Z at *
  generalize cutB t l x y = B at *
  generalize idx l x 0 = ix at *
  generalize idx l y 0 = iy at *
  generalize okB t l = b1 at *
  cases b1
  · obtain rfl : B = false := HB.out
    obtain ⟨rfl, rfl⟩ := HN.out rfl
    go_enter Try.func11, Try.ntmps11
    go_wp2_with fail
    refine (HK.out _ I0).mono ?_
    rintro e w1 ⟨rfl, L1⟩
    go_wp2
    refine bodyPost_ret (results_tmp3 rfl _ _ _) rfl ?_
    exact ⟨rfl, join_below N L1⟩
  by_cases h1 : ix = -1
  · obtain rfl : B = false := by rw [HB.out, decide_eq_false (by simpa using h1)]; rfl
    obtain ⟨rfl, rfl⟩ := HN.out rfl
    subst h1
    clear HB HN HYS
    go_enter Try.func11, Try.ntmps11
    go_wp2_with fail
    refine (HK.out _ I0).mono ?_
    rintro e w1 ⟨rfl, L1⟩
    have m1 := kept L1 (lt_of m0) m0
    have L2 := join_below N L1
    have I1 := I.on L2
    have c0 : w1.cell? ⟨w.heap.size, 0, none⟩ = some (.int .i64 t.id) := cell_at m1 0
    have c1 : w1.cell? ⟨w.heap.size, 1, none⟩ = some (.int .i64 t.dy) := cell_at m1 1
    have c2 : w1.cell? ⟨w.heap.size, 2, none⟩ = some (.int .i64 t.co) := cell_at m1 2
    have c3 : w1.cell? ⟨w.heap.size, 3, none⟩ = some (.int .i64 t.se) := cell_at m1 3
    have c4 : w1.cell? ⟨w.heap.size, 4, none⟩ = some (.slice a l.length cap) := cell_at m1 4
    clear N L1 m0 I0 HK
    go_wp2
    go_region_with (first
      | (go_at_call 36; (with_reducible refine (HX.out _ ?_).mono ?_); (first | exact I1 | exact I1.on ((Below.refl _ _).drew) | exact I1.on KY | exact I1.on KY.drew); rintro e xX ⟨rfl, LX⟩; have KX : Below w1.heap.size w1 xX := (by first | exact LX | exact ((Below.refl _ _).drew).trans LX | exact join_below KY LX | exact join_below KY.drew LX); have mX := kept KX (lt_of m1) m1; have cX0 : xX.cell? ⟨w.heap.size, 0, none⟩ = some (.int .i64 t.id) := cell_at mX 0; have cX1 : xX.cell? ⟨w.heap.size, 1, none⟩ = some (.int .i64 t.dy) := cell_at mX 1; have cX2 : xX.cell? ⟨w.heap.size, 2, none⟩ = some (.int .i64 t.co) := cell_at mX 2; have cX3 : xX.cell? ⟨w.heap.size, 3, none⟩ = some (.int .i64 t.se) := cell_at mX 3; have cX4 : xX.cell? ⟨w.heap.size, 4, none⟩ = some (.slice a l.length cap) := cell_at mX 4)
      | (go_at_call 36; (with_reducible refine (HY.out _ ?_).mono ?_); (first | exact I1 | exact I1.on ((Below.refl _ _).drew) | exact I1.on KX | exact I1.on KX.drew); rintro e xY ⟨rfl, LY⟩; have KY : Below w1.heap.size w1 xY := (by first | exact LY | exact ((Below.refl _ _).drew).trans LY | exact join_below KX LY | exact join_below KX.drew LY); have mY := kept KY (lt_of m1) m1; have cY0 : xY.cell? ⟨w.heap.size, 0, none⟩ = some (.int .i64 t.id) := cell_at mY 0; have cY1 : xY.cell? ⟨w.heap.size, 1, none⟩ = some (.int .i64 t.dy) := cell_at mY 1; have cY2 : xY.cell? ⟨w.heap.size, 2, none⟩ = some (.int .i64 t.co) := cell_at mY 2; have cY3 : xY.cell? ⟨w.heap.size, 3, none⟩ = some (.int .i64 t.se) := cell_at mY 3; have cY4 : xY.cell? ⟨w.heap.size, 4, none⟩ = some (.slice a l.length cap) := cell_at mY 4))
    all_goals
      go_wp2
      refine bodyPost_ret (results_tmp3 rfl _ _ _) rfl ?_
      exact ⟨rfl, (by first | exact join_below L2 KX | exact join_below L2 KY)⟩
  · by_cases h2 : ix < iy
    · obtain rfl : B = true := by rw [HB.out, decide_eq_true h1, decide_eq_true h2]; rfl
      obtain ⟨rfl, rfl⟩ := HYS.out rfl
      have e1 : (A == -1) = false := beq_eq_false_iff_ne.2 h1
      have e2 : decide (Z ≤ A) = false := decide_eq_false (by omega)
      have e3 : decide (A < 0) = false := decide_eq_false (by omega)
      clear HB HN HYS h1 h2
      go_enter Try.func11, Try.ntmps11
      go_wp2_with fail
      refine (HK.out _ I0).mono ?_
      rintro e w1 ⟨rfl, L1⟩
      have m1 := kept L1 (lt_of m0) m0
      have L2 := join_below N L1
      have I1 := I.on L2
      have c0 : w1.cell? ⟨w.heap.size, 0, none⟩ = some (.int .i64 t.id) := cell_at m1 0
      have c1 : w1.cell? ⟨w.heap.size, 1, none⟩ = some (.int .i64 t.dy) := cell_at m1 1
      have c2 : w1.cell? ⟨w.heap.size, 2, none⟩ = some (.int .i64 t.co) := cell_at m1 2
      have c3 : w1.cell? ⟨w.heap.size, 3, none⟩ = some (.int .i64 t.se) := cell_at m1 3
      have c4 : w1.cell? ⟨w.heap.size, 4, none⟩ = some (.slice a l.length cap) := cell_at m1 4
      clear N L1 m0 I0 HK
      go_wp2
      go_region_with (first
        | (go_at_call 36; (with_reducible refine (HX.out _ ?_).mono ?_); (first | exact I1 | exact I1.on ((Below.refl _ _).drew) | exact I1.on KY | exact I1.on KY.drew); rintro e xX ⟨rfl, LX⟩; have KX : Below w1.heap.size w1 xX := (by first | exact LX | exact ((Below.refl _ _).drew).trans LX | exact join_below KY LX | exact join_below KY.drew LX); have mX := kept KX (lt_of m1) m1; have cX0 : xX.cell? ⟨w.heap.size, 0, none⟩ = some (.int .i64 t.id) := cell_at mX 0; have cX1 : xX.cell? ⟨w.heap.size, 1, none⟩ = some (.int .i64 t.dy) := cell_at mX 1; have cX2 : xX.cell? ⟨w.heap.size, 2, none⟩ = some (.int .i64 t.co) := cell_at mX 2; have cX3 : xX.cell? ⟨w.heap.size, 3, none⟩ = some (.int .i64 t.se) := cell_at mX 3; have cX4 : xX.cell? ⟨w.heap.size, 4, none⟩ = some (.slice a l.length cap) := cell_at mX 4)
        | (go_at_call 36; (with_reducible refine (HY.out _ ?_).mono ?_); (first | exact I1 | exact I1.on ((Below.refl _ _).drew) | exact I1.on KX | exact I1.on KX.drew); rintro e xY ⟨rfl, LY⟩; have KY : Below w1.heap.size w1 xY := (by first | exact LY | exact ((Below.refl _ _).drew).trans LY | exact join_below KX LY | exact join_below KX.drew LY); have mY := kept KY (lt_of m1) m1; have cY0 : xY.cell? ⟨w.heap.size, 0, none⟩ = some (.int .i64 t.id) := cell_at mY 0; have cY1 : xY.cell? ⟨w.heap.size, 1, none⟩ = some (.int .i64 t.dy) := cell_at mY 1; have cY2 : xY.cell? ⟨w.heap.size, 2, none⟩ = some (.int .i64 t.co) := cell_at mY 2; have cY3 : xY.cell? ⟨w.heap.size, 3, none⟩ = some (.int .i64 t.se) := cell_at mY 3; have cY4 : xY.cell? ⟨w.heap.size, 4, none⟩ = some (.slice a l.length cap) := cell_at mY 4))
      all_goals
        go_wp2
        refine bodyPost_ret (results_tmp3 rfl _ _ _) rfl ?_
        exact ⟨rfl, (by first | exact join_below L2 KX | exact join_below L2 KY)⟩
    · obtain rfl : B = false := by rw [HB.out, decide_eq_true h1, decide_eq_false h2]; rfl
      obtain ⟨rfl, rfl⟩ := HN.out rfl
      have e1 : (ix == -1) = false := beq_eq_false_iff_ne.2 h1
      have e2 : decide (iy ≤ ix) = true := decide_eq_true (by omega)
      have e3 : decide (ix < 0) = false := decide_eq_false (by omega)
      clear HB HN HYS h1 h2
      go_enter Try.func11, Try.ntmps11
      go_wp2_with fail
      refine (HK.out _ I0).mono ?_
      rintro e w1 ⟨rfl, L1⟩
      have m1 := kept L1 (lt_of m0) m0
      have L2 := join_below N L1
      have I1 := I.on L2
      have c0 : w1.cell? ⟨w.heap.size, 0, none⟩ = some (.int .i64 t.id) := cell_at m1 0
      have c1 : w1.cell? ⟨w.heap.size, 1, none⟩ = some (.int .i64 t.dy) := cell_at m1 1
      have c2 : w1.cell? ⟨w.heap.size, 2, none⟩ = some (.int .i64 t.co) := cell_at m1 2
      have c3 : w1.cell? ⟨w.heap.size, 3, none⟩ = some (.int .i64 t.se) := cell_at m1 3
      have c4 : w1.cell? ⟨w.heap.size, 4, none⟩ = some (.slice a l.length cap) := cell_at m1 4
      clear N L1 m0 I0 HK
      go_wp2
      go_region_with (first
        | (go_at_call 36; (with_reducible refine (HX.out _ ?_).mono ?_); (first | exact I1 | exact I1.on ((Below.refl _ _).drew) | exact I1.on KY | exact I1.on KY.drew); rintro e xX ⟨rfl, LX⟩; have KX : Below w1.heap.size w1 xX := (by first | exact LX | exact ((Below.refl _ _).drew).trans LX | exact join_below KY LX | exact join_below KY.drew LX); have mX := kept KX (lt_of m1) m1; have cX0 : xX.cell? ⟨w.heap.size, 0, none⟩ = some (.int .i64 t.id) := cell_at mX 0; have cX1 : xX.cell? ⟨w.heap.size, 1, none⟩ = some (.int .i64 t.dy) := cell_at mX 1; have cX2 : xX.cell? ⟨w.heap.size, 2, none⟩ = some (.int .i64 t.co) := cell_at mX 2; have cX3 : xX.cell? ⟨w.heap.size, 3, none⟩ = some (.int .i64 t.se) := cell_at mX 3; have cX4 : xX.cell? ⟨w.heap.size, 4, none⟩ = some (.slice a l.length cap) := cell_at mX 4)
        | (go_at_call 36; (with_reducible refine (HY.out _ ?_).mono ?_); (first | exact I1 | exact I1.on ((Below.refl _ _).drew) | exact I1.on KX | exact I1.on KX.drew); rintro e xY ⟨rfl, LY⟩; have KY : Below w1.heap.size w1 xY := (by first | exact LY | exact ((Below.refl _ _).drew).trans LY | exact join_below KX LY | exact join_below KX.drew LY); have mY := kept KY (lt_of m1) m1; have cY0 : xY.cell? ⟨w.heap.size, 0, none⟩ = some (.int .i64 t.id) := cell_at mY 0; have cY1 : xY.cell? ⟨w.heap.size, 1, none⟩ = some (.int .i64 t.dy) := cell_at mY 1; have cY2 : xY.cell? ⟨w.heap.size, 2, none⟩ = some (.int .i64 t.co) := cell_at mY 2; have cY3 : xY.cell? ⟨w.heap.size, 3, none⟩ = some (.int .i64 t.se) := cell_at mY 3; have cY4 : xY.cell? ⟨w.heap.size, 4, none⟩ = some (.slice a l.length cap) := cell_at mY 4))
      all_goals
        go_wp2
        refine bodyPost_ret (results_tmp3 rfl _ _ _) rfl ?_
        exact ⟨rfl, (by first | exact join_below L2 KX | exact join_below L2 KY)⟩

set_option maxHeartbeats 4000000 in
theorem specCut_val (t : Hd) (x y : Int) (a : Option Addr) (l : List St) (cap : Nat) (w : World) (hl : l.length ≤ maxLen) (I : Stops w a l) :
    Calls Try.prog 14 #[trV t a l.length cap, .int .i64 x, .int .i64 y] w fun e w' => e = .returned (cutV t l x y) ∧ Below w.heap.size w w' := by
  have N := new_below w (trB t a l.length cap 33)
  have m0 := heap_new w (trB t a l.length cap 33)
  have HK : Hid (∀ w, _ → _) := fun w h => specOk_val t a l cap w hl h
  have HX : Hid (∀ w, _ → _) := fun w h => specAt_val t x a l cap w hl h
  have HY : Hid (∀ w, _ → _) := fun w h => specAt_val t y a l cap w hl h
  have hx := idx_bds l x
  have hy := idx_bds l y
  have I0 := I.on N
  have HB : Hid (cutB t l x y = (okB t l && (decide (idx l x 0 ≠ -1) && decide (idx l x 0 < idx l y 0)))) := rfl
  have HN : Hid (cutB t l x y = false → cutA t l x y = 0 ∧ cutZ t l x y = 0) := cut_no
  have HYS : Hid (cutB t l x y = true → cutA t l x y = idx l x 0 ∧ cutZ t l x y = idx l y 0) := cut_yes
  unfold cutV
  generalize cutA t l x y = A at *
  generalize cutZ t l x y = Z at *
  generalize cutB t l x y = B at *
  generalize idx l x 0 = ix at *
  generalize idx l y 0 = iy at *
  generalize okB t l = b1 at *
  cases b1
  · obtain rfl : B = false := HB.out
    obtain ⟨rfl, rfl⟩ := HN.out rfl
    clear HB HN HYS
    go_enter Try.func14, Try.ntmps14
    go_wp2
    generalize w.alloc (trB t a l.length cap 33) = W0 at *
    have c0 : W0.cell? ⟨w.heap.size, 0, none⟩ = some (.int .i64 t.id) := cell_at m0 0
    have c1 : W0.cell? ⟨w.heap.size, 1, none⟩ = some (.int .i64 t.dy) := cell_at m0 1
    have c2 : W0.cell? ⟨w.heap.size, 2, none⟩ = some (.int .i64 t.co) := cell_at m0 2
    have c3 : W0.cell? ⟨w.heap.size, 3, none⟩ = some (.int .i64 t.se) := cell_at m0 3
    have c4 : W0.cell? ⟨w.heap.size, 4, none⟩ = some (.slice a l.length cap) := cell_at m0 4
    go_region_with (first
      | (go_at_call 41; (with_reducible refine (HX.out _ ?_).mono ?_); (first | exact I0 | exact I0.on ((Below.refl _ _).drew) | exact I0.on KY | exact I0.on KY.drew); rintro e xX ⟨rfl, LX⟩; have KX : Below W0.heap.size W0 xX := (by first | exact LX | exact ((Below.refl _ _).drew).trans LX | exact join_below KY LX | exact join_below KY.drew LX); have mX := kept KX (lt_of m0) m0; have cX0 : xX.cell? ⟨w.heap.size, 0, none⟩ = some (.int .i64 t.id) := cell_at mX 0; have cX1 : xX.cell? ⟨w.heap.size, 1, none⟩ = some (.int .i64 t.dy) := cell_at mX 1; have cX2 : xX.cell? ⟨w.heap.size, 2, none⟩ = some (.int .i64 t.co) := cell_at mX 2; have cX3 : xX.cell? ⟨w.heap.size, 3, none⟩ = some (.int .i64 t.se) := cell_at mX 3; have cX4 : xX.cell? ⟨w.heap.size, 4, none⟩ = some (.slice a l.length cap) := cell_at mX 4)
      | (go_at_call 41; (with_reducible refine (HY.out _ ?_).mono ?_); (first | exact I0 | exact I0.on ((Below.refl _ _).drew) | exact I0.on KX | exact I0.on KX.drew); rintro e xY ⟨rfl, LY⟩; have KY : Below W0.heap.size W0 xY := (by first | exact LY | exact ((Below.refl _ _).drew).trans LY | exact join_below KX LY | exact join_below KX.drew LY); have mY := kept KY (lt_of m0) m0; have cY0 : xY.cell? ⟨w.heap.size, 0, none⟩ = some (.int .i64 t.id) := cell_at mY 0; have cY1 : xY.cell? ⟨w.heap.size, 1, none⟩ = some (.int .i64 t.dy) := cell_at mY 1; have cY2 : xY.cell? ⟨w.heap.size, 2, none⟩ = some (.int .i64 t.co) := cell_at mY 2; have cY3 : xY.cell? ⟨w.heap.size, 3, none⟩ = some (.int .i64 t.se) := cell_at mY 3; have cY4 : xY.cell? ⟨w.heap.size, 4, none⟩ = some (.slice a l.length cap) := cell_at mY 4))
    all_goals
      go_wp2_with fail
      refine (HK.out _ ?_).mono ?_
      (first | exact I0.on KX | exact I0.on KY)
      rintro e w1 ⟨rfl, L1⟩
      go_wp2
      refine bodyPost_ret (results_tmp3 rfl _ _ _) rfl ?_
      exact ⟨rfl, join_below N (by first | exact join_below KX L1 | exact join_below KY L1)⟩
  by_cases h1 : ix = -1
  · obtain rfl : B = false := by rw [HB.out, decide_eq_false (by simpa using h1)]; rfl
    obtain ⟨rfl, rfl⟩ := HN.out rfl
    subst h1
    clear HB HN HYS
    go_enter Try.func14, Try.ntmps14
    go_wp2
    generalize w.alloc (trB t a l.length cap 33) = W0 at *
    have c0 : W0.cell? ⟨w.heap.size, 0, none⟩ = some (.int .i64 t.id) := cell_at m0 0
    have c1 : W0.cell? ⟨w.heap.size, 1, none⟩ = some (.int .i64 t.dy) := cell_at m0 1
    have c2 : W0.cell? ⟨w.heap.size, 2, none⟩ = some (.int .i64 t.co) := cell_at m0 2
    have c3 : W0.cell? ⟨w.heap.size, 3, none⟩ = some (.int .i64 t.se) := cell_at m0 3
    have c4 : W0.cell? ⟨w.heap.size, 4, none⟩ = some (.slice a l.length cap) := cell_at m0 4
    go_region_with (first
      | (go_at_call 41; (with_reducible refine (HX.out _ ?_).mono ?_); (first | exact I0 | exact I0.on ((Below.refl _ _).drew) | exact I0.on KY | exact I0.on KY.drew); rintro e xX ⟨rfl, LX⟩; have KX : Below W0.heap.size W0 xX := (by first | exact LX | exact ((Below.refl _ _).drew).trans LX | exact join_below KY LX | exact join_below KY.drew LX); have mX := kept KX (lt_of m0) m0; have cX0 : xX.cell? ⟨w.heap.size, 0, none⟩ = some (.int .i64 t.id) := cell_at mX 0; have cX1 : xX.cell? ⟨w.heap.size, 1, none⟩ = some (.int .i64 t.dy) := cell_at mX 1; have cX2 : xX.cell? ⟨w.heap.size, 2, none⟩ = some (.int .i64 t.co) := cell_at mX 2; have cX3 : xX.cell? ⟨w.heap.size, 3, none⟩ = some (.int .i64 t.se) := cell_at mX 3; have cX4 : xX.cell? ⟨w.heap.size, 4, none⟩ = some (.slice a l.length cap) := cell_at mX 4)
      | (go_at_call 41; (with_reducible refine (HY.out _ ?_).mono ?_); (first | exact I0 | exact I0.on ((Below.refl _ _).drew) | exact I0.on KX | exact I0.on KX.drew); rintro e xY ⟨rfl, LY⟩; have KY : Below W0.heap.size W0 xY := (by first | exact LY | exact ((Below.refl _ _).drew).trans LY | exact join_below KX LY | exact join_below KX.drew LY); have mY := kept KY (lt_of m0) m0; have cY0 : xY.cell? ⟨w.heap.size, 0, none⟩ = some (.int .i64 t.id) := cell_at mY 0; have cY1 : xY.cell? ⟨w.heap.size, 1, none⟩ = some (.int .i64 t.dy) := cell_at mY 1; have cY2 : xY.cell? ⟨w.heap.size, 2, none⟩ = some (.int .i64 t.co) := cell_at mY 2; have cY3 : xY.cell? ⟨w.heap.size, 3, none⟩ = some (.int .i64 t.se) := cell_at mY 3; have cY4 : xY.cell? ⟨w.heap.size, 4, none⟩ = some (.slice a l.length cap) := cell_at mY 4))
    all_goals
      go_wp2_with fail
      refine (HK.out _ ?_).mono ?_
      (first | exact I0.on KX | exact I0.on KY)
      rintro e w1 ⟨rfl, L1⟩
      go_wp2
      refine bodyPost_ret (results_tmp3 rfl _ _ _) rfl ?_
      exact ⟨rfl, join_below N (by first | exact join_below KX L1 | exact join_below KY L1)⟩
  · by_cases h2 : ix < iy
    · obtain rfl : B = true := by rw [HB.out, decide_eq_true h1, decide_eq_true h2]; rfl
      obtain ⟨rfl, rfl⟩ := HYS.out rfl
      have e1 : (A == -1) = false := beq_eq_false_iff_ne.2 h1
      have e2 : decide (Z ≤ A) = false := decide_eq_false (by omega)
      have e3 : decide (A < 0) = false := decide_eq_false (by omega)
      clear HB HN HYS h1 h2
      go_enter Try.func14, Try.ntmps14
      go_wp2
      generalize w.alloc (trB t a l.length cap 33) = W0 at *
      have c0 : W0.cell? ⟨w.heap.size, 0, none⟩ = some (.int .i64 t.id) := cell_at m0 0
      have c1 : W0.cell? ⟨w.heap.size, 1, none⟩ = some (.int .i64 t.dy) := cell_at m0 1
      have c2 : W0.cell? ⟨w.heap.size, 2, none⟩ = some (.int .i64 t.co) := cell_at m0 2
      have c3 : W0.cell? ⟨w.heap.size, 3, none⟩ = some (.int .i64 t.se) := cell_at m0 3
      have c4 : W0.cell? ⟨w.heap.size, 4, none⟩ = some (.slice a l.length cap) := cell_at m0 4
      go_region_with (first
        | (go_at_call 41; (with_reducible refine (HX.out _ ?_).mono ?_); (first | exact I0 | exact I0.on ((Below.refl _ _).drew) | exact I0.on KY | exact I0.on KY.drew); rintro e xX ⟨rfl, LX⟩; have KX : Below W0.heap.size W0 xX := (by first | exact LX | exact ((Below.refl _ _).drew).trans LX | exact join_below KY LX | exact join_below KY.drew LX); have mX := kept KX (lt_of m0) m0; have cX0 : xX.cell? ⟨w.heap.size, 0, none⟩ = some (.int .i64 t.id) := cell_at mX 0; have cX1 : xX.cell? ⟨w.heap.size, 1, none⟩ = some (.int .i64 t.dy) := cell_at mX 1; have cX2 : xX.cell? ⟨w.heap.size, 2, none⟩ = some (.int .i64 t.co) := cell_at mX 2; have cX3 : xX.cell? ⟨w.heap.size, 3, none⟩ = some (.int .i64 t.se) := cell_at mX 3; have cX4 : xX.cell? ⟨w.heap.size, 4, none⟩ = some (.slice a l.length cap) := cell_at mX 4)
        | (go_at_call 41; (with_reducible refine (HY.out _ ?_).mono ?_); (first | exact I0 | exact I0.on ((Below.refl _ _).drew) | exact I0.on KX | exact I0.on KX.drew); rintro e xY ⟨rfl, LY⟩; have KY : Below W0.heap.size W0 xY := (by first | exact LY | exact ((Below.refl _ _).drew).trans LY | exact join_below KX LY | exact join_below KX.drew LY); have mY := kept KY (lt_of m0) m0; have cY0 : xY.cell? ⟨w.heap.size, 0, none⟩ = some (.int .i64 t.id) := cell_at mY 0; have cY1 : xY.cell? ⟨w.heap.size, 1, none⟩ = some (.int .i64 t.dy) := cell_at mY 1; have cY2 : xY.cell? ⟨w.heap.size, 2, none⟩ = some (.int .i64 t.co) := cell_at mY 2; have cY3 : xY.cell? ⟨w.heap.size, 3, none⟩ = some (.int .i64 t.se) := cell_at mY 3; have cY4 : xY.cell? ⟨w.heap.size, 4, none⟩ = some (.slice a l.length cap) := cell_at mY 4))
      all_goals
        go_wp2_with fail
        refine (HK.out _ ?_).mono ?_
        (first | exact I0.on KX | exact I0.on KY)
        rintro e w1 ⟨rfl, L1⟩
        go_wp2
        refine bodyPost_ret (results_tmp3 rfl _ _ _) rfl ?_
        exact ⟨rfl, join_below N (by first | exact join_below KX L1 | exact join_below KY L1)⟩
    · obtain rfl : B = false := by rw [HB.out, decide_eq_true h1, decide_eq_false h2]; rfl
      obtain ⟨rfl, rfl⟩ := HN.out rfl
      have e1 : (ix == -1) = false := beq_eq_false_iff_ne.2 h1
      have e2 : decide (iy ≤ ix) = true := decide_eq_true (by omega)
      have e3 : decide (ix < 0) = false := decide_eq_false (by omega)
      clear HB HN HYS h1 h2
      go_enter Try.func14, Try.ntmps14
      go_wp2
      generalize w.alloc (trB t a l.length cap 33) = W0 at *
      have c0 : W0.cell? ⟨w.heap.size, 0, none⟩ = some (.int .i64 t.id) := cell_at m0 0
      have c1 : W0.cell? ⟨w.heap.size, 1, none⟩ = some (.int .i64 t.dy) := cell_at m0 1
      have c2 : W0.cell? ⟨w.heap.size, 2, none⟩ = some (.int .i64 t.co) := cell_at m0 2
      have c3 : W0.cell? ⟨w.heap.size, 3, none⟩ = some (.int .i64 t.se) := cell_at m0 3
      have c4 : W0.cell? ⟨w.heap.size, 4, none⟩ = some (.slice a l.length cap) := cell_at m0 4
      go_region_with (first
        | (go_at_call 41; (with_reducible refine (HX.out _ ?_).mono ?_); (first | exact I0 | exact I0.on ((Below.refl _ _).drew) | exact I0.on KY | exact I0.on KY.drew); rintro e xX ⟨rfl, LX⟩; have KX : Below W0.heap.size W0 xX := (by first | exact LX | exact ((Below.refl _ _).drew).trans LX | exact join_below KY LX | exact join_below KY.drew LX); have mX := kept KX (lt_of m0) m0; have cX0 : xX.cell? ⟨w.heap.size, 0, none⟩ = some (.int .i64 t.id) := cell_at mX 0; have cX1 : xX.cell? ⟨w.heap.size, 1, none⟩ = some (.int .i64 t.dy) := cell_at mX 1; have cX2 : xX.cell? ⟨w.heap.size, 2, none⟩ = some (.int .i64 t.co) := cell_at mX 2; have cX3 : xX.cell? ⟨w.heap.size, 3, none⟩ = some (.int .i64 t.se) := cell_at mX 3; have cX4 : xX.cell? ⟨w.heap.size, 4, none⟩ = some (.slice a l.length cap) := cell_at mX 4)
        | (go_at_call 41; (with_reducible refine (HY.out _ ?_).mono ?_); (first | exact I0 | exact I0.on ((Below.refl _ _).drew) | exact I0.on KX | exact I0.on KX.drew); rintro e xY ⟨rfl, LY⟩; have KY : Below W0.heap.size W0 xY := (by first | exact LY | exact ((Below.refl _ _).drew).trans LY | exact join_below KX LY | exact join_below KX.drew LY); have mY := kept KY (lt_of m0) m0; have cY0 : xY.cell? ⟨w.heap.size, 0, none⟩ = some (.int .i64 t.id) := cell_at mY 0; have cY1 : xY.cell? ⟨w.heap.size, 1, none⟩ = some (.int .i64 t.dy) := cell_at mY 1; have cY2 : xY.cell? ⟨w.heap.size, 2, none⟩ = some (.int .i64 t.co) := cell_at mY 2; have cY3 : xY.cell? ⟨w.heap.size, 3, none⟩ = some (.int .i64 t.se) := cell_at mY 3; have cY4 : xY.cell? ⟨w.heap.size, 4, none⟩ = some (.slice a l.length cap) := cell_at mY 4))
      all_goals
        go_wp2_with fail
        refine (HK.out _ ?_).mono ?_
        (first | exact I0.on KX | exact I0.on KY)
        rintro e w1 ⟨rfl, L1⟩
        go_wp2
        refine bodyPost_ret (results_tmp3 rfl _ _ _) rfl ?_
        exact ⟨rfl, join_below N (by first | exact join_below KX L1 | exact join_below KY L1)⟩

end Tn
end Go.Proofs.Ytfoccmhmgdengaa

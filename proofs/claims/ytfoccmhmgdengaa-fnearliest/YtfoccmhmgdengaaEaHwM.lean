/- The methods of the program's heap of ways. -/
import Derived.Test.YtfoccmhmgdengaaEaHw
import Derived.Test.YtfoccmhmgdengaaEaLessW
import Derived.Test.YtfoccmhmgdengaaEaApp
import Derived.BigRegion
namespace Go.Proofs.Ytfoccmhmgdengaa
namespace Rd
open Go.ChangeShapes Go.WideShapes Go.ChangeAt Go.RowKit
open Pk (new_below join_below cell_at heap_new frozen_at lt_of kept heap_old)
set_option linter.unusedSimpArgs false
set_option linter.unusedVariables false

theorem wayLen_val (a : Option Addr) (n cap : Nat) (w : World) : Calls Try.prog 52 #[.slice a n cap] w fun e w' => e = .returned (.int .i64 n) ∧ w' = w := by
  go_enter Try.func52, Try.ntmps52
  go_wp2
  go_ret
  exact ⟨rfl, rfl⟩

/-- A way stored at place k of the row. -/
theorem own_put {w : World} {B g n cap k : Nat} {f : Nat → Vw} (h : w.ownsRow B 61 3 (.slice (some ⟨g, 0, none⟩) n cap) n (vcells f n)) (hk : k < n) (v : Vw) :
    (((w.setCell ⟨g, k * 3, none⟩ (.int .i64 v.s)).setCell ⟨g, k * 3 + 1, none⟩ (.int .i64 v.y)).setCell ⟨g, k * 3 + 2, none⟩ (.int .i64 (v.n : Int))).ownsRow B 61 3 (.slice (some ⟨g, 0, none⟩) n cap) n (vcells (upd f k v) n) := by
  rw [← vcells_set f hk v]
  exact own_setn (own_setn (own_setn h _) _) _

theorem grown_put (w : World) (g k : Nat) (x y z : Value) : w.grownBy (((w.setCell ⟨g, k * 3, none⟩ x).setCell ⟨g, k * 3 + 1, none⟩ y).setCell ⟨g, k * 3 + 2, none⟩ z) (some g) :=
  ((grown_set x).trans (grown_set y)).trans (grown_set z)

theorem grown_drew {w w1 : World} {row : Option Nat} (h : w.grownBy w1 row) : w.grownBy w1.drew row := ⟨h.os, h.tape, h.output, h.size, h.block⟩

theorem own_drew {w : World} {B e sz n : Nat} {v : Value} {xs : List Value} (h : w.ownsRow B e sz v n xs) : w.drew.ownsRow B e sz v n xs := h

set_option maxRecDepth 100000 in
set_option maxHeartbeats 400000 in
theorem waySwap_val (B g cap n i j : Nat) (f : Nat → Vw) (w : World) (hi : i < n) (hj : j < n) (O : w.ownsRow B 61 3 (.slice (some ⟨g, 0, none⟩) n cap) n (vcells f n)) :
    Calls Try.prog 101 #[.slice (some ⟨g, 0, none⟩) n cap, .int .i64 i, .int .i64 j] w fun e w' => e = .returned (.tuple #[]) ∧ w'.ownsRow B 61 3 (.slice (some ⟨g, 0, none⟩) n cap) n (vcells (sw f i j) n) ∧ w.grownBy w' (some g) := by
  have hi1 : (i : Int) < (n : Int) := by omega
  have hj1 : (j : Int) < (n : Int) := by omega
  have a0 := own_cells O _ _ (vcells_at f hi).1
  have a1 := own_cells O _ _ (vcells_at f hi).2.1
  have a2 := own_cells O _ _ (vcells_at f hi).2.2
  have b0 := own_cells O _ _ (vcells_at f hj).1
  have b1 := own_cells O _ _ (vcells_at f hj).2.1
  have b2 := own_cells O _ _ (vcells_at f hj).2.2
  obtain ⟨a0, A0⟩ := a0
  obtain ⟨a1, A1⟩ := a1
  obtain ⟨a2, A2⟩ := a2
  obtain ⟨b0, B0⟩ := b0
  obtain ⟨b1, B1⟩ := b1
  obtain ⟨b2, B2⟩ := b2
  have HO : Hid ((((((w.setCell ⟨g, i * 3, none⟩ (.int .i64 (f j).s)).setCell ⟨g, i * 3 + 1, none⟩ (.int .i64 (f j).y)).setCell ⟨g, i * 3 + 2, none⟩ (.int .i64 ((f j).n : Int))).setCell ⟨g, j * 3, none⟩ (.int .i64 (f i).s)).setCell ⟨g, j * 3 + 1, none⟩ (.int .i64 (f i).y)).setCell ⟨g, j * 3 + 2, none⟩ (.int .i64 ((f i).n : Int)) |>.ownsRow B 61 3 (.slice (some ⟨g, 0, none⟩) n cap) n (vcells (sw f i j) n)) := by
    show World.ownsRow _ _ _ _ _ _ _
    rw [← upd_sw1]
    exact own_put (own_put O hi (f j)) hj (f i)
  have HG := (grown_put w g i (.int .i64 (f j).s) (.int .i64 (f j).y) (.int .i64 ((f j).n : Int))).trans (grown_put _ g j (.int .i64 (f i).s) (.int .i64 (f i).y) (.int .i64 ((f i).n : Int)))
  have HP : Hid (_) := HG
  clear HG O
  obtain ⟨p, hp⟩ : ∃ p, i * 3 = p := ⟨_, rfl⟩
  obtain ⟨q, hq⟩ : ∃ q, j * 3 = q := ⟨_, rfl⟩
  rw [hp] at a0 a1 a2 A0 A1 A2 HO HP
  rw [hq] at b0 b1 b2 B0 B1 B2 HO HP
  by_cases hij : i = j
  · subst hij
    obtain rfl : p = q := hp.symm.trans hq
    clear b0 b1 b2 B0 B1 B2 hq hj1
    generalize (f i).s = x0 at *
    generalize (f i).y = x1 at *
    generalize ((f i).n : Int) = x2 at *
    go_enter Try.func101, Try.ntmps101
    go_upto_region 0 with fail
    go_region
    go_wp2
    refine bodyPost_end (results_none rfl _ _ _) rfl ?_
    exact ⟨rfl, own_drew HO.out, grown_drew HP.out⟩
  · have n1 : q ≠ p := by omega
    have n2 : q ≠ p + 1 := by omega
    have n3 : q ≠ p + 2 := by omega
    have n4 : q + 1 ≠ p := by omega
    have n5 : q + 1 ≠ p + 2 := by omega
    have n6 : q + 2 ≠ p := by omega
    have n7 : q + 2 ≠ p + 1 := by omega
    generalize (f i).s = x0 at *
    generalize (f i).y = x1 at *
    generalize ((f i).n : Int) = x2 at *
    generalize (f j).s = y0 at *
    generalize (f j).y = y1 at *
    generalize ((f j).n : Int) = y2 at *
    go_enter Try.func101, Try.ntmps101
    go_upto_region 0 with fail
    go_region
    go_wp2
    refine bodyPost_end (results_none rfl _ _ _) rfl ?_
    refine ⟨rfl, ?_, ?_⟩
    · with_reducible exact own_drew HO.out
    · with_reducible exact grown_drew HP.out

end Rd
end Go.Proofs.Ytfoccmhmgdengaa

/- Texts laid into one, in their order: HnIns, HnUpdS, HnInsS, HnIn, MathPack, MathBit, PkCode, MathUnp, UnRead, UnSym, UnLen, UnStored, MathWhole, MathFix, PkWhole, UnFixed, MathFix2, UnFixS, UnSpec, FrMath, FrAns, FrBound, GtPure, GtImpl, TkMark, GtMark, GtOne, RdEnd, FrCut, FrJoin, UnRefuse, UnBitI. -/
import Derived.Test.YtlgolnddhfadeabGreatDoorManyAFnExactInspect
import Derived.Lib.SmallJoins
import Derived.Test.YtlgolnddhfadeabGreatDoorErrs
import Derived.Test.YtlgolnddhfadeabGreatDoorRows
import Derived.Handy
import Derived.Laws.Bits64
import Derived.Laws.BitsLemmas
import Derived.Test.YtlgolnddhfadeabGreatDoorPkRow
import Derived.Lib.BitFns
import Derived.Test.YtlgolnddhfadeabGreatDoorShelf
import Derived.Test.YtlgolnddhfadeabGreatDoorSignRead
import Derived.Test.YtlgolnddhfadeabGreatDoorGtGuess
import Derived.Test.YtlgolnddhfadeabGreatDoorGtShape2
import Derived.Test.YtlgolnddhfadeabGreatDoorTkLegs
import Derived.Test.YtlgolnddhfadeabGreatDoorGtLegs
import Derived.Test.YtlgolnddhfadeabGreatDoorGtSpec
import Derived.Shelf.Vars
import Derived.Test.YtlgolnddhfadeabGreatDoorSignVerify
import Derived.Test.YtlgolnddhfadeabGreatDoorNum
import Derived.Deep.RegionWith
import Derived.Deep.RegionHeld3
/- Inspect of the program. -/
namespace Go.Proofs.YtlgolnddhfadeabGreatDoor
namespace Hn
open Go.ChangeShapes Go.WideShapes Go.ChangeAt Go.RowKit Go.Joins
open Pk (new_below join_below cell_at heap_new frozen_at lt_of kept heap_old Drawn info_of Room own_form own_below)
open Tk (Lg Legs tkV tkB)
set_option linter.unusedSimpArgs false
set_option linter.unusedVariables false

/-- Whether a control is written down, and the device and the answer then. -/
def insB (o : Hnd) (tr dy : Int) : Bool := canB o tr dy && decide (o.sl.length < 300)
def insO (b : Bool) (o : Hnd) (c : Ct) : Hnd := if b = true then { o with sl := o.sl ++ [c] } else o
def insC (b : Bool) (k : Nat) : Nat := if b = true then k else 1

theorem ins_no1 {o : Hnd} {tr dy : Int} (h : canB o tr dy = false) : insB o tr dy = false := by unfold insB; rw [h]; rfl
theorem ins_no2 {o : Hnd} {tr dy : Int} (h : ¬ o.sl.length < 300) : insB o tr dy = false := by unfold insB; rw [decide_eq_false h, Bool.and_false]
theorem ins_ok {o : Hnd} {tr dy : Int} (h : canB o tr dy = true) (h2 : o.sl.length < 300) : insB o tr dy = true := by unfold insB; rw [h, decide_eq_true h2]; rfl

theorem off_grown {w w5 : World} {lo lo' n m : Nat} {u v : Value} {xs ys : List Value} (O1 : w.ownsRow lo 3 1 u n xs) (O2 : w.ownsRow lo' 58 6 v m ys) (G : w.grownBy w5 v.ownBlock) : w5.ownsRow lo 3 1 u n xs := by
  obtain ⟨h1, h2⟩ := O1
  refine ⟨h1, ?_⟩
  rcases h2 with h2 | ⟨g, cap, cur, hv, hg, hh, hr⟩
  · exact Or.inl h2
  · refine Or.inr ⟨g, cap, cur, hv, hg, ?_, hr⟩
    rw [G.block g (lt_of hh) (Pk.own_ne O2 hh (by decide))]
    exact hh

theorem grown_at {w w5 : World} {v : Value} {k : Nat} {x : Obj} (G : w.grownBy w5 v.ownBlock) (h : w.heap[k]? = some x) (hk : some k ≠ v.ownBlock) : w5.heap[k]? = some x := (G.block k (lt_of h) hk).trans h

theorem grown_size {w w5 : World} {r : Option Nat} (G : w.grownBy w5 r) : w.heap.size ≤ w5.heap.size := G.size

theorem Sw.drew {P Q : Nat} {v w : World} (s : Sw P Q v w) : Sw P Q v w.drew := ⟨s.size, s.block⟩

theorem Sw.trans {P Q : Nat} {u v w : World} (s : Sw P Q u v) (t : Sw P Q v w) : Sw P Q u w := ⟨t.size.trans s.size, fun b h1 h2 => (t.block b h1 h2).trans (s.block b h1 h2)⟩

theorem own_sw {P Q lo e size n : Nat} {v w : World} {u : Value} {xs : List Value} (h : v.ownsRow lo e size u n xs) (s : Sw P Q v w) (hk : ∀ k, u.ownBlock = some k → k ≠ Q ∧ P + 1 ≤ k) : w.ownsRow lo e size u n xs := by
  obtain ⟨k1, k2⟩ := h
  refine ⟨k1, ?_⟩
  rcases k2 with k2 | ⟨g, cap, cur, hv, hg, hh, hr⟩
  · exact Or.inl k2
  · refine Or.inr ⟨g, cap, cur, hv, hg, ?_, hr⟩
    have := hk g (by rw [hv]; rfl)
    rw [s.block g (by omega) this.1]
    exact hh

set_option maxRecDepth 100000 in
set_option maxHeartbeats 8000000 in
theorem implIns_val (x : Pl) (o : Hnd) (s : ByteArray) {RT : Tk.Hd} {RN : ByteArray} {RL : List Lg} {C : Nat} {wb : World} (HR : ∀ W : World, Below wb.heap.size wb W → Calls Tryz.prog 50 #[.agg #[.int .i64 o.p, .int .i64 o.q, .int .i64 o.g], .int .i64 o.op, .int .i64 o.is, .string s] W fun e w' => RdOk RT RN RL C W.heap.size e w' ∧ Below W.heap.size W w') (hC : C ≠ 0 → RT.id = 0) (tr dy : Int) (w : World) (KB : Below wb.heap.size wb w) (hz : o.ol.length ≤ 1048576) (hz2 : o.sl.length ≤ 1048576) (hz3 : RL.length ≤ 1048576) (I : In w x o) (fl : Flat x) :
    Calls Tryz.prog 8 #[hnV x o, .string s, .int .i64 tr, .int .i64 dy] w fun e w' => ∃ y, e = .returned (.tuple #[hnV y (insO (insB o tr dy) o (ctlO o C RT RL tr dy)), .int .i64 (insC (insB o tr dy) (saidC o C RT RL tr dy) : Nat)]) ∧ Copied w.heap.size w' y (insO (insB o tr dy) o (ctlO o C RT RL tr dy)) ∧ Below w.heap.size w w' := by
  obtain ⟨k0, k1, hs⟩ := two_blocks w (hnB x o 32) (.cells #[.int .i64 0, .int .i64 0, .int .i64 0, .int .i64 0, .int .i64 0, .int .i64 0, .int .i64 0, .slice none 0 0, .slice none 0 0] 32)
  have L : Below w.heap.size w ((w.alloc (hnB x o 32)).alloc (.cells #[.int .i64 0, .int .i64 0, .int .i64 0, .int .i64 0, .int .i64 0, .int .i64 0, .int .i64 0, .slice none 0 0, .slice none 0 0] 32)) := join_below (new_below _ _) (new_below _ _)
  have HC : Hid (∀ W : World, In W x o → _) := fun W h => implCopy_val x o W hz hz2 h fl
  have HH : Hid (∀ W : World, In W x o → _) := fun W h => can_val x o tr dy W hz hz2 h
  have HK : Hid (∀ W : World, Below wb.heap.size wb W → In W x o → _) := fun W k h => control_val x o s HR hC tr dy W k hz hz2 hz3 h
  have HS : Hid (((ctlO o C RT RL tr dy).sa : Int) = (saidC o C RT RL tr dy : Nat)) := rfl
  clear hz hz2 hz3 HR hC fl
  cases h : canB o tr dy
  · have HV : Hid (insB o tr dy = false) := ins_no1 h
    rw [h] at HH
    clear h HS KB
    go_enter Tryz.func8, Tryz.ntmps8
    go_wp2_with fail
    refine named fun V0 hV => ?_
    rw [← hV] at k0 k1 L hs
    clear hV
    refine (HC.out _ (I.on L)).mono ?_
    rintro e v1 ⟨y, rfl, C1, L1⟩
    have n0 := kept L1 (lt_of k0) k0
    have n1 := kept L1 (lt_of k1) k1
    have B1 := join_below L L1
    have hg : w.heap.size + 1 + 1 ≤ V0.heap.size := Nat.le_of_eq hs.symm
    have hl1 : V0.heap.size ≤ v1.heap.size := L1.size
    have NQ := new_below v1 (hnB y o 32)
    have q2 := heap_new v1 (hnB y o 32)
    have q0 := heap_old n0 (hnB y o 32)
    have q1 := heap_old n1 (hnB y o 32)
    have B2 := join_below B1 NQ
    have IV := I.on B2
    clear k0 k1 L L1 hs n0 n1
    have a0 : (v1.alloc (hnB y o 32)).cell? ⟨w.heap.size, 0, none⟩ = some (.int .i64 o.dv) := cell_at q0 0
    have a1 : (v1.alloc (hnB y o 32)).cell? ⟨w.heap.size, 1, none⟩ = some (.int .i64 o.p) := cell_at q0 1
    have a2 : (v1.alloc (hnB y o 32)).cell? ⟨w.heap.size, 2, none⟩ = some (.int .i64 o.q) := cell_at q0 2
    have a3 : (v1.alloc (hnB y o 32)).cell? ⟨w.heap.size, 3, none⟩ = some (.int .i64 o.g) := cell_at q0 3
    have a4 : (v1.alloc (hnB y o 32)).cell? ⟨w.heap.size, 4, none⟩ = some (.int .i64 o.op) := cell_at q0 4
    have a5 : (v1.alloc (hnB y o 32)).cell? ⟨w.heap.size, 5, none⟩ = some (.int .i64 o.is) := cell_at q0 5
    have a6 : (v1.alloc (hnB y o 32)).cell? ⟨w.heap.size, 6, none⟩ = some (.int .i64 o.ve) := cell_at q0 6
    have a7 : (v1.alloc (hnB y o 32)).cell? ⟨w.heap.size, 7, none⟩ = some (.slice x.a o.ol.length x.c) := cell_at q0 7
    have a8 : (v1.alloc (hnB y o 32)).cell? ⟨w.heap.size, 8, none⟩ = some (.slice x.b o.sl.length x.d) := cell_at q0 8
    go_wp2_with fail
    refine named fun V1 hV => ?_
    rw [← hV] at q0 q1 q2 B2 NQ IV
    clear hV a0 a1 a2 a3 a4 a5 a6 a7 a8
    refine (HH.out _ IV).mono ?_
    rintro e v2 ⟨rfl, L2⟩
    have m0 := kept L2 (lt_of q0) q0
    have m1 := kept L2 (lt_of q1) q1
    have m2 := kept L2 (lt_of q2) q2
    have B3 := join_below B2 L2
    have N2 : Below v1.heap.size v1 v2 := join_below NQ L2
    have hlt := lt_of m2
    have I2 := IV.on L2
    have HL : Hid (w.heap.size + 1 + 1 ≤ v1.heap.size) := by show _ ≤ _; omega
    clear q0 q1 q2 B1 B2 NQ IV L2
    have e0 : v2.cell? ⟨w.heap.size + 1, 0, none⟩ = some (.int .i64 0) := cell_at m1 0
    have e1 : v2.cell? ⟨w.heap.size + 1, 1, none⟩ = some (.int .i64 0) := cell_at m1 1
    have e2 : v2.cell? ⟨w.heap.size + 1, 2, none⟩ = some (.int .i64 0) := cell_at m1 2
    have e3 : v2.cell? ⟨w.heap.size + 1, 3, none⟩ = some (.int .i64 0) := cell_at m1 3
    have e4 : v2.cell? ⟨w.heap.size + 1, 4, none⟩ = some (.int .i64 0) := cell_at m1 4
    have e5 : v2.cell? ⟨w.heap.size + 1, 5, none⟩ = some (.int .i64 0) := cell_at m1 5
    have e6 : v2.cell? ⟨w.heap.size + 1, 6, none⟩ = some (.int .i64 0) := cell_at m1 6
    have e7 : v2.cell? ⟨w.heap.size + 1, 7, none⟩ = some (.slice none 0 0) := cell_at m1 7
    have e8 : v2.cell? ⟨w.heap.size + 1, 8, none⟩ = some (.slice none 0 0) := cell_at m1 8
    have f0 : v2.frozen? ⟨w.heap.size + 1, 0, none⟩ = false := frozen_at m1 0
    have f1 : v2.frozen? ⟨w.heap.size + 1, 1, none⟩ = false := frozen_at m1 1
    have f2 : v2.frozen? ⟨w.heap.size + 1, 2, none⟩ = false := frozen_at m1 2
    have f3 : v2.frozen? ⟨w.heap.size + 1, 3, none⟩ = false := frozen_at m1 3
    have f4 : v2.frozen? ⟨w.heap.size + 1, 4, none⟩ = false := frozen_at m1 4
    have f5 : v2.frozen? ⟨w.heap.size + 1, 5, none⟩ = false := frozen_at m1 5
    have f6 : v2.frozen? ⟨w.heap.size + 1, 6, none⟩ = false := frozen_at m1 6
    have f7 : v2.frozen? ⟨w.heap.size + 1, 7, none⟩ = false := frozen_at m1 7
    have f8 : v2.frozen? ⟨w.heap.size + 1, 8, none⟩ = false := frozen_at m1 8
    have g0 : v2.cell? ⟨v1.heap.size, 0, none⟩ = some (.int .i64 o.dv) := cell_at m2 0
    have g1 : v2.cell? ⟨v1.heap.size, 1, none⟩ = some (.int .i64 o.p) := cell_at m2 1
    have g2 : v2.cell? ⟨v1.heap.size, 2, none⟩ = some (.int .i64 o.q) := cell_at m2 2
    have g3 : v2.cell? ⟨v1.heap.size, 3, none⟩ = some (.int .i64 o.g) := cell_at m2 3
    have g4 : v2.cell? ⟨v1.heap.size, 4, none⟩ = some (.int .i64 o.op) := cell_at m2 4
    have g5 : v2.cell? ⟨v1.heap.size, 5, none⟩ = some (.int .i64 o.is) := cell_at m2 5
    have g6 : v2.cell? ⟨v1.heap.size, 6, none⟩ = some (.int .i64 o.ve) := cell_at m2 6
    have g7 : v2.cell? ⟨v1.heap.size, 7, none⟩ = some (.slice y.a o.ol.length y.c) := cell_at m2 7
    have g8 : v2.cell? ⟨v1.heap.size, 8, none⟩ = some (.slice y.b o.sl.length y.d) := cell_at m2 8
    have HFIN : Hid (∀ W, Sw (w.heap.size + 1) v1.heap.size v2 W → Copied w.heap.size W y (insO false o (ctlO o C RT RL tr dy))) := fun W s => (C1.keep (P := w.heap.size + 1) (by omega) (s.keep N2 (Nat.le_refl _) (Nat.le_refl _))).lower (by omega)
    have HB : Hid (∀ W, Below w.heap.size v2 W → Below w.heap.size w W) := fun W l => B3.trans l
    clear C1 m0 m1 m2 B3 N2 I2 hg hl1 hlt I HC HH HK
    go_wp2
    refine bodyPost_ret (v := .tuple #[hnV y (o), .int .i64 (1)]) (by simp [results, Tryz.results8, go_sem, e0, e1, e2, e3, e4, e5, e6, e7, e8]) rfl ?_
    refine ⟨y, by rw [HV.out] <;> rfl, ?_, HB.out _ ?_⟩
    · rw [HV.out]
      refine HFIN.out _ ?_
      (repeat' (first | with_reducible exact Sw.refl _ _ _ | with_reducible apply Sw.one | with_reducible apply Sw.two))
    · (repeat' (first | apply Below.setCell | exact Below.refl _ _)) <;> first | (simp; done) | (have := HL.out; simp; omega)
  · rw [h] at HH
    by_cases h2 : o.sl.length < 300
    · have HV : Hid (insB o tr dy = true) := ins_ok h h2
      have d2 : decide ((300 : Int) ≤ (o.sl.length : Int)) = false := decide_eq_false (by omega)
      clear h
      go_enter Tryz.func8, Tryz.ntmps8
      go_wp2_with fail
      refine named fun V0 hV => ?_
      rw [← hV] at k0 k1 L hs
      clear hV
      refine (HC.out _ (I.on L)).mono ?_
      rintro e v1 ⟨y, rfl, C1, L1⟩
      have n0 := kept L1 (lt_of k0) k0
      have n1 := kept L1 (lt_of k1) k1
      have B1 := join_below L L1
      have hg : w.heap.size + 1 + 1 ≤ V0.heap.size := Nat.le_of_eq hs.symm
      have hl1 : V0.heap.size ≤ v1.heap.size := L1.size
      have NQ := new_below v1 (hnB y o 32)
      have q2 := heap_new v1 (hnB y o 32)
      have q0 := heap_old n0 (hnB y o 32)
      have q1 := heap_old n1 (hnB y o 32)
      have B2 := join_below B1 NQ
      have IV := I.on B2
      clear k0 k1 L L1 hs n0 n1
      have a0 : (v1.alloc (hnB y o 32)).cell? ⟨w.heap.size, 0, none⟩ = some (.int .i64 o.dv) := cell_at q0 0
      have a1 : (v1.alloc (hnB y o 32)).cell? ⟨w.heap.size, 1, none⟩ = some (.int .i64 o.p) := cell_at q0 1
      have a2 : (v1.alloc (hnB y o 32)).cell? ⟨w.heap.size, 2, none⟩ = some (.int .i64 o.q) := cell_at q0 2
      have a3 : (v1.alloc (hnB y o 32)).cell? ⟨w.heap.size, 3, none⟩ = some (.int .i64 o.g) := cell_at q0 3
      have a4 : (v1.alloc (hnB y o 32)).cell? ⟨w.heap.size, 4, none⟩ = some (.int .i64 o.op) := cell_at q0 4
      have a5 : (v1.alloc (hnB y o 32)).cell? ⟨w.heap.size, 5, none⟩ = some (.int .i64 o.is) := cell_at q0 5
      have a6 : (v1.alloc (hnB y o 32)).cell? ⟨w.heap.size, 6, none⟩ = some (.int .i64 o.ve) := cell_at q0 6
      have a7 : (v1.alloc (hnB y o 32)).cell? ⟨w.heap.size, 7, none⟩ = some (.slice x.a o.ol.length x.c) := cell_at q0 7
      have a8 : (v1.alloc (hnB y o 32)).cell? ⟨w.heap.size, 8, none⟩ = some (.slice x.b o.sl.length x.d) := cell_at q0 8
      go_wp2_with fail
      refine named fun V1 hV => ?_
      rw [← hV] at q0 q1 q2 B2 NQ IV
      clear hV a0 a1 a2 a3 a4 a5 a6 a7 a8
      refine (HH.out _ IV).mono ?_
      rintro e v2 ⟨rfl, L2⟩
      have m0 := kept L2 (lt_of q0) q0
      have m1 := kept L2 (lt_of q1) q1
      have m2 := kept L2 (lt_of q2) q2
      have B3 := join_below B2 L2
      have N2 : Below v1.heap.size v1 v2 := join_below NQ L2
      have hlt := lt_of m2
      have I2 := IV.on L2
      have HL : Hid (w.heap.size + 1 + 1 ≤ v1.heap.size) := by show _ ≤ _; omega
      clear q0 q1 q2 B1 B2 NQ IV L2
      have a0 : v2.cell? ⟨w.heap.size, 0, none⟩ = some (.int .i64 o.dv) := cell_at m0 0
      have a1 : v2.cell? ⟨w.heap.size, 1, none⟩ = some (.int .i64 o.p) := cell_at m0 1
      have a2 : v2.cell? ⟨w.heap.size, 2, none⟩ = some (.int .i64 o.q) := cell_at m0 2
      have a3 : v2.cell? ⟨w.heap.size, 3, none⟩ = some (.int .i64 o.g) := cell_at m0 3
      have a4 : v2.cell? ⟨w.heap.size, 4, none⟩ = some (.int .i64 o.op) := cell_at m0 4
      have a5 : v2.cell? ⟨w.heap.size, 5, none⟩ = some (.int .i64 o.is) := cell_at m0 5
      have a6 : v2.cell? ⟨w.heap.size, 6, none⟩ = some (.int .i64 o.ve) := cell_at m0 6
      have a7 : v2.cell? ⟨w.heap.size, 7, none⟩ = some (.slice x.a o.ol.length x.c) := cell_at m0 7
      have a8 : v2.cell? ⟨w.heap.size, 8, none⟩ = some (.slice x.b o.sl.length x.d) := cell_at m0 8
      go_wp2_with fail
      refine (HK.out _ (KB.trans (B3.mono KB.size)) I2).mono ?_
      rintro e v3 ⟨rfl, L3⟩
      have p1 := kept L3 (lt_of m1) m1
      have p2 := kept L3 (lt_of m2) m2
      have B4 := join_below B3 L3
      have N3 : Below v1.heap.size v1 v3 := join_below N2 L3
      have hlt3 : v1.heap.size < v3.heap.size := lt_of p2
      clear a0 a1 a2 a3 a4 a5 a6 a7 a8 m0 m1 m2 B3 N2 I2 L3 hlt I HC HH HK KB
      generalize hc : ctlO o C RT RL tr dy = c at *
      have HCE : Hid (ctlO o C RT RL tr dy = c) := hc
      clear hc
      have NC := new_below v3 (.cells #[.int .i64 c.dv, .int .i64 c.no, .int .i64 c.tk, .int .i64 c.tr, .int .i64 c.dy, .int .i64 c.sa] 58)
      have ND := new_below (v3.alloc (.cells #[.int .i64 c.dv, .int .i64 c.no, .int .i64 c.tk, .int .i64 c.tr, .int .i64 c.dy, .int .i64 c.sa] 58)) (.cells #[.int .i64 c.dv, .int .i64 c.no, .int .i64 c.tk, .int .i64 c.tr, .int .i64 c.dy, .int .i64 c.sa] 58)
      have eC : (v3.alloc (.cells #[.int .i64 c.dv, .int .i64 c.no, .int .i64 c.tk, .int .i64 c.tr, .int .i64 c.dy, .int .i64 c.sa] 58)).heap.size = v3.heap.size + 1 := Array.size_push ..
      have eD : ((v3.alloc (.cells #[.int .i64 c.dv, .int .i64 c.no, .int .i64 c.tk, .int .i64 c.tr, .int .i64 c.dy, .int .i64 c.sa] 58)).alloc (.cells #[.int .i64 c.dv, .int .i64 c.no, .int .i64 c.tk, .int .i64 c.tr, .int .i64 c.dy, .int .i64 c.sa] 58)).heap.size = v3.heap.size + 1 + 1 := (Array.size_push ..).trans (congrArg (· + 1) eC)
      have ND3 : Below v3.heap.size v3 ((v3.alloc (.cells #[.int .i64 c.dv, .int .i64 c.no, .int .i64 c.tk, .int .i64 c.tr, .int .i64 c.dy, .int .i64 c.sa] 58)).alloc (.cells #[.int .i64 c.dv, .int .i64 c.no, .int .i64 c.tk, .int .i64 c.tr, .int .i64 c.dy, .int .i64 c.sa] 58)) := join_below NC ND
      have s1 := kept ND3 (lt_of p1) p1
      have s2 := kept ND3 (lt_of p2) p2
      have sC := heap_old (heap_new v3 (.cells #[.int .i64 c.dv, .int .i64 c.no, .int .i64 c.tk, .int .i64 c.tr, .int .i64 c.dy, .int .i64 c.sa] 58)) (.cells #[.int .i64 c.dv, .int .i64 c.no, .int .i64 c.tk, .int .i64 c.tr, .int .i64 c.dy, .int .i64 c.sa] 58)
      have sD := heap_new (v3.alloc (.cells #[.int .i64 c.dv, .int .i64 c.no, .int .i64 c.tk, .int .i64 c.tr, .int .i64 c.dy, .int .i64 c.sa] 58)) (.cells #[.int .i64 c.dv, .int .i64 c.no, .int .i64 c.tk, .int .i64 c.tr, .int .i64 c.dy, .int .i64 c.sa] 58)
      rw [eC] at sD
      have OS := own_below (own_below C1.seen N3 (Nat.le_refl _)) ND3 (Nat.le_refl _)
      have OO := own_below (own_below C1.off N3 (Nat.le_refl _)) ND3 (Nat.le_refl _)
      have HOL : Hid (∀ k, (Value.slice y.b o.sl.length y.d).ownBlock = some k → V0.heap.size ≤ k ∧ k < v1.heap.size) := fun k h => C1.seen.lt k h
      have B5 : Below w.heap.size w ((v3.alloc (.cells #[.int .i64 c.dv, .int .i64 c.no, .int .i64 c.tk, .int .i64 c.tr, .int .i64 c.dy, .int .i64 c.sa] 58)).alloc (.cells #[.int .i64 c.dv, .int .i64 c.no, .int .i64 c.tk, .int .i64 c.tr, .int .i64 c.dy, .int .i64 c.sa] 58)) := join_below B4 ND3
      have hC5 : V0.heap.size ≤ ((v3.alloc (.cells #[.int .i64 c.dv, .int .i64 c.no, .int .i64 c.tk, .int .i64 c.tr, .int .i64 c.dy, .int .i64 c.sa] 58)).alloc (.cells #[.int .i64 c.dv, .int .i64 c.no, .int .i64 c.tk, .int .i64 c.tr, .int .i64 c.dy, .int .i64 c.sa] 58)).heap.size := by rw [eD]; omega
      have HG : Hid (∀ j u, (cc1 c)[j]? = some u → ((v3.alloc (.cells #[.int .i64 c.dv, .int .i64 c.no, .int .i64 c.tk, .int .i64 c.tr, .int .i64 c.dy, .int .i64 c.sa] 58)).alloc (.cells #[.int .i64 c.dv, .int .i64 c.no, .int .i64 c.tk, .int .i64 c.tr, .int .i64 c.dy, .int .i64 c.sa] 58)).cell? (Addr.add ⟨v3.heap.size + 1, 0, none⟩ j) = some u) := by
        intro j u hu
        rw [add_plain, Nat.zero_add, cell_at sD j, ← hu]
        simp [cc1]
      have HZ : Hid (o.sl.length < 300) := h2
      obtain ⟨i0, hi, hy0, hy1, hy2⟩ := info_of info_control
      have x8 : v3.cell? ⟨v1.heap.size, 8, none⟩ = some (.slice y.b o.sl.length y.d) := cell_at p2 8
      have y8 : (v3.alloc (.cells #[.int .i64 c.dv, .int .i64 c.no, .int .i64 c.tk, .int .i64 c.tr, .int .i64 c.dy, .int .i64 c.sa] 58)).cell? ⟨v1.heap.size, 8, none⟩ = some (.slice y.b o.sl.length y.d) := cell_at (heap_old p2 (.cells #[.int .i64 c.dv, .int .i64 c.no, .int .i64 c.tk, .int .i64 c.tr, .int .i64 c.dy, .int .i64 c.sa] 58)) 8
      go_wp2_with (at_builtin; refine wpList_append_own_at _ rfl _ _ 30 rfl V0.heap.size 58 i0 (lgV ⟨0, 0, 0, 0, 0, 0⟩) 6 48 Tryz.underlying30 hi hy0 hy1 hy2 rfl (by decide) _ _ _ rfl OS ⟨v3.heap.size + 1, 0, none⟩ 1 1 (cc1 c) rfl ?d0 ?d1 ?d2 ?d3 ?d4 ?d5 ?_)
      case d0 => rfl
      case d1 => exact HG.out
      case d2 => intro u hu; simp only [cc1, List.mem_cons, List.not_mem_nil, or_false] at hu; rcases hu with rfl | rfl | rfl | rfl | rfl | rfl <;> rfl
      case d3 => have := HZ.out; unfold maxLen; omega
      case d4 => have := HZ.out; omega
      case d5 => exact hC5
      intro v' w5 O5 G5 _ _
      rw [ccells_snoc] at O5
      obtain ⟨sa, sc, rfl, -⟩ := own_form O5
      have O6 : w5.ownsRow V0.heap.size 58 6 (.slice sa (o.sl ++ [c]).length sc) (o.sl ++ [c]).length (ccells (o.sl ++ [c])) := by rw [show (o.sl ++ [c]).length = o.sl.length + 1 by simp]; exact O5
      have OF := off_grown OO OS G5
      have hsz := grown_size G5
      have r1 := grown_at G5 s1 (fun e => by have := (HOL.out _ e.symm).1; omega)
      have r2 := grown_at G5 s2 (fun e => by have := (HOL.out _ e.symm).2; omega)
      have rC := grown_at G5 sC (fun e => by have := (HOL.out _ e.symm).2; omega)
      have B6 : Below w.heap.size w w5 := B5.grown G5 B5.size (fun k h => by have := (HOL.out k h).1; omega)
      clear G5 OS OO HG hi hy0 hy1 hy2 NC ND ND3 s1 s2 sC sD B5 hC5 B4 p1 p2 x8 y8
      have u1 : (w5.setCell ⟨v1.heap.size, 8, none⟩ (.slice sa (o.sl.length + 1) sc)).heap[w.heap.size + 1]? = some (.cells #[.int .i64 0, .int .i64 0, .int .i64 0, .int .i64 0, .int .i64 0, .int .i64 0, .int .i64 0, .slice none 0 0, .slice none 0 0] 32) := h_other (i := 8) r1 (by omega) _
      have u2 : (w5.setCell ⟨v1.heap.size, 8, none⟩ (.slice sa (o.sl.length + 1) sc)).heap[v1.heap.size]? = some (.cells #[.int .i64 o.dv, .int .i64 o.p, .int .i64 o.q, .int .i64 o.g, .int .i64 o.op, .int .i64 o.is, .int .i64 o.ve, .slice y.a o.ol.length y.c, .slice sa (o.sl.length + 1) sc] 32) := h_set (i := 8) r2 _
      have uC : (w5.setCell ⟨v1.heap.size, 8, none⟩ (.slice sa (o.sl.length + 1) sc)).heap[v3.heap.size]? = some (.cells #[.int .i64 c.dv, .int .i64 c.no, .int .i64 c.tk, .int .i64 c.tr, .int .i64 c.dy, .int .i64 c.sa] 58) := h_other (i := 8) rC (by omega) _
      have SW8 : Sw (w.heap.size + 1) v1.heap.size w5 (w5.setCell ⟨v1.heap.size, 8, none⟩ (.slice sa (o.sl.length + 1) sc)) := (Sw.refl _ _ _).two _
      have B8 : Below w.heap.size w (w5.setCell ⟨v1.heap.size, 8, none⟩ (.slice sa (o.sl.length + 1) sc)) := B6.setCell (show w.heap.size ≤ v1.heap.size by omega) _
      have x8 : w5.cell? ⟨v1.heap.size, 8, none⟩ = some (.slice y.b o.sl.length y.d) := cell_at r2 8
      have z8 : w5.frozen? ⟨v1.heap.size, 8, none⟩ = false := frozen_at r2 8
      have HNE : Hid (∀ k, (Value.slice sa (o.sl ++ [c]).length sc).ownBlock = some k → k ≠ v1.heap.size ∧ w.heap.size + 1 + 1 ≤ k) := fun k h => ⟨fun e => by rw [e] at h; exact Pk.own_ne' O6 r2 (by decide) h, by have := (O6.lt k h).1; omega⟩
      have HNO : Hid (∀ k, (Value.slice y.a o.ol.length y.c).ownBlock = some k → k ≠ v1.heap.size ∧ w.heap.size + 1 + 1 ≤ k) := fun k h => ⟨fun e => by rw [e] at h; exact Pk.own_ne' OF r2 (by decide) h, by have := (OF.lt k h).1; omega⟩
      have HN3 : Hid (v3.heap.size ≠ w.heap.size + 1 ∧ v1.heap.size ≠ w.heap.size + 1) := ⟨by omega, by omega⟩
      clear r1 r2 rC
      go_wp2
      generalize hW8 : (w5.setCell ⟨v1.heap.size, 8, none⟩ (.slice sa (o.sl.length + 1) sc)) = W8 at *
      have e0 : W8.cell? ⟨w.heap.size + 1, 0, none⟩ = some (.int .i64 0) := cell_at u1 0
      have e1 : W8.cell? ⟨w.heap.size + 1, 1, none⟩ = some (.int .i64 0) := cell_at u1 1
      have e2 : W8.cell? ⟨w.heap.size + 1, 2, none⟩ = some (.int .i64 0) := cell_at u1 2
      have e3 : W8.cell? ⟨w.heap.size + 1, 3, none⟩ = some (.int .i64 0) := cell_at u1 3
      have e4 : W8.cell? ⟨w.heap.size + 1, 4, none⟩ = some (.int .i64 0) := cell_at u1 4
      have e5 : W8.cell? ⟨w.heap.size + 1, 5, none⟩ = some (.int .i64 0) := cell_at u1 5
      have e6 : W8.cell? ⟨w.heap.size + 1, 6, none⟩ = some (.int .i64 0) := cell_at u1 6
      have e7 : W8.cell? ⟨w.heap.size + 1, 7, none⟩ = some (.slice none 0 0) := cell_at u1 7
      have e8 : W8.cell? ⟨w.heap.size + 1, 8, none⟩ = some (.slice none 0 0) := cell_at u1 8
      have f0 : W8.frozen? ⟨w.heap.size + 1, 0, none⟩ = false := frozen_at u1 0
      have f1 : W8.frozen? ⟨w.heap.size + 1, 1, none⟩ = false := frozen_at u1 1
      have f2 : W8.frozen? ⟨w.heap.size + 1, 2, none⟩ = false := frozen_at u1 2
      have f3 : W8.frozen? ⟨w.heap.size + 1, 3, none⟩ = false := frozen_at u1 3
      have f4 : W8.frozen? ⟨w.heap.size + 1, 4, none⟩ = false := frozen_at u1 4
      have f5 : W8.frozen? ⟨w.heap.size + 1, 5, none⟩ = false := frozen_at u1 5
      have f6 : W8.frozen? ⟨w.heap.size + 1, 6, none⟩ = false := frozen_at u1 6
      have f7 : W8.frozen? ⟨w.heap.size + 1, 7, none⟩ = false := frozen_at u1 7
      have f8 : W8.frozen? ⟨w.heap.size + 1, 8, none⟩ = false := frozen_at u1 8
      have g0 : W8.cell? ⟨v1.heap.size, 0, none⟩ = some (.int .i64 o.dv) := cell_at u2 0
      have g1 : W8.cell? ⟨v1.heap.size, 1, none⟩ = some (.int .i64 o.p) := cell_at u2 1
      have g2 : W8.cell? ⟨v1.heap.size, 2, none⟩ = some (.int .i64 o.q) := cell_at u2 2
      have g3 : W8.cell? ⟨v1.heap.size, 3, none⟩ = some (.int .i64 o.g) := cell_at u2 3
      have g4 : W8.cell? ⟨v1.heap.size, 4, none⟩ = some (.int .i64 o.op) := cell_at u2 4
      have g5 : W8.cell? ⟨v1.heap.size, 5, none⟩ = some (.int .i64 o.is) := cell_at u2 5
      have g6 : W8.cell? ⟨v1.heap.size, 6, none⟩ = some (.int .i64 o.ve) := cell_at u2 6
      have g7 : W8.cell? ⟨v1.heap.size, 7, none⟩ = some (.slice y.a o.ol.length y.c) := cell_at u2 7
      have g8 : W8.cell? ⟨v1.heap.size, 8, none⟩ = some (.slice sa (o.sl.length + 1) sc) := cell_at u2 8
      have j5 : W8.cell? ⟨v3.heap.size, 5, none⟩ = some (.int .i64 c.sa) := cell_at uC 5
      have HFIN : Hid (∀ W, Sw (w.heap.size + 1) v1.heap.size W8 W → Copied w.heap.size W ⟨y.a, y.c, sa, sc⟩ (insO true o c)) := fun W s => ⟨own_lower (own_sw OF (SW8.trans s) HNO.out) (by omega), own_lower (own_sw O6 (SW8.trans s) HNE.out) (by omega)⟩
      have HB : Hid (∀ W, Below w.heap.size W8 W → Below w.heap.size w W) := fun W l => B8.trans l
      clear u1 u2 uC SW8 B8 B6 O5 O6 OF HNE HNO C1 N3 hlt3 hl1 hg hsz hW8 x8 z8 HOL HZ eC eD h2
      have hne3 : v3.heap.size ≠ w.heap.size + 1 := HN3.out.1
      have hne1 : v1.heap.size ≠ w.heap.size + 1 := HN3.out.2
      go_region
      all_goals
        go_wp2
        refine bodyPost_ret (v := .tuple #[hnV ⟨y.a, y.c, sa, sc⟩ { o with sl := o.sl ++ [c] }, .int .i64 c.sa]) (by simp [results, Tryz.results8, go_sem, e0, e1, e2, e3, e4, e5, e6, e7, e8]) rfl ?_
        refine ⟨⟨y.a, y.c, sa, sc⟩, by rw [HV.out, HCE.out, HS.out] <;> rfl, ?_, HB.out _ ?_⟩
        · rw [HV.out, HCE.out]
          refine HFIN.out _ ?_
          (repeat' (first | with_reducible exact Sw.refl _ _ _ | with_reducible apply Sw.one | with_reducible apply Sw.drew | with_reducible apply Sw.two))
        · (repeat' (first | with_reducible exact Below.refl _ _ | with_reducible apply Below.drew | with_reducible apply Below.setCell)) <;> first | (simp; done) | (have := HL.out; simp; omega)
    · have HV : Hid (insB o tr dy = false) := ins_no2 h2
      have d2 : decide ((300 : Int) ≤ (o.sl.length : Int)) = true := decide_eq_true (by omega)
      clear h h2 HS KB
      go_enter Tryz.func8, Tryz.ntmps8
      go_wp2_with fail
      refine named fun V0 hV => ?_
      rw [← hV] at k0 k1 L hs
      clear hV
      refine (HC.out _ (I.on L)).mono ?_
      rintro e v1 ⟨y, rfl, C1, L1⟩
      have n0 := kept L1 (lt_of k0) k0
      have n1 := kept L1 (lt_of k1) k1
      have B1 := join_below L L1
      have hg : w.heap.size + 1 + 1 ≤ V0.heap.size := Nat.le_of_eq hs.symm
      have hl1 : V0.heap.size ≤ v1.heap.size := L1.size
      have NQ := new_below v1 (hnB y o 32)
      have q2 := heap_new v1 (hnB y o 32)
      have q0 := heap_old n0 (hnB y o 32)
      have q1 := heap_old n1 (hnB y o 32)
      have B2 := join_below B1 NQ
      have IV := I.on B2
      clear k0 k1 L L1 hs n0 n1
      have a0 : (v1.alloc (hnB y o 32)).cell? ⟨w.heap.size, 0, none⟩ = some (.int .i64 o.dv) := cell_at q0 0
      have a1 : (v1.alloc (hnB y o 32)).cell? ⟨w.heap.size, 1, none⟩ = some (.int .i64 o.p) := cell_at q0 1
      have a2 : (v1.alloc (hnB y o 32)).cell? ⟨w.heap.size, 2, none⟩ = some (.int .i64 o.q) := cell_at q0 2
      have a3 : (v1.alloc (hnB y o 32)).cell? ⟨w.heap.size, 3, none⟩ = some (.int .i64 o.g) := cell_at q0 3
      have a4 : (v1.alloc (hnB y o 32)).cell? ⟨w.heap.size, 4, none⟩ = some (.int .i64 o.op) := cell_at q0 4
      have a5 : (v1.alloc (hnB y o 32)).cell? ⟨w.heap.size, 5, none⟩ = some (.int .i64 o.is) := cell_at q0 5
      have a6 : (v1.alloc (hnB y o 32)).cell? ⟨w.heap.size, 6, none⟩ = some (.int .i64 o.ve) := cell_at q0 6
      have a7 : (v1.alloc (hnB y o 32)).cell? ⟨w.heap.size, 7, none⟩ = some (.slice x.a o.ol.length x.c) := cell_at q0 7
      have a8 : (v1.alloc (hnB y o 32)).cell? ⟨w.heap.size, 8, none⟩ = some (.slice x.b o.sl.length x.d) := cell_at q0 8
      go_wp2_with fail
      refine named fun V1 hV => ?_
      rw [← hV] at q0 q1 q2 B2 NQ IV
      clear hV a0 a1 a2 a3 a4 a5 a6 a7 a8
      refine (HH.out _ IV).mono ?_
      rintro e v2 ⟨rfl, L2⟩
      have m0 := kept L2 (lt_of q0) q0
      have m1 := kept L2 (lt_of q1) q1
      have m2 := kept L2 (lt_of q2) q2
      have B3 := join_below B2 L2
      have N2 : Below v1.heap.size v1 v2 := join_below NQ L2
      have hlt := lt_of m2
      have I2 := IV.on L2
      have HL : Hid (w.heap.size + 1 + 1 ≤ v1.heap.size) := by show _ ≤ _; omega
      clear q0 q1 q2 B1 B2 NQ IV L2
      have a8 : v2.cell? ⟨w.heap.size, 8, none⟩ = some (.slice x.b o.sl.length x.d) := cell_at m0 8
      have e0 : v2.cell? ⟨w.heap.size + 1, 0, none⟩ = some (.int .i64 0) := cell_at m1 0
      have e1 : v2.cell? ⟨w.heap.size + 1, 1, none⟩ = some (.int .i64 0) := cell_at m1 1
      have e2 : v2.cell? ⟨w.heap.size + 1, 2, none⟩ = some (.int .i64 0) := cell_at m1 2
      have e3 : v2.cell? ⟨w.heap.size + 1, 3, none⟩ = some (.int .i64 0) := cell_at m1 3
      have e4 : v2.cell? ⟨w.heap.size + 1, 4, none⟩ = some (.int .i64 0) := cell_at m1 4
      have e5 : v2.cell? ⟨w.heap.size + 1, 5, none⟩ = some (.int .i64 0) := cell_at m1 5
      have e6 : v2.cell? ⟨w.heap.size + 1, 6, none⟩ = some (.int .i64 0) := cell_at m1 6
      have e7 : v2.cell? ⟨w.heap.size + 1, 7, none⟩ = some (.slice none 0 0) := cell_at m1 7
      have e8 : v2.cell? ⟨w.heap.size + 1, 8, none⟩ = some (.slice none 0 0) := cell_at m1 8
      have f0 : v2.frozen? ⟨w.heap.size + 1, 0, none⟩ = false := frozen_at m1 0
      have f1 : v2.frozen? ⟨w.heap.size + 1, 1, none⟩ = false := frozen_at m1 1
      have f2 : v2.frozen? ⟨w.heap.size + 1, 2, none⟩ = false := frozen_at m1 2
      have f3 : v2.frozen? ⟨w.heap.size + 1, 3, none⟩ = false := frozen_at m1 3
      have f4 : v2.frozen? ⟨w.heap.size + 1, 4, none⟩ = false := frozen_at m1 4
      have f5 : v2.frozen? ⟨w.heap.size + 1, 5, none⟩ = false := frozen_at m1 5
      have f6 : v2.frozen? ⟨w.heap.size + 1, 6, none⟩ = false := frozen_at m1 6
      have f7 : v2.frozen? ⟨w.heap.size + 1, 7, none⟩ = false := frozen_at m1 7
      have f8 : v2.frozen? ⟨w.heap.size + 1, 8, none⟩ = false := frozen_at m1 8
      have g0 : v2.cell? ⟨v1.heap.size, 0, none⟩ = some (.int .i64 o.dv) := cell_at m2 0
      have g1 : v2.cell? ⟨v1.heap.size, 1, none⟩ = some (.int .i64 o.p) := cell_at m2 1
      have g2 : v2.cell? ⟨v1.heap.size, 2, none⟩ = some (.int .i64 o.q) := cell_at m2 2
      have g3 : v2.cell? ⟨v1.heap.size, 3, none⟩ = some (.int .i64 o.g) := cell_at m2 3
      have g4 : v2.cell? ⟨v1.heap.size, 4, none⟩ = some (.int .i64 o.op) := cell_at m2 4
      have g5 : v2.cell? ⟨v1.heap.size, 5, none⟩ = some (.int .i64 o.is) := cell_at m2 5
      have g6 : v2.cell? ⟨v1.heap.size, 6, none⟩ = some (.int .i64 o.ve) := cell_at m2 6
      have g7 : v2.cell? ⟨v1.heap.size, 7, none⟩ = some (.slice y.a o.ol.length y.c) := cell_at m2 7
      have g8 : v2.cell? ⟨v1.heap.size, 8, none⟩ = some (.slice y.b o.sl.length y.d) := cell_at m2 8
      have HFIN : Hid (∀ W, Sw (w.heap.size + 1) v1.heap.size v2 W → Copied w.heap.size W y (insO false o (ctlO o C RT RL tr dy))) := fun W s => (C1.keep (P := w.heap.size + 1) (by omega) (s.keep N2 (Nat.le_refl _) (Nat.le_refl _))).lower (by omega)
      have HB : Hid (∀ W, Below w.heap.size v2 W → Below w.heap.size w W) := fun W l => B3.trans l
      clear C1 m0 m1 m2 B3 N2 I2 hg hl1 hlt I HC HH HK
      go_wp2
      refine bodyPost_ret (v := .tuple #[hnV y (o), .int .i64 (1)]) (by simp [results, Tryz.results8, go_sem, e0, e1, e2, e3, e4, e5, e6, e7, e8]) rfl ?_
      refine ⟨y, by rw [HV.out] <;> rfl, ?_, HB.out _ ?_⟩
      · rw [HV.out]
        refine HFIN.out _ ?_
        (repeat' (first | with_reducible exact Sw.refl _ _ _ | with_reducible apply Sw.one | with_reducible apply Sw.two))
      · (repeat' (first | apply Below.setCell | exact Below.refl _ _)) <;> first | (simp; done) | (have := HL.out; simp; omega)

end Hn
end Go.Proofs.YtlgolnddhfadeabGreatDoor

/- HandUpdate of the model. -/
namespace Go.Proofs.YtlgolnddhfadeabGreatDoor
namespace Hn
open Go.ChangeShapes Go.WideShapes Go.ChangeAt Go.RowKit Go.Joins
open Pk (new_below join_below cell_at heap_new frozen_at lt_of kept heap_old Drawn info_of Room own_form own_below)
set_option linter.unusedSimpArgs false
set_option linter.unusedVariables false

/-- Nine cells of a block are written. -/
def put9 (w : World) (P : Nat) (v0 v1 v2 v3 v4 v5 v6 v7 v8 : Value) : World := ((((((((w.setCell ⟨P, 0, none⟩ v0).setCell ⟨P, 1, none⟩ v1).setCell ⟨P, 2, none⟩ v2).setCell ⟨P, 3, none⟩ v3).setCell ⟨P, 4, none⟩ v4).setCell ⟨P, 5, none⟩ v5).setCell ⟨P, 6, none⟩ v6).setCell ⟨P, 7, none⟩ v7).setCell ⟨P, 8, none⟩ v8

theorem put9_heap {w : World} {P : Nat} {a0 a1 a2 a3 a4 a5 a6 a7 a8 : Value} {t : TypeId} (h : w.heap[P]? = some (.cells #[a0, a1, a2, a3, a4, a5, a6, a7, a8] t (0, 0))) (v0 v1 v2 v3 v4 v5 v6 v7 v8 : Value) : (put9 w P v0 v1 v2 v3 v4 v5 v6 v7 v8).heap[P]? = some (.cells #[v0, v1, v2, v3, v4, v5, v6, v7, v8] t (0, 0)) := by
  unfold put9 World.setCell
  simp [Array.getElem?_modify, h]

theorem put9_other {w : World} {P k : Nat} (hk : k ≠ P) (v0 v1 v2 v3 v4 v5 v6 v7 v8 : Value) : (put9 w P v0 v1 v2 v3 v4 v5 v6 v7 v8).heap[k]? = w.heap[k]? := by
  unfold put9
  rw [Below.heap_setCell _ _ _ _ hk, Below.heap_setCell _ _ _ _ hk, Below.heap_setCell _ _ _ _ hk, Below.heap_setCell _ _ _ _ hk, Below.heap_setCell _ _ _ _ hk, Below.heap_setCell _ _ _ _ hk, Below.heap_setCell _ _ _ _ hk, Below.heap_setCell _ _ _ _ hk, Below.heap_setCell _ _ _ _ hk]

theorem put9_size (w : World) (P : Nat) (v0 v1 v2 v3 v4 v5 v6 v7 v8 : Value) : (put9 w P v0 v1 v2 v3 v4 v5 v6 v7 v8).heap.size = w.heap.size := by
  unfold put9
  rw [World.size_setCell, World.size_setCell, World.size_setCell, World.size_setCell, World.size_setCell, World.size_setCell, World.size_setCell, World.size_setCell, World.size_setCell]

theorem put9_below {B P : Nat} {a w : World} (h : Below B a w) (hP : B ≤ P) (v0 v1 v2 v3 v4 v5 v6 v7 v8 : Value) : Below B a (put9 w P v0 v1 v2 v3 v4 v5 v6 v7 v8) :=
  ((((((((h.setCell (p := ⟨P, 0, none⟩) hP _).setCell (p := ⟨P, 1, none⟩) hP _).setCell (p := ⟨P, 2, none⟩) hP _).setCell (p := ⟨P, 3, none⟩) hP _).setCell (p := ⟨P, 4, none⟩) hP _).setCell (p := ⟨P, 5, none⟩) hP _).setCell (p := ⟨P, 6, none⟩) hP _).setCell (p := ⟨P, 7, none⟩) hP _).setCell (p := ⟨P, 8, none⟩) hP _

end Hn
end Go.Proofs.YtlgolnddhfadeabGreatDoor

/- Inspect of the model. -/
namespace Go.Proofs.YtlgolnddhfadeabGreatDoor
namespace Hn
open Go.ChangeShapes Go.WideShapes Go.ChangeAt Go.RowKit Go.Joins
open Pk (new_below join_below cell_at heap_new frozen_at lt_of kept heap_old Drawn info_of Room own_form own_below)
open Tk (Lg Legs tkV tkB)
set_option linter.unusedSimpArgs false
set_option linter.unusedVariables false

set_option maxRecDepth 100000 in
set_option maxHeartbeats 2000000 in
theorem specIns_val (x : Pl) (o : Hnd) (s : ByteArray) {RT : Tk.Hd} {RN : ByteArray} {RL : List Lg} {C : Nat} (HR : ∀ W : World, Calls Tryz.prog 21 #[.agg #[.int .i64 o.p, .int .i64 o.q, .int .i64 o.g], .int .i64 o.op, .int .i64 o.is, .string s] W fun e w' => RdOk RT RN RL C W.heap.size e w' ∧ Below W.heap.size W w') (hC : C ≠ 0 → RT.id = 0) (tr dy : Int) (w : World) (hz : o.ol.length ≤ 1048576) (hz2 : o.sl.length ≤ 1048576) (hz3 : RL.length ≤ 1048576) (I : In w x o) (fl : Flat x) :
    Calls Tryz.prog 6 #[hnV x o, .string s, .int .i64 tr, .int .i64 dy] w fun e w' => ∃ y, e = .returned (.tuple #[hnV y (insO (insB o tr dy) o (ctlO o C RT RL tr dy)), .int .i64 (insC (insB o tr dy) (saidC o C RT RL tr dy) : Nat)]) ∧ Copied w.heap.size w' y (insO (insB o tr dy) o (ctlO o C RT RL tr dy)) ∧ Below w.heap.size w w' := by
  obtain ⟨k0, k1, hs⟩ := two_blocks w (hnB x o 32) (.cells #[.int .i64 0, .int .i64 0, .int .i64 0, .int .i64 0, .int .i64 0, .int .i64 0, .int .i64 0, .slice none 0 0, .slice none 0 0] 32)
  have L : Below w.heap.size w ((w.alloc (hnB x o 32)).alloc (.cells #[.int .i64 0, .int .i64 0, .int .i64 0, .int .i64 0, .int .i64 0, .int .i64 0, .int .i64 0, .slice none 0 0, .slice none 0 0] 32)) := join_below (new_below _ _) (new_below _ _)
  have HC : Hid (∀ W : World, In W x o → _) := fun W h => specCopy_val x o W hz hz2 h fl
  have HH : Hid (∀ (y : Pl) (W : World), In W y o → _) := fun y W h => specHand_val y o W hz hz2 h
  have HQ : Hid (∀ W : World, _) := fun W => specRide_val tr dy W
  have HRR : Hid (∀ W : World, Calls Tryz.prog 21 #[.agg #[.int .i64 o.p, .int .i64 o.q, .int .i64 o.g], .int .i64 o.op, .int .i64 o.is, .string s] W fun e w' => RdOk RT RN RL C W.heap.size e w' ∧ Below W.heap.size W w') := HR
  have HK : Hid (∀ (y : Pl) (W : World), In W y o → _) := fun y W h => specCheck_val y o s HR tr dy W hz hz2 hz3 h
  clear hz hz2 hz3 HR hC fl
  cases h : handB o
  · have HV : Hid (insB o tr dy = false) := ins_no1 (by unfold canB; rw [h]; rfl)
    rw [h] at HH
    clear h
    go_enter Tryz.func6, Tryz.ntmps6
    go_wp2_with fail
    refine named fun V0 hV => ?_
    rw [← hV] at k0 k1 L hs
    clear hV
    refine (HC.out _ (I.on L)).mono ?_
    rintro e v1 ⟨y, rfl, C1, L1⟩
    have n0 := kept L1 (lt_of k0) k0
    have n1 := kept L1 (lt_of k1) k1
    have B1 := join_below L L1
    have hg : w.heap.size + 1 + 1 ≤ V0.heap.size := Nat.le_of_eq hs.symm
    have hl1 : V0.heap.size ≤ v1.heap.size := L1.size
    have a0 : v1.cell? ⟨w.heap.size, 0, none⟩ = some (.int .i64 o.dv) := cell_at n0 0
    have a1 : v1.cell? ⟨w.heap.size, 1, none⟩ = some (.int .i64 o.p) := cell_at n0 1
    have a2 : v1.cell? ⟨w.heap.size, 2, none⟩ = some (.int .i64 o.q) := cell_at n0 2
    have a3 : v1.cell? ⟨w.heap.size, 3, none⟩ = some (.int .i64 o.g) := cell_at n0 3
    have a4 : v1.cell? ⟨w.heap.size, 4, none⟩ = some (.int .i64 o.op) := cell_at n0 4
    have a5 : v1.cell? ⟨w.heap.size, 5, none⟩ = some (.int .i64 o.is) := cell_at n0 5
    have a6 : v1.cell? ⟨w.heap.size, 6, none⟩ = some (.int .i64 o.ve) := cell_at n0 6
    have a7 : v1.cell? ⟨w.heap.size, 7, none⟩ = some (.slice x.a o.ol.length x.c) := cell_at n0 7
    have a8 : v1.cell? ⟨w.heap.size, 8, none⟩ = some (.slice x.b o.sl.length x.d) := cell_at n0 8
    have c0 : v1.frozen? ⟨w.heap.size, 0, none⟩ = false := frozen_at n0 0
    have c1 : v1.frozen? ⟨w.heap.size, 1, none⟩ = false := frozen_at n0 1
    have c2 : v1.frozen? ⟨w.heap.size, 2, none⟩ = false := frozen_at n0 2
    have c3 : v1.frozen? ⟨w.heap.size, 3, none⟩ = false := frozen_at n0 3
    have c4 : v1.frozen? ⟨w.heap.size, 4, none⟩ = false := frozen_at n0 4
    have c5 : v1.frozen? ⟨w.heap.size, 5, none⟩ = false := frozen_at n0 5
    have c6 : v1.frozen? ⟨w.heap.size, 6, none⟩ = false := frozen_at n0 6
    have c7 : v1.frozen? ⟨w.heap.size, 7, none⟩ = false := frozen_at n0 7
    have c8 : v1.frozen? ⟨w.heap.size, 8, none⟩ = false := frozen_at n0 8
    obtain ⟨V1, hV⟩ : ∃ V, V = (put9 v1 (w.heap.size) (.int .i64 o.dv) (.int .i64 o.p) (.int .i64 o.q) (.int .i64 o.g) (.int .i64 o.op) (.int .i64 o.is) (.int .i64 o.ve) (.slice y.a o.ol.length y.c) (.slice y.b o.sl.length y.d)) := ⟨_, rfl⟩
    have q0 : V1.heap[w.heap.size]? = some (hnB y o 32) := by rw [hV]; exact put9_heap n0 ..
    have q1 : V1.heap[w.heap.size + 1]? = some (.cells #[.int .i64 0, .int .i64 0, .int .i64 0, .int .i64 0, .int .i64 0, .int .i64 0, .int .i64 0, .slice none 0 0, .slice none 0 0] 32) := by rw [hV, put9_other (by omega)]; exact n1
    have SW : Sw (w.heap.size) (w.heap.size + 1) v1 V1 := by rw [hV]; exact ⟨put9_size .., fun b h1 _ => put9_other h1 ..⟩
    have C2 : Copied V0.heap.size V1 y o := ⟨SW.own C1.off (by omega) (by omega), SW.own C1.seen (by omega) (by omega)⟩
    have B2 : Below w.heap.size w V1 := by rw [hV]; exact put9_below B1 (Nat.le_refl _) ..
    have hl2 : V0.heap.size ≤ V1.heap.size := by rw [SW.size]; exact hl1
    have HV1 : Hid (V1 = (put9 v1 (w.heap.size) (.int .i64 o.dv) (.int .i64 o.p) (.int .i64 o.q) (.int .i64 o.g) (.int .i64 o.op) (.int .i64 o.is) (.int .i64 o.ve) (.slice y.a o.ol.length y.c) (.slice y.b o.sl.length y.d))) := hV
    clear k0 k1 L L1 hs n0 n1 C1 SW hl1 hV
    go_wp2_with fail
    refine named fun V hW => ?_
    obtain rfl : V = V1 := hW.trans HV1.out.symm
    clear hW HV1 B1 a0 a1 a2 a3 a4 a5 a6 a7 a8 c0 c1 c2 c3 c4 c5 c6 c7 c8
    refine (HH.out y _ C2.in).mono ?_
    rintro e v2 ⟨rfl, L2⟩
    have m0 := kept L2 (lt_of q0) q0
    have m1 := kept L2 (lt_of q1) q1
    have C3 := C2.on L2
    have B3 := join_below B2 L2
    have hl3 : V0.heap.size ≤ v2.heap.size := Nat.le_trans hl2 L2.size
    clear q0 q1 C2 B2 L2 hl2
    have HL : Hid (True) := trivial
    have e0 : v2.cell? ⟨w.heap.size + 1, 0, none⟩ = some (.int .i64 0) := cell_at m1 0
    have e1 : v2.cell? ⟨w.heap.size + 1, 1, none⟩ = some (.int .i64 0) := cell_at m1 1
    have e2 : v2.cell? ⟨w.heap.size + 1, 2, none⟩ = some (.int .i64 0) := cell_at m1 2
    have e3 : v2.cell? ⟨w.heap.size + 1, 3, none⟩ = some (.int .i64 0) := cell_at m1 3
    have e4 : v2.cell? ⟨w.heap.size + 1, 4, none⟩ = some (.int .i64 0) := cell_at m1 4
    have e5 : v2.cell? ⟨w.heap.size + 1, 5, none⟩ = some (.int .i64 0) := cell_at m1 5
    have e6 : v2.cell? ⟨w.heap.size + 1, 6, none⟩ = some (.int .i64 0) := cell_at m1 6
    have e7 : v2.cell? ⟨w.heap.size + 1, 7, none⟩ = some (.slice none 0 0) := cell_at m1 7
    have e8 : v2.cell? ⟨w.heap.size + 1, 8, none⟩ = some (.slice none 0 0) := cell_at m1 8
    have f0 : v2.frozen? ⟨w.heap.size + 1, 0, none⟩ = false := frozen_at m1 0
    have f1 : v2.frozen? ⟨w.heap.size + 1, 1, none⟩ = false := frozen_at m1 1
    have f2 : v2.frozen? ⟨w.heap.size + 1, 2, none⟩ = false := frozen_at m1 2
    have f3 : v2.frozen? ⟨w.heap.size + 1, 3, none⟩ = false := frozen_at m1 3
    have f4 : v2.frozen? ⟨w.heap.size + 1, 4, none⟩ = false := frozen_at m1 4
    have f5 : v2.frozen? ⟨w.heap.size + 1, 5, none⟩ = false := frozen_at m1 5
    have f6 : v2.frozen? ⟨w.heap.size + 1, 6, none⟩ = false := frozen_at m1 6
    have f7 : v2.frozen? ⟨w.heap.size + 1, 7, none⟩ = false := frozen_at m1 7
    have f8 : v2.frozen? ⟨w.heap.size + 1, 8, none⟩ = false := frozen_at m1 8
    have a0 : v2.cell? ⟨w.heap.size, 0, none⟩ = some (.int .i64 o.dv) := cell_at m0 0
    have a1 : v2.cell? ⟨w.heap.size, 1, none⟩ = some (.int .i64 o.p) := cell_at m0 1
    have a2 : v2.cell? ⟨w.heap.size, 2, none⟩ = some (.int .i64 o.q) := cell_at m0 2
    have a3 : v2.cell? ⟨w.heap.size, 3, none⟩ = some (.int .i64 o.g) := cell_at m0 3
    have a4 : v2.cell? ⟨w.heap.size, 4, none⟩ = some (.int .i64 o.op) := cell_at m0 4
    have a5 : v2.cell? ⟨w.heap.size, 5, none⟩ = some (.int .i64 o.is) := cell_at m0 5
    have a6 : v2.cell? ⟨w.heap.size, 6, none⟩ = some (.int .i64 o.ve) := cell_at m0 6
    have a7 : v2.cell? ⟨w.heap.size, 7, none⟩ = some (.slice y.a o.ol.length y.c) := cell_at m0 7
    have a8 : v2.cell? ⟨w.heap.size, 8, none⟩ = some (.slice y.b o.sl.length y.d) := cell_at m0 8
    have HFIN : Hid (∀ W, Sw (w.heap.size + 1) (w.heap.size) v2 W → Copied w.heap.size W y (insO false o (ctlO o C RT RL tr dy))) := fun W s => ⟨own_lower (s.own C3.off (by omega) (by omega)) (by omega), own_lower (s.own C3.seen (by omega) (by omega)) (by omega)⟩
    have HB : Hid (∀ W, Below w.heap.size v2 W → Below w.heap.size w W) := fun W l => B3.trans l
    clear B3 C3 m0 m1 hl3 hg I HC HH HQ HRR HK
    go_wp2
    refine bodyPost_ret (v := .tuple #[hnV y (o), .int .i64 (1)]) (by simp [results, Tryz.results6, go_sem, e0, e1, e2, e3, e4, e5, e6, e7, e8]) rfl ?_
    refine ⟨y, by rw [HV.out] <;> rfl, ?_, HB.out _ ?_⟩
    · rw [HV.out]
      refine HFIN.out _ ?_
      (repeat' (first | with_reducible exact Sw.refl _ _ _ | with_reducible apply Sw.one | with_reducible apply Sw.two))
    · (repeat' (first | apply Below.setCell | exact Below.refl _ _)) <;> first | (simp; done) | (have := HL.out; simp; omega)
  · rw [h] at HH
    cases h1 : rideB tr dy
    · have HV : Hid (insB o tr dy = false) := ins_no1 (by unfold canB; rw [h1, Bool.and_false])
      rw [h1] at HQ
      clear h h1
      go_enter Tryz.func6, Tryz.ntmps6
      go_wp2_with fail
      refine named fun V0 hV => ?_
      rw [← hV] at k0 k1 L hs
      clear hV
      refine (HC.out _ (I.on L)).mono ?_
      rintro e v1 ⟨y, rfl, C1, L1⟩
      have n0 := kept L1 (lt_of k0) k0
      have n1 := kept L1 (lt_of k1) k1
      have B1 := join_below L L1
      have hg : w.heap.size + 1 + 1 ≤ V0.heap.size := Nat.le_of_eq hs.symm
      have hl1 : V0.heap.size ≤ v1.heap.size := L1.size
      have a0 : v1.cell? ⟨w.heap.size, 0, none⟩ = some (.int .i64 o.dv) := cell_at n0 0
      have a1 : v1.cell? ⟨w.heap.size, 1, none⟩ = some (.int .i64 o.p) := cell_at n0 1
      have a2 : v1.cell? ⟨w.heap.size, 2, none⟩ = some (.int .i64 o.q) := cell_at n0 2
      have a3 : v1.cell? ⟨w.heap.size, 3, none⟩ = some (.int .i64 o.g) := cell_at n0 3
      have a4 : v1.cell? ⟨w.heap.size, 4, none⟩ = some (.int .i64 o.op) := cell_at n0 4
      have a5 : v1.cell? ⟨w.heap.size, 5, none⟩ = some (.int .i64 o.is) := cell_at n0 5
      have a6 : v1.cell? ⟨w.heap.size, 6, none⟩ = some (.int .i64 o.ve) := cell_at n0 6
      have a7 : v1.cell? ⟨w.heap.size, 7, none⟩ = some (.slice x.a o.ol.length x.c) := cell_at n0 7
      have a8 : v1.cell? ⟨w.heap.size, 8, none⟩ = some (.slice x.b o.sl.length x.d) := cell_at n0 8
      have c0 : v1.frozen? ⟨w.heap.size, 0, none⟩ = false := frozen_at n0 0
      have c1 : v1.frozen? ⟨w.heap.size, 1, none⟩ = false := frozen_at n0 1
      have c2 : v1.frozen? ⟨w.heap.size, 2, none⟩ = false := frozen_at n0 2
      have c3 : v1.frozen? ⟨w.heap.size, 3, none⟩ = false := frozen_at n0 3
      have c4 : v1.frozen? ⟨w.heap.size, 4, none⟩ = false := frozen_at n0 4
      have c5 : v1.frozen? ⟨w.heap.size, 5, none⟩ = false := frozen_at n0 5
      have c6 : v1.frozen? ⟨w.heap.size, 6, none⟩ = false := frozen_at n0 6
      have c7 : v1.frozen? ⟨w.heap.size, 7, none⟩ = false := frozen_at n0 7
      have c8 : v1.frozen? ⟨w.heap.size, 8, none⟩ = false := frozen_at n0 8
      obtain ⟨V1, hV⟩ : ∃ V, V = (put9 v1 (w.heap.size) (.int .i64 o.dv) (.int .i64 o.p) (.int .i64 o.q) (.int .i64 o.g) (.int .i64 o.op) (.int .i64 o.is) (.int .i64 o.ve) (.slice y.a o.ol.length y.c) (.slice y.b o.sl.length y.d)) := ⟨_, rfl⟩
      have q0 : V1.heap[w.heap.size]? = some (hnB y o 32) := by rw [hV]; exact put9_heap n0 ..
      have q1 : V1.heap[w.heap.size + 1]? = some (.cells #[.int .i64 0, .int .i64 0, .int .i64 0, .int .i64 0, .int .i64 0, .int .i64 0, .int .i64 0, .slice none 0 0, .slice none 0 0] 32) := by rw [hV, put9_other (by omega)]; exact n1
      have SW : Sw (w.heap.size) (w.heap.size + 1) v1 V1 := by rw [hV]; exact ⟨put9_size .., fun b h1 _ => put9_other h1 ..⟩
      have C2 : Copied V0.heap.size V1 y o := ⟨SW.own C1.off (by omega) (by omega), SW.own C1.seen (by omega) (by omega)⟩
      have B2 : Below w.heap.size w V1 := by rw [hV]; exact put9_below B1 (Nat.le_refl _) ..
      have hl2 : V0.heap.size ≤ V1.heap.size := by rw [SW.size]; exact hl1
      have HV1 : Hid (V1 = (put9 v1 (w.heap.size) (.int .i64 o.dv) (.int .i64 o.p) (.int .i64 o.q) (.int .i64 o.g) (.int .i64 o.op) (.int .i64 o.is) (.int .i64 o.ve) (.slice y.a o.ol.length y.c) (.slice y.b o.sl.length y.d))) := hV
      clear k0 k1 L L1 hs n0 n1 C1 SW hl1 hV
      go_wp2_with fail
      refine named fun V hW => ?_
      obtain rfl : V = V1 := hW.trans HV1.out.symm
      clear hW HV1 B1 a0 a1 a2 a3 a4 a5 a6 a7 a8 c0 c1 c2 c3 c4 c5 c6 c7 c8
      refine (HH.out y _ C2.in).mono ?_
      rintro e v2 ⟨rfl, L2⟩
      have m0 := kept L2 (lt_of q0) q0
      have m1 := kept L2 (lt_of q1) q1
      have C3 := C2.on L2
      have B3 := join_below B2 L2
      have hl3 : V0.heap.size ≤ v2.heap.size := Nat.le_trans hl2 L2.size
      clear q0 q1 C2 B2 L2 hl2
      have HL : Hid (True) := trivial
      have a8 : v2.cell? ⟨w.heap.size, 8, none⟩ = some (.slice y.b o.sl.length y.d) := cell_at m0 8
      go_wp2_with fail
      refine (HQ.out _).mono ?_
      rintro e v3 ⟨rfl, rfl⟩
      clear a8
      have e0 : v3.cell? ⟨w.heap.size + 1, 0, none⟩ = some (.int .i64 0) := cell_at m1 0
      have e1 : v3.cell? ⟨w.heap.size + 1, 1, none⟩ = some (.int .i64 0) := cell_at m1 1
      have e2 : v3.cell? ⟨w.heap.size + 1, 2, none⟩ = some (.int .i64 0) := cell_at m1 2
      have e3 : v3.cell? ⟨w.heap.size + 1, 3, none⟩ = some (.int .i64 0) := cell_at m1 3
      have e4 : v3.cell? ⟨w.heap.size + 1, 4, none⟩ = some (.int .i64 0) := cell_at m1 4
      have e5 : v3.cell? ⟨w.heap.size + 1, 5, none⟩ = some (.int .i64 0) := cell_at m1 5
      have e6 : v3.cell? ⟨w.heap.size + 1, 6, none⟩ = some (.int .i64 0) := cell_at m1 6
      have e7 : v3.cell? ⟨w.heap.size + 1, 7, none⟩ = some (.slice none 0 0) := cell_at m1 7
      have e8 : v3.cell? ⟨w.heap.size + 1, 8, none⟩ = some (.slice none 0 0) := cell_at m1 8
      have f0 : v3.frozen? ⟨w.heap.size + 1, 0, none⟩ = false := frozen_at m1 0
      have f1 : v3.frozen? ⟨w.heap.size + 1, 1, none⟩ = false := frozen_at m1 1
      have f2 : v3.frozen? ⟨w.heap.size + 1, 2, none⟩ = false := frozen_at m1 2
      have f3 : v3.frozen? ⟨w.heap.size + 1, 3, none⟩ = false := frozen_at m1 3
      have f4 : v3.frozen? ⟨w.heap.size + 1, 4, none⟩ = false := frozen_at m1 4
      have f5 : v3.frozen? ⟨w.heap.size + 1, 5, none⟩ = false := frozen_at m1 5
      have f6 : v3.frozen? ⟨w.heap.size + 1, 6, none⟩ = false := frozen_at m1 6
      have f7 : v3.frozen? ⟨w.heap.size + 1, 7, none⟩ = false := frozen_at m1 7
      have f8 : v3.frozen? ⟨w.heap.size + 1, 8, none⟩ = false := frozen_at m1 8
      have a0 : v3.cell? ⟨w.heap.size, 0, none⟩ = some (.int .i64 o.dv) := cell_at m0 0
      have a1 : v3.cell? ⟨w.heap.size, 1, none⟩ = some (.int .i64 o.p) := cell_at m0 1
      have a2 : v3.cell? ⟨w.heap.size, 2, none⟩ = some (.int .i64 o.q) := cell_at m0 2
      have a3 : v3.cell? ⟨w.heap.size, 3, none⟩ = some (.int .i64 o.g) := cell_at m0 3
      have a4 : v3.cell? ⟨w.heap.size, 4, none⟩ = some (.int .i64 o.op) := cell_at m0 4
      have a5 : v3.cell? ⟨w.heap.size, 5, none⟩ = some (.int .i64 o.is) := cell_at m0 5
      have a6 : v3.cell? ⟨w.heap.size, 6, none⟩ = some (.int .i64 o.ve) := cell_at m0 6
      have a7 : v3.cell? ⟨w.heap.size, 7, none⟩ = some (.slice y.a o.ol.length y.c) := cell_at m0 7
      have a8 : v3.cell? ⟨w.heap.size, 8, none⟩ = some (.slice y.b o.sl.length y.d) := cell_at m0 8
      have HFIN : Hid (∀ W, Sw (w.heap.size + 1) (w.heap.size) v3 W → Copied w.heap.size W y (insO false o (ctlO o C RT RL tr dy))) := fun W s => ⟨own_lower (s.own C3.off (by omega) (by omega)) (by omega), own_lower (s.own C3.seen (by omega) (by omega)) (by omega)⟩
      have HB : Hid (∀ W, Below w.heap.size v3 W → Below w.heap.size w W) := fun W l => B3.trans l
      clear B3 C3 m0 m1 hl3 hg I HC HH HQ HRR HK
      go_wp2
      refine bodyPost_ret (v := .tuple #[hnV y (o), .int .i64 (1)]) (by simp [results, Tryz.results6, go_sem, e0, e1, e2, e3, e4, e5, e6, e7, e8]) rfl ?_
      refine ⟨y, by rw [HV.out] <;> rfl, ?_, HB.out _ ?_⟩
      · rw [HV.out]
        refine HFIN.out _ ?_
        (repeat' (first | with_reducible exact Sw.refl _ _ _ | with_reducible apply Sw.one | with_reducible apply Sw.two))
      · (repeat' (first | apply Below.setCell | exact Below.refl _ _)) <;> first | (simp; done) | (have := HL.out; simp; omega)
    · rw [h1] at HQ
      by_cases h2 : o.sl.length < 300
      · have HV : Hid (insB o tr dy = true) := ins_ok (by unfold canB; rw [h, h1]; rfl) h2
        have HKY : Hid (ckC o C RT RL tr dy = saidC o C RT RL tr dy) := ck_yes (by unfold canB; rw [h, h1]; rfl)
        have d2 : decide ((300 : Int) ≤ (o.sl.length : Int)) = false := decide_eq_false (by omega)
        clear h h1
        go_enter Tryz.func6, Tryz.ntmps6
        go_wp2_with fail
        refine named fun V0 hV => ?_
        rw [← hV] at k0 k1 L hs
        clear hV
        refine (HC.out _ (I.on L)).mono ?_
        rintro e v1 ⟨y, rfl, C1, L1⟩
        have n0 := kept L1 (lt_of k0) k0
        have n1 := kept L1 (lt_of k1) k1
        have B1 := join_below L L1
        have hg : w.heap.size + 1 + 1 ≤ V0.heap.size := Nat.le_of_eq hs.symm
        have hl1 : V0.heap.size ≤ v1.heap.size := L1.size
        have a0 : v1.cell? ⟨w.heap.size, 0, none⟩ = some (.int .i64 o.dv) := cell_at n0 0
        have a1 : v1.cell? ⟨w.heap.size, 1, none⟩ = some (.int .i64 o.p) := cell_at n0 1
        have a2 : v1.cell? ⟨w.heap.size, 2, none⟩ = some (.int .i64 o.q) := cell_at n0 2
        have a3 : v1.cell? ⟨w.heap.size, 3, none⟩ = some (.int .i64 o.g) := cell_at n0 3
        have a4 : v1.cell? ⟨w.heap.size, 4, none⟩ = some (.int .i64 o.op) := cell_at n0 4
        have a5 : v1.cell? ⟨w.heap.size, 5, none⟩ = some (.int .i64 o.is) := cell_at n0 5
        have a6 : v1.cell? ⟨w.heap.size, 6, none⟩ = some (.int .i64 o.ve) := cell_at n0 6
        have a7 : v1.cell? ⟨w.heap.size, 7, none⟩ = some (.slice x.a o.ol.length x.c) := cell_at n0 7
        have a8 : v1.cell? ⟨w.heap.size, 8, none⟩ = some (.slice x.b o.sl.length x.d) := cell_at n0 8
        have c0 : v1.frozen? ⟨w.heap.size, 0, none⟩ = false := frozen_at n0 0
        have c1 : v1.frozen? ⟨w.heap.size, 1, none⟩ = false := frozen_at n0 1
        have c2 : v1.frozen? ⟨w.heap.size, 2, none⟩ = false := frozen_at n0 2
        have c3 : v1.frozen? ⟨w.heap.size, 3, none⟩ = false := frozen_at n0 3
        have c4 : v1.frozen? ⟨w.heap.size, 4, none⟩ = false := frozen_at n0 4
        have c5 : v1.frozen? ⟨w.heap.size, 5, none⟩ = false := frozen_at n0 5
        have c6 : v1.frozen? ⟨w.heap.size, 6, none⟩ = false := frozen_at n0 6
        have c7 : v1.frozen? ⟨w.heap.size, 7, none⟩ = false := frozen_at n0 7
        have c8 : v1.frozen? ⟨w.heap.size, 8, none⟩ = false := frozen_at n0 8
        obtain ⟨V1, hV⟩ : ∃ V, V = (put9 v1 (w.heap.size) (.int .i64 o.dv) (.int .i64 o.p) (.int .i64 o.q) (.int .i64 o.g) (.int .i64 o.op) (.int .i64 o.is) (.int .i64 o.ve) (.slice y.a o.ol.length y.c) (.slice y.b o.sl.length y.d)) := ⟨_, rfl⟩
        have q0 : V1.heap[w.heap.size]? = some (hnB y o 32) := by rw [hV]; exact put9_heap n0 ..
        have q1 : V1.heap[w.heap.size + 1]? = some (.cells #[.int .i64 0, .int .i64 0, .int .i64 0, .int .i64 0, .int .i64 0, .int .i64 0, .int .i64 0, .slice none 0 0, .slice none 0 0] 32) := by rw [hV, put9_other (by omega)]; exact n1
        have SW : Sw (w.heap.size) (w.heap.size + 1) v1 V1 := by rw [hV]; exact ⟨put9_size .., fun b h1 _ => put9_other h1 ..⟩
        have C2 : Copied V0.heap.size V1 y o := ⟨SW.own C1.off (by omega) (by omega), SW.own C1.seen (by omega) (by omega)⟩
        have B2 : Below w.heap.size w V1 := by rw [hV]; exact put9_below B1 (Nat.le_refl _) ..
        have hl2 : V0.heap.size ≤ V1.heap.size := by rw [SW.size]; exact hl1
        have HV1 : Hid (V1 = (put9 v1 (w.heap.size) (.int .i64 o.dv) (.int .i64 o.p) (.int .i64 o.q) (.int .i64 o.g) (.int .i64 o.op) (.int .i64 o.is) (.int .i64 o.ve) (.slice y.a o.ol.length y.c) (.slice y.b o.sl.length y.d))) := hV
        clear k0 k1 L L1 hs n0 n1 C1 SW hl1 hV
        go_wp2_with fail
        refine named fun V hW => ?_
        obtain rfl : V = V1 := hW.trans HV1.out.symm
        clear hW HV1 B1 a0 a1 a2 a3 a4 a5 a6 a7 a8 c0 c1 c2 c3 c4 c5 c6 c7 c8
        refine (HH.out y _ C2.in).mono ?_
        rintro e v2 ⟨rfl, L2⟩
        have m0 := kept L2 (lt_of q0) q0
        have m1 := kept L2 (lt_of q1) q1
        have C3 := C2.on L2
        have B3 := join_below B2 L2
        have hl3 : V0.heap.size ≤ v2.heap.size := Nat.le_trans hl2 L2.size
        clear q0 q1 C2 B2 L2 hl2
        have HL : Hid (True) := trivial
        have a8 : v2.cell? ⟨w.heap.size, 8, none⟩ = some (.slice y.b o.sl.length y.d) := cell_at m0 8
        go_wp2_with fail
        refine (HQ.out _).mono ?_
        rintro e v3 ⟨rfl, rfl⟩
        clear a8
        have a0 : v3.cell? ⟨w.heap.size, 0, none⟩ = some (.int .i64 o.dv) := cell_at m0 0
        have a1 : v3.cell? ⟨w.heap.size, 1, none⟩ = some (.int .i64 o.p) := cell_at m0 1
        have a2 : v3.cell? ⟨w.heap.size, 2, none⟩ = some (.int .i64 o.q) := cell_at m0 2
        have a3 : v3.cell? ⟨w.heap.size, 3, none⟩ = some (.int .i64 o.g) := cell_at m0 3
        have a4 : v3.cell? ⟨w.heap.size, 4, none⟩ = some (.int .i64 o.op) := cell_at m0 4
        have a5 : v3.cell? ⟨w.heap.size, 5, none⟩ = some (.int .i64 o.is) := cell_at m0 5
        have a6 : v3.cell? ⟨w.heap.size, 6, none⟩ = some (.int .i64 o.ve) := cell_at m0 6
        have a7 : v3.cell? ⟨w.heap.size, 7, none⟩ = some (.slice y.a o.ol.length y.c) := cell_at m0 7
        have a8 : v3.cell? ⟨w.heap.size, 8, none⟩ = some (.slice y.b o.sl.length y.d) := cell_at m0 8
        go_wp2_with fail
        refine (HRR.out _).mono ?_
        rintro e v4 ⟨⟨ra, rc, rfl, -, -⟩, L4⟩
        have p0 := kept L4 (lt_of m0) m0
        have p1 := kept L4 (lt_of m1) m1
        have C4 := C3.on L4
        have B4 := join_below B3 L4
        have hl4 : V0.heap.size ≤ v4.heap.size := Nat.le_trans hl3 L4.size
        clear a0 a1 a2 a3 a4 a5 a6 a7 a8 m0 m1 C3 B3 hl3 L4
        have NT := new_below v4 (tkB RT RN ra RL.length rc 53)
        have qT := heap_new v4 (tkB RT RN ra RL.length rc 53)
        have q0 := heap_old p0 (tkB RT RN ra RL.length rc 53)
        have q1 := heap_old p1 (tkB RT RN ra RL.length rc 53)
        have C5 := C4.on NT
        have B5 := join_below B4 NT
        have a0 : (v4.alloc (tkB RT RN ra RL.length rc 53)).cell? ⟨w.heap.size, 0, none⟩ = some (.int .i64 o.dv) := cell_at q0 0
        have a1 : (v4.alloc (tkB RT RN ra RL.length rc 53)).cell? ⟨w.heap.size, 1, none⟩ = some (.int .i64 o.p) := cell_at q0 1
        have a2 : (v4.alloc (tkB RT RN ra RL.length rc 53)).cell? ⟨w.heap.size, 2, none⟩ = some (.int .i64 o.q) := cell_at q0 2
        have a3 : (v4.alloc (tkB RT RN ra RL.length rc 53)).cell? ⟨w.heap.size, 3, none⟩ = some (.int .i64 o.g) := cell_at q0 3
        have a4 : (v4.alloc (tkB RT RN ra RL.length rc 53)).cell? ⟨w.heap.size, 4, none⟩ = some (.int .i64 o.op) := cell_at q0 4
        have a5 : (v4.alloc (tkB RT RN ra RL.length rc 53)).cell? ⟨w.heap.size, 5, none⟩ = some (.int .i64 o.is) := cell_at q0 5
        have a6 : (v4.alloc (tkB RT RN ra RL.length rc 53)).cell? ⟨w.heap.size, 6, none⟩ = some (.int .i64 o.ve) := cell_at q0 6
        have a7 : (v4.alloc (tkB RT RN ra RL.length rc 53)).cell? ⟨w.heap.size, 7, none⟩ = some (.slice y.a o.ol.length y.c) := cell_at q0 7
        have a8 : (v4.alloc (tkB RT RN ra RL.length rc 53)).cell? ⟨w.heap.size, 8, none⟩ = some (.slice y.b o.sl.length y.d) := cell_at q0 8
        clear p0 p1 C4 B4
        go_wp2_with fail
        refine named fun V5 hV => ?_
        rw [← hV] at qT q0 q1 C5 B5 NT
        clear hV a0 a1 a2 a3 a4 a5 a6 a7 a8
        refine (HK.out y _ C5.in).mono ?_
        rintro e v6 ⟨rfl, L6⟩
        have r0 := kept L6 (lt_of q0) q0
        have r1 := kept L6 (lt_of q1) q1
        have rT := kept L6 (lt_of qT) qT
        have C6 := C5.on L6
        have B6 := join_below B5 L6
        have hl6 : V0.heap.size ≤ v6.heap.size := by have := NT.size; have := L6.size; omega
        have HSL : Hid (V0.heap.size ≤ v4.heap.size) := hl4
        have hS6 : v4.heap.size < v6.heap.size := by have := lt_of rT; omega
        clear q0 q1 qT C5 B5 L6 NT
        have HCE : Hid ((⟨o.dv, (o.sl.length : Int) + 1, RT.id, tr, dy, (ckC o C RT RL tr dy : Nat)⟩ : Ct) = ctlO o C RT RL tr dy) := by show _ = _; unfold ctlO; rw [HKY.out]
        have HSE : Hid ((ckC o C RT RL tr dy : Nat) = saidC o C RT RL tr dy) := HKY.out
        generalize hk : ckC o C RT RL tr dy = kk at *
        have ND := new_below v6 (.cells #[.int .i64 o.dv, .int .i64 ((o.sl.length : Int) + 1), .int .i64 RT.id, .int .i64 tr, .int .i64 dy, .int .i64 (kk : Nat)] 58)
        have sD := heap_new v6 (.cells #[.int .i64 o.dv, .int .i64 ((o.sl.length : Int) + 1), .int .i64 RT.id, .int .i64 tr, .int .i64 dy, .int .i64 (kk : Nat)] 58)
        have s0 := heap_old r0 (.cells #[.int .i64 o.dv, .int .i64 ((o.sl.length : Int) + 1), .int .i64 RT.id, .int .i64 tr, .int .i64 dy, .int .i64 (kk : Nat)] 58)
        have s1 := heap_old r1 (.cells #[.int .i64 o.dv, .int .i64 ((o.sl.length : Int) + 1), .int .i64 RT.id, .int .i64 tr, .int .i64 dy, .int .i64 (kk : Nat)] 58)
        have OS := own_below C6.seen ND (Nat.le_refl _)
        have OO := own_below C6.off ND (Nat.le_refl _)
        have HOL : Hid (∀ k, (Value.slice y.b o.sl.length y.d).ownBlock = some k → V0.heap.size ≤ k ∧ k < v6.heap.size) := fun k h => C6.seen.lt k h
        have B7 : Below w.heap.size w (v6.alloc (.cells #[.int .i64 o.dv, .int .i64 ((o.sl.length : Int) + 1), .int .i64 RT.id, .int .i64 tr, .int .i64 dy, .int .i64 (kk : Nat)] 58)) := join_below B6 ND
        have hC5 : V0.heap.size ≤ (v6.alloc (.cells #[.int .i64 o.dv, .int .i64 ((o.sl.length : Int) + 1), .int .i64 RT.id, .int .i64 tr, .int .i64 dy, .int .i64 (kk : Nat)] 58)).heap.size := Nat.le_trans hl6 ND.size
        have HG : Hid (∀ j u, (cc1 (⟨o.dv, (o.sl.length : Int) + 1, RT.id, tr, dy, (kk : Nat)⟩ : Ct))[j]? = some u → (v6.alloc (.cells #[.int .i64 o.dv, .int .i64 ((o.sl.length : Int) + 1), .int .i64 RT.id, .int .i64 tr, .int .i64 dy, .int .i64 (kk : Nat)] 58)).cell? (Addr.add ⟨v6.heap.size, 0, none⟩ j) = some u) := by
          intro j u hu
          rw [add_plain, Nat.zero_add, cell_at sD j, ← hu]
          simp [cc1]
        have HZ : Hid (o.sl.length < 300) := h2
        obtain ⟨i0, hi, hy0, hy1, hy2⟩ := info_of info_control
        have x0 : v6.cell? ⟨w.heap.size, 0, none⟩ = some (.int .i64 o.dv) := cell_at r0 0
        have x8 : v6.cell? ⟨w.heap.size, 8, none⟩ = some (.slice y.b o.sl.length y.d) := cell_at r0 8
        have t0 : v6.cell? ⟨v4.heap.size, 0, none⟩ = some (.int .i64 RT.id) := cell_at rT 0
        go_wp2_with (at_builtin; refine wpList_append_own_at _ rfl _ _ 30 rfl V0.heap.size 58 i0 (lgV ⟨0, 0, 0, 0, 0, 0⟩) 6 48 Tryz.underlying30 hi hy0 hy1 hy2 rfl (by decide) _ _ _ rfl OS ⟨v6.heap.size, 0, none⟩ 1 1 (cc1 (⟨o.dv, (o.sl.length : Int) + 1, RT.id, tr, dy, (kk : Nat)⟩ : Ct)) rfl ?d0 ?d1 ?d2 ?d3 ?d4 ?d5 ?_)
        case d0 => rfl
        case d1 => exact HG.out
        case d2 => intro u hu; simp only [cc1, List.mem_cons, List.not_mem_nil, or_false] at hu; rcases hu with rfl | rfl | rfl | rfl | rfl | rfl <;> rfl
        case d3 => have := HZ.out; unfold maxLen; omega
        case d4 => have := HZ.out; omega
        case d5 => exact hC5
        intro v' w5 O5 G5 _ _
        rw [ccells_snoc] at O5
        obtain ⟨sa, sc, rfl, -⟩ := own_form O5
        have O6 : w5.ownsRow V0.heap.size 58 6 (.slice sa (o.sl ++ [(⟨o.dv, (o.sl.length : Int) + 1, RT.id, tr, dy, (kk : Nat)⟩ : Ct)]).length sc) (o.sl ++ [(⟨o.dv, (o.sl.length : Int) + 1, RT.id, tr, dy, (kk : Nat)⟩ : Ct)]).length (ccells (o.sl ++ [(⟨o.dv, (o.sl.length : Int) + 1, RT.id, tr, dy, (kk : Nat)⟩ : Ct)])) := by rw [show (o.sl ++ [(⟨o.dv, (o.sl.length : Int) + 1, RT.id, tr, dy, (kk : Nat)⟩ : Ct)]).length = o.sl.length + 1 by simp]; exact O5
        have OF := off_grown OO OS G5
        have u0 := grown_at G5 s0 (fun e => by have := (HOL.out _ e.symm).1; omega)
        have u1 := grown_at G5 s1 (fun e => by have := (HOL.out _ e.symm).1; omega)
        have B8 : Below w.heap.size w w5 := B7.grown G5 B7.size (fun k h => by have := (HOL.out k h).1; omega)
        clear G5 OS OO HG hi hy0 hy1 hy2 ND s0 s1 sD B7 hC5 B6 r0 r1 rT x0 x8 t0 C6 HOL
        have e0 : w5.cell? ⟨w.heap.size + 1, 0, none⟩ = some (.int .i64 0) := cell_at u1 0
        have e1 : w5.cell? ⟨w.heap.size + 1, 1, none⟩ = some (.int .i64 0) := cell_at u1 1
        have e2 : w5.cell? ⟨w.heap.size + 1, 2, none⟩ = some (.int .i64 0) := cell_at u1 2
        have e3 : w5.cell? ⟨w.heap.size + 1, 3, none⟩ = some (.int .i64 0) := cell_at u1 3
        have e4 : w5.cell? ⟨w.heap.size + 1, 4, none⟩ = some (.int .i64 0) := cell_at u1 4
        have e5 : w5.cell? ⟨w.heap.size + 1, 5, none⟩ = some (.int .i64 0) := cell_at u1 5
        have e6 : w5.cell? ⟨w.heap.size + 1, 6, none⟩ = some (.int .i64 0) := cell_at u1 6
        have e7 : w5.cell? ⟨w.heap.size + 1, 7, none⟩ = some (.slice none 0 0) := cell_at u1 7
        have e8 : w5.cell? ⟨w.heap.size + 1, 8, none⟩ = some (.slice none 0 0) := cell_at u1 8
        have f0 : w5.frozen? ⟨w.heap.size + 1, 0, none⟩ = false := frozen_at u1 0
        have f1 : w5.frozen? ⟨w.heap.size + 1, 1, none⟩ = false := frozen_at u1 1
        have f2 : w5.frozen? ⟨w.heap.size + 1, 2, none⟩ = false := frozen_at u1 2
        have f3 : w5.frozen? ⟨w.heap.size + 1, 3, none⟩ = false := frozen_at u1 3
        have f4 : w5.frozen? ⟨w.heap.size + 1, 4, none⟩ = false := frozen_at u1 4
        have f5 : w5.frozen? ⟨w.heap.size + 1, 5, none⟩ = false := frozen_at u1 5
        have f6 : w5.frozen? ⟨w.heap.size + 1, 6, none⟩ = false := frozen_at u1 6
        have f7 : w5.frozen? ⟨w.heap.size + 1, 7, none⟩ = false := frozen_at u1 7
        have f8 : w5.frozen? ⟨w.heap.size + 1, 8, none⟩ = false := frozen_at u1 8
        have a0 : w5.cell? ⟨w.heap.size, 0, none⟩ = some (.int .i64 o.dv) := cell_at u0 0
        have a1 : w5.cell? ⟨w.heap.size, 1, none⟩ = some (.int .i64 o.p) := cell_at u0 1
        have a2 : w5.cell? ⟨w.heap.size, 2, none⟩ = some (.int .i64 o.q) := cell_at u0 2
        have a3 : w5.cell? ⟨w.heap.size, 3, none⟩ = some (.int .i64 o.g) := cell_at u0 3
        have a4 : w5.cell? ⟨w.heap.size, 4, none⟩ = some (.int .i64 o.op) := cell_at u0 4
        have a5 : w5.cell? ⟨w.heap.size, 5, none⟩ = some (.int .i64 o.is) := cell_at u0 5
        have a6 : w5.cell? ⟨w.heap.size, 6, none⟩ = some (.int .i64 o.ve) := cell_at u0 6
        have a7 : w5.cell? ⟨w.heap.size, 7, none⟩ = some (.slice y.a o.ol.length y.c) := cell_at u0 7
        have a8 : w5.cell? ⟨w.heap.size, 8, none⟩ = some (.slice y.b o.sl.length y.d) := cell_at u0 8
        have c8 : w5.frozen? ⟨w.heap.size, 8, none⟩ = false := frozen_at u0 8
        have HNE : Hid (∀ k, (Value.slice sa (o.sl ++ [(⟨o.dv, (o.sl.length : Int) + 1, RT.id, tr, dy, (kk : Nat)⟩ : Ct)]).length sc).ownBlock = some k → k ≠ w.heap.size ∧ w.heap.size + 1 + 1 ≤ k) := fun k h => by have := (O6.lt k h).1; exact ⟨by omega, by omega⟩
        have HNO : Hid (∀ k, (Value.slice y.a o.ol.length y.c).ownBlock = some k → k ≠ w.heap.size ∧ w.heap.size + 1 + 1 ≤ k) := fun k h => by have := (OF.lt k h).1; exact ⟨by omega, by omega⟩
        have HFIN : Hid (∀ W, Sw (w.heap.size + 1) (w.heap.size) w5 W → Copied w.heap.size W ⟨y.a, y.c, sa, sc⟩ (insO true o (⟨o.dv, (o.sl.length : Int) + 1, RT.id, tr, dy, (kk : Nat)⟩ : Ct))) := fun W s => ⟨own_lower (own_sw OF s HNO.out) (by omega), own_lower (own_sw O6 s HNE.out) (by omega)⟩
        have HB : Hid (∀ W, Below w.heap.size w5 W → Below w.heap.size w W) := fun W l => B8.trans l
        clear u0 u1 B8 O5 O6 OF HNE HNO hl4 hl6 hS6 hg HZ HSL I HC HH HQ HRR HK h2
        go_wp2
        refine bodyPost_ret (v := .tuple #[hnV ⟨y.a, y.c, sa, sc⟩ { o with sl := o.sl ++ [(⟨o.dv, (o.sl.length : Int) + 1, RT.id, tr, dy, (kk : Nat)⟩ : Ct)] }, .int .i64 (kk : Nat)]) (by simp [results, Tryz.results6, go_sem, e0, e1, e2, e3, e4, e5, e6, e7, e8]) rfl ?_
        refine ⟨⟨y.a, y.c, sa, sc⟩, by rw [HV.out, ← HCE.out, ← HSE.out] <;> rfl, ?_, HB.out _ ?_⟩
        · rw [HV.out, ← HCE.out]
          refine HFIN.out _ ?_
          (repeat' (first | with_reducible exact Sw.refl _ _ _ | with_reducible apply Sw.one | with_reducible apply Sw.two))
        · (repeat' (first | with_reducible exact Below.refl _ _ | with_reducible apply Below.setCell)) <;> first | (simp; done) | (simp; omega)
      · have HV : Hid (insB o tr dy = false) := ins_no2 h2
        have d2 : decide ((300 : Int) ≤ (o.sl.length : Int)) = true := decide_eq_true (by omega)
        clear h h1 h2
        go_enter Tryz.func6, Tryz.ntmps6
        go_wp2_with fail
        refine named fun V0 hV => ?_
        rw [← hV] at k0 k1 L hs
        clear hV
        refine (HC.out _ (I.on L)).mono ?_
        rintro e v1 ⟨y, rfl, C1, L1⟩
        have n0 := kept L1 (lt_of k0) k0
        have n1 := kept L1 (lt_of k1) k1
        have B1 := join_below L L1
        have hg : w.heap.size + 1 + 1 ≤ V0.heap.size := Nat.le_of_eq hs.symm
        have hl1 : V0.heap.size ≤ v1.heap.size := L1.size
        have a0 : v1.cell? ⟨w.heap.size, 0, none⟩ = some (.int .i64 o.dv) := cell_at n0 0
        have a1 : v1.cell? ⟨w.heap.size, 1, none⟩ = some (.int .i64 o.p) := cell_at n0 1
        have a2 : v1.cell? ⟨w.heap.size, 2, none⟩ = some (.int .i64 o.q) := cell_at n0 2
        have a3 : v1.cell? ⟨w.heap.size, 3, none⟩ = some (.int .i64 o.g) := cell_at n0 3
        have a4 : v1.cell? ⟨w.heap.size, 4, none⟩ = some (.int .i64 o.op) := cell_at n0 4
        have a5 : v1.cell? ⟨w.heap.size, 5, none⟩ = some (.int .i64 o.is) := cell_at n0 5
        have a6 : v1.cell? ⟨w.heap.size, 6, none⟩ = some (.int .i64 o.ve) := cell_at n0 6
        have a7 : v1.cell? ⟨w.heap.size, 7, none⟩ = some (.slice x.a o.ol.length x.c) := cell_at n0 7
        have a8 : v1.cell? ⟨w.heap.size, 8, none⟩ = some (.slice x.b o.sl.length x.d) := cell_at n0 8
        have c0 : v1.frozen? ⟨w.heap.size, 0, none⟩ = false := frozen_at n0 0
        have c1 : v1.frozen? ⟨w.heap.size, 1, none⟩ = false := frozen_at n0 1
        have c2 : v1.frozen? ⟨w.heap.size, 2, none⟩ = false := frozen_at n0 2
        have c3 : v1.frozen? ⟨w.heap.size, 3, none⟩ = false := frozen_at n0 3
        have c4 : v1.frozen? ⟨w.heap.size, 4, none⟩ = false := frozen_at n0 4
        have c5 : v1.frozen? ⟨w.heap.size, 5, none⟩ = false := frozen_at n0 5
        have c6 : v1.frozen? ⟨w.heap.size, 6, none⟩ = false := frozen_at n0 6
        have c7 : v1.frozen? ⟨w.heap.size, 7, none⟩ = false := frozen_at n0 7
        have c8 : v1.frozen? ⟨w.heap.size, 8, none⟩ = false := frozen_at n0 8
        obtain ⟨V1, hV⟩ : ∃ V, V = (put9 v1 (w.heap.size) (.int .i64 o.dv) (.int .i64 o.p) (.int .i64 o.q) (.int .i64 o.g) (.int .i64 o.op) (.int .i64 o.is) (.int .i64 o.ve) (.slice y.a o.ol.length y.c) (.slice y.b o.sl.length y.d)) := ⟨_, rfl⟩
        have q0 : V1.heap[w.heap.size]? = some (hnB y o 32) := by rw [hV]; exact put9_heap n0 ..
        have q1 : V1.heap[w.heap.size + 1]? = some (.cells #[.int .i64 0, .int .i64 0, .int .i64 0, .int .i64 0, .int .i64 0, .int .i64 0, .int .i64 0, .slice none 0 0, .slice none 0 0] 32) := by rw [hV, put9_other (by omega)]; exact n1
        have SW : Sw (w.heap.size) (w.heap.size + 1) v1 V1 := by rw [hV]; exact ⟨put9_size .., fun b h1 _ => put9_other h1 ..⟩
        have C2 : Copied V0.heap.size V1 y o := ⟨SW.own C1.off (by omega) (by omega), SW.own C1.seen (by omega) (by omega)⟩
        have B2 : Below w.heap.size w V1 := by rw [hV]; exact put9_below B1 (Nat.le_refl _) ..
        have hl2 : V0.heap.size ≤ V1.heap.size := by rw [SW.size]; exact hl1
        have HV1 : Hid (V1 = (put9 v1 (w.heap.size) (.int .i64 o.dv) (.int .i64 o.p) (.int .i64 o.q) (.int .i64 o.g) (.int .i64 o.op) (.int .i64 o.is) (.int .i64 o.ve) (.slice y.a o.ol.length y.c) (.slice y.b o.sl.length y.d))) := hV
        clear k0 k1 L L1 hs n0 n1 C1 SW hl1 hV
        go_wp2_with fail
        refine named fun V hW => ?_
        obtain rfl : V = V1 := hW.trans HV1.out.symm
        clear hW HV1 B1 a0 a1 a2 a3 a4 a5 a6 a7 a8 c0 c1 c2 c3 c4 c5 c6 c7 c8
        refine (HH.out y _ C2.in).mono ?_
        rintro e v2 ⟨rfl, L2⟩
        have m0 := kept L2 (lt_of q0) q0
        have m1 := kept L2 (lt_of q1) q1
        have C3 := C2.on L2
        have B3 := join_below B2 L2
        have hl3 : V0.heap.size ≤ v2.heap.size := Nat.le_trans hl2 L2.size
        clear q0 q1 C2 B2 L2 hl2
        have HL : Hid (True) := trivial
        have a8 : v2.cell? ⟨w.heap.size, 8, none⟩ = some (.slice y.b o.sl.length y.d) := cell_at m0 8
        go_wp2_with fail
        refine (HQ.out _).mono ?_
        rintro e v3 ⟨rfl, rfl⟩
        clear a8
        have e0 : v3.cell? ⟨w.heap.size + 1, 0, none⟩ = some (.int .i64 0) := cell_at m1 0
        have e1 : v3.cell? ⟨w.heap.size + 1, 1, none⟩ = some (.int .i64 0) := cell_at m1 1
        have e2 : v3.cell? ⟨w.heap.size + 1, 2, none⟩ = some (.int .i64 0) := cell_at m1 2
        have e3 : v3.cell? ⟨w.heap.size + 1, 3, none⟩ = some (.int .i64 0) := cell_at m1 3
        have e4 : v3.cell? ⟨w.heap.size + 1, 4, none⟩ = some (.int .i64 0) := cell_at m1 4
        have e5 : v3.cell? ⟨w.heap.size + 1, 5, none⟩ = some (.int .i64 0) := cell_at m1 5
        have e6 : v3.cell? ⟨w.heap.size + 1, 6, none⟩ = some (.int .i64 0) := cell_at m1 6
        have e7 : v3.cell? ⟨w.heap.size + 1, 7, none⟩ = some (.slice none 0 0) := cell_at m1 7
        have e8 : v3.cell? ⟨w.heap.size + 1, 8, none⟩ = some (.slice none 0 0) := cell_at m1 8
        have f0 : v3.frozen? ⟨w.heap.size + 1, 0, none⟩ = false := frozen_at m1 0
        have f1 : v3.frozen? ⟨w.heap.size + 1, 1, none⟩ = false := frozen_at m1 1
        have f2 : v3.frozen? ⟨w.heap.size + 1, 2, none⟩ = false := frozen_at m1 2
        have f3 : v3.frozen? ⟨w.heap.size + 1, 3, none⟩ = false := frozen_at m1 3
        have f4 : v3.frozen? ⟨w.heap.size + 1, 4, none⟩ = false := frozen_at m1 4
        have f5 : v3.frozen? ⟨w.heap.size + 1, 5, none⟩ = false := frozen_at m1 5
        have f6 : v3.frozen? ⟨w.heap.size + 1, 6, none⟩ = false := frozen_at m1 6
        have f7 : v3.frozen? ⟨w.heap.size + 1, 7, none⟩ = false := frozen_at m1 7
        have f8 : v3.frozen? ⟨w.heap.size + 1, 8, none⟩ = false := frozen_at m1 8
        have a0 : v3.cell? ⟨w.heap.size, 0, none⟩ = some (.int .i64 o.dv) := cell_at m0 0
        have a1 : v3.cell? ⟨w.heap.size, 1, none⟩ = some (.int .i64 o.p) := cell_at m0 1
        have a2 : v3.cell? ⟨w.heap.size, 2, none⟩ = some (.int .i64 o.q) := cell_at m0 2
        have a3 : v3.cell? ⟨w.heap.size, 3, none⟩ = some (.int .i64 o.g) := cell_at m0 3
        have a4 : v3.cell? ⟨w.heap.size, 4, none⟩ = some (.int .i64 o.op) := cell_at m0 4
        have a5 : v3.cell? ⟨w.heap.size, 5, none⟩ = some (.int .i64 o.is) := cell_at m0 5
        have a6 : v3.cell? ⟨w.heap.size, 6, none⟩ = some (.int .i64 o.ve) := cell_at m0 6
        have a7 : v3.cell? ⟨w.heap.size, 7, none⟩ = some (.slice y.a o.ol.length y.c) := cell_at m0 7
        have a8 : v3.cell? ⟨w.heap.size, 8, none⟩ = some (.slice y.b o.sl.length y.d) := cell_at m0 8
        have HFIN : Hid (∀ W, Sw (w.heap.size + 1) (w.heap.size) v3 W → Copied w.heap.size W y (insO false o (ctlO o C RT RL tr dy))) := fun W s => ⟨own_lower (s.own C3.off (by omega) (by omega)) (by omega), own_lower (s.own C3.seen (by omega) (by omega)) (by omega)⟩
        have HB : Hid (∀ W, Below w.heap.size v3 W → Below w.heap.size w W) := fun W l => B3.trans l
        clear B3 C3 m0 m1 hl3 hg I HC HH HQ HRR HK
        go_wp2
        refine bodyPost_ret (v := .tuple #[hnV y (o), .int .i64 (1)]) (by simp [results, Tryz.results6, go_sem, e0, e1, e2, e3, e4, e5, e6, e7, e8]) rfl ?_
        refine ⟨y, by rw [HV.out] <;> rfl, ?_, HB.out _ ?_⟩
        · rw [HV.out]
          refine HFIN.out _ ?_
          (repeat' (first | with_reducible exact Sw.refl _ _ _ | with_reducible apply Sw.one | with_reducible apply Sw.two))
        · (repeat' (first | apply Below.setCell | exact Below.refl _ _)) <;> first | (simp; done) | (have := HL.out; simp; omega)

end Hn
end Go.Proofs.YtlgolnddhfadeabGreatDoor

/- A device that came in. -/
namespace Go.Proofs.YtlgolnddhfadeabGreatDoor
namespace Hn
open Go.ChangeShapes Go.WideShapes Go.ChangeAt Go.RowKit Go.Joins
set_option linter.unusedSimpArgs false
set_option linter.unusedVariables false

theorem ints_open {H : Type} {enc : TypeId × Value → H} {W : World} {base : Nat} {spare : Nat → Bool} {held : Bool} {fuel : Nat} {cs : List Value} {x : DataW H × List MemPlace} (h : DataW.trod enc Tryz.prog W base spare held fuel 24 cs = some x) :
    ∃ (a : Option Addr) (cap : Nat) (zs : List Int), cs = [.slice a zs.length cap] ∧ zs.length ≤ maxLen ∧ Ints W a zs := by
  rcases Go.Deep.open_slice Tryz.underlying24 h with ⟨h0, -⟩ | ⟨a, len, cap, m, n, D, Pl, rfl, hb, hl, hm, hmm, -, hx⟩
  · exact ⟨none, 0, [], h0, by simp, Or.inl rfl⟩
  have hlm : len ≤ m := by rw [hmm]; split <;> omega
  have c1 : Tryz.prog.cellsOf 3 = 1 := by kernel_rfl
  have each : ∀ i, i < len → ∃ p : Int, W.cell? (a.add i) = some (.int .i64 p) := by
    intro i hi
    obtain ⟨cs', h1, h2⟩ := hx i (by omega)
    rw [c1] at h1
    obtain ⟨-, hlen, hcell⟩ := World.cells?_some h1
    obtain ⟨p, e, -, -⟩ := DataW.trod_int Tryz.underlying3 h2
    subst e
    refine ⟨p, ?_⟩
    have := hcell 0 (by simp)
    rw [Go.Deep.add_add] at this
    simpa using this
  obtain ⟨q, hq⟩ := Go.Deep.choose_lt each
  refine ⟨some a, cap, (List.range len).map q, by simp, by simp; omega, ?_⟩
  by_cases h0 : len = 0
  · subst h0; exact Or.inl rfl
  · obtain ⟨b, o, spot⟩ := a
    have hs := World.cell?_spot (hq 0 (by omega))
    simp [Addr.add] at hs
    subst hs
    refine Or.inr ⟨b, o, rfl, ?_, fun i hi => ?_⟩
    · have h1 := hq 0 (by omega)
      apply Nat.lt_of_not_le
      intro hle
      unfold World.cell? at h1
      simp [Addr.add, Array.getElem?_eq_none hle] at h1
    · simp at hi
      have := hq i hi
      simp [add_plain] at this
      simpa [Nat.add_assoc] using this

set_option maxRecDepth 100000 in
theorem params_cells {H : Type} {enc : TypeId × Value → H} {W : World} {base : Nat} {spare : Nat → Bool} {held : Bool} {fuel : Nat} {cs : List Value} {x : DataW H × List MemPlace} (h : DataW.trod enc Tryz.prog W base spare held fuel 23 cs = some x) :
    ∃ p q g : Int, cs = [.int .i64 p, .int .i64 q, .int .i64 g] ∧ WfI p ∧ WfI q ∧ WfI g := by
  obtain ⟨xs, n, -, -, hl, hxl, hf⟩ := DataW.trod_struct Tryz.underlying23 h
  have hl4 : cs.length = 3 := hl.trans (by kernel_rfl)
  have c1 : Tryz.prog.cellsOf 3 = 1 := by kernel_rfl
  match xs, hxl, cs, hl4 with
  | [y0, y1, y2], _, [v0, v1, v2], _ =>
    have h0 := hf 0 _ rfl
    have h1 := hf 1 _ rfl
    have h2 := hf 2 _ rfl
    simp [c1] at h0 h1 h2
    obtain ⟨a0, e0, -, w0⟩ := DataW.trod_int Tryz.underlying3 h0
    obtain ⟨a1, e1, -, w1⟩ := DataW.trod_int Tryz.underlying3 h1
    obtain ⟨a2, e2, -, w2⟩ := DataW.trod_int Tryz.underlying3 h2
    simp at e0 e1 e2
    exact ⟨a0, a1, a2, by rw [e0, e1, e2], w0, w1, w2⟩

/-- Bounds of what came in. -/
structure Lim (o : Hnd) : Prop where
  ol : o.ol.length ≤ maxLen
  sl : o.sl.length ≤ maxLen
  dv : WfI o.dv
  p : WfI o.p
  q : WfI o.q
  g : WfI o.g
  op : WfI o.op
  is : WfI o.is
  ve : WfI o.ve

set_option maxRecDepth 100000 in
theorem hand_open {H : Type} {enc : TypeId × Value → H} {W : World} {base b0 : Nat} {r : Reach} {spare : Nat → Bool} {held : Bool} {v : Value} {d : DataW H} {p : List MemPlace}
    (hv : Value.okWide Tryz.prog W r b0 27 v) (h : DataW.Trod enc Tryz.prog W base spare held 27 v d p) :
    ∃ (x : Pl) (o : Hnd), v = hnV x o ∧ In W x o ∧ Lim o := by
  obtain ⟨cs, rfl, hsz⟩ := okWide_struct Tryz.underlying27 hv
  obtain ⟨fuel, hf⟩ := h
  obtain ⟨xs, n, -, -, hl, hxl, hf⟩ := DataW.trod_struct Tryz.underlying27 hf
  obtain ⟨cs⟩ := cs
  have hl9 : cs.length = 9 := by simpa [Value.cells] using hl.trans (by kernel_rfl : _ = 9)
  have c1 : Tryz.prog.cellsOf 3 = 1 := by kernel_rfl
  have t0 : Tryz.prog.cellsOf 24 = 1 := by kernel_rfl
  have t1 : Tryz.prog.cellsOf 25 = 1 := by kernel_rfl
  have t2 : Tryz.prog.cellsOf 23 = 3 := by kernel_rfl
  match xs, hxl, cs, hl9 with
  | [y0, y1, y2, y3, y4, y5, y6], _, [v0, v1, v2, v3, v4, v5, v6, v7, v8], _ =>
    have h0 := hf 0 _ rfl
    have h1 := hf 1 _ rfl
    have h2 := hf 2 _ rfl
    have h3 := hf 3 _ rfl
    have h4 := hf 4 _ rfl
    have h5 := hf 5 _ rfl
    have h6 := hf 6 _ rfl
    simp [Value.cells, c1, t0, t1, t2] at h0 h1 h2 h3 h4 h5 h6
    obtain ⟨a0, e0, -, w0⟩ := DataW.trod_int Tryz.underlying3 h0
    obtain ⟨p, q, g, e1, wp, wq, wg⟩ := params_cells h1
    obtain ⟨a2, e2, -, w2⟩ := DataW.trod_int Tryz.underlying3 h2
    obtain ⟨a3, e3, -, w3⟩ := DataW.trod_int Tryz.underlying3 h3
    obtain ⟨a4, e4, -, w4⟩ := DataW.trod_int Tryz.underlying3 h4
    obtain ⟨a5, c5, z5, e5, l5, I5⟩ := ints_open h5
    obtain ⟨a6, c6, z6, e6, l6, I6, -⟩ := controls_open h6
    simp at e0 e1 e2 e3 e4 e5 e6
    refine ⟨⟨a5, c5, a6, c6⟩, ⟨a0, p, q, g, a2, a3, a4, z5, z6⟩, ?_, ⟨I5, I6⟩, ⟨l5, l6, w0, wp, wq, wg, w2, w3, w4⟩⟩
    rw [e0, e1.1, e1.2.1, e1.2.2, e2, e3, e4, e5, e6]

end Hn
end Go.Proofs.YtlgolnddhfadeabGreatDoor

/- The mathematics of chapter 3: the codes of lengths and of ways back. -/
namespace Go.Proofs.YtlgolnddhfadeabGreatDoor
namespace Math

/-- How many bits more the code k has, its runs R codes long. -/
def cbits (R k : Nat) : Nat := k / R - 1

/-- The least number of the code k. -/
def cleast (R k : Nat) : Nat := (k - cbits R k * R) * 2 ^ cbits R k

theorem cbits_mul_le (R k : Nat) : cbits R k * R ≤ k := by
  unfold cbits
  have h := Nat.div_mul_le_self k R
  have h2 : (k / R - 1) * R ≤ k / R * R := Nat.mul_le_mul_right R (Nat.sub_le _ _)
  omega

theorem cleast_succ (R k : Nat) (hR : 0 < R) : cleast R (k + 1) = cleast R k + 2 ^ cbits R k := by
  have hk := cbits_mul_le R k
  by_cases h : (k + 1) / R = k / R
  · have hb : cbits R (k + 1) = cbits R k := by unfold cbits; rw [h]
    unfold cleast
    rw [hb, show k + 1 - cbits R k * R = (k - cbits R k * R) + 1 by omega, Nat.add_mul, Nat.one_mul]
  · have hs := @Nat.succ_div k R
    have hd : R ∣ k + 1 := by
      apply Classical.byContradiction
      intro hn
      rw [if_neg hn] at hs
      exact h hs
    rw [if_pos hd] at hs
    obtain ⟨c, hc⟩ := hd
    have hq : (k + 1) / R = c := by rw [hc]; exact Nat.mul_div_cancel_left c hR
    have hq0 : k / R + 1 = c := by omega
    cases hcc : k / R with
    | zero =>
      have hb : cbits R k = 0 := by unfold cbits; omega
      have hb1 : cbits R (k + 1) = 0 := by unfold cbits; omega
      unfold cleast
      rw [hb, hb1]
      simp
    | succ q =>
      have hb : cbits R k = q := by unfold cbits; omega
      have hb1 : cbits R (k + 1) = q + 1 := by unfold cbits; omega
      have hc2 : c = q + 2 := by omega
      subst hc2
      unfold cleast
      rw [hb, hb1]
      have e1 : k + 1 - (q + 1) * R = R := by
        rw [hc, Nat.mul_comm R, show q + 2 = (q + 1) + 1 by omega, Nat.add_mul (q + 1) 1 R]
        omega
      have e2 : k - q * R + 1 = 2 * R := by
        have : R * (q + 2) = q * R + 2 * R := by rw [Nat.mul_comm R, Nat.add_mul]
        omega
      rw [e1, Nat.pow_succ]
      have e3 : (k - q * R) * 2 ^ q + 2 ^ q = (k - q * R + 1) * 2 ^ q := by rw [Nat.add_mul, Nat.one_mul]
      rw [e3, e2, Nat.mul_comm (2 ^ q) 2, ← Nat.mul_assoc, Nat.mul_comm R 2]

/-- The number of bits of a number. -/
def blen (n : Nat) : Nat := if n = 0 then 0 else n.log2 + 1

theorem blen_spec (n : Nat) : n < 2 ^ blen n ∧ (n ≠ 0 → 2 ^ (blen n - 1) ≤ n) := by
  unfold blen
  split
  · subst_vars; simp
  · rename_i h; exact ⟨Nat.lt_log2_self, fun _ => by simpa using Nat.log2_self_le h⟩

/-- How many bits more a number's code has. -/
def nbits (r n : Nat) : Nat := blen n - 1 - r

/-- A number that lies with the code k has its bits. -/
theorem nbits_of (r k n : Nat) (h1 : cleast (2 ^ r) k ≤ n) (h2 : n < cleast (2 ^ r) k + 2 ^ cbits (2 ^ r) k) :
    nbits r n = cbits (2 ^ r) k ∧ n / 2 ^ cbits (2 ^ r) k = k - cbits (2 ^ r) k * 2 ^ r ∧ n % 2 ^ cbits (2 ^ r) k = n - cleast (2 ^ r) k := by
  have hR : 0 < 2 ^ r := Nat.two_pow_pos r
  have hp : 0 < 2 ^ cbits (2 ^ r) k := Nat.two_pow_pos _
  have hk := cbits_mul_le (2 ^ r) k
  have hdm := Nat.div_add_mod k (2 ^ r)
  have hml := Nat.mod_lt k hR
  have e : n / 2 ^ cbits (2 ^ r) k = k - cbits (2 ^ r) k * 2 ^ r := by
    unfold cleast at h1 h2
    rw [Nat.div_eq_iff hp]
    omega
  refine ⟨?_, e, ?_⟩
  · have hsp := blen_spec n
    unfold nbits
    by_cases hb : cbits (2 ^ r) k = 0
    · have hn : n = k := by
        unfold cleast at h1 h2
        rw [hb] at h1 h2
        simp at h1 h2
        omega
      have hk2 : k < 2 ^ (r + 1) := by
        unfold cbits at hb
        have : k / 2 ^ r ≤ 1 := by omega
        have : 2 ^ r * (k / 2 ^ r) ≤ 2 ^ r * 1 := Nat.mul_le_mul_left _ this
        rw [Nat.pow_succ]
        omega
      rw [hb]
      subst hn
      apply Nat.sub_eq_zero_of_le
      by_cases h0 : n = 0
      · subst h0; simp [blen]
      · have h3 := hsp.2 h0
        have h4 : 2 ^ (blen n - 1) < 2 ^ (r + 1) := Nat.lt_of_le_of_lt h3 hk2
        have := (Nat.pow_lt_pow_iff_right (by omega : 1 < 2)).1 h4
        omega
    · generalize hbb : cbits (2 ^ r) k = b at *
      have hkq : k / 2 ^ r = b + 1 := by unfold cbits at hbb; omega
      have hq1 : 2 ^ r ≤ k - b * 2 ^ r ∧ k - b * 2 ^ r < 2 * 2 ^ r := by
        rw [hkq] at hdm
        have : 2 ^ r * (b + 1) = b * 2 ^ r + 2 ^ r := by rw [Nat.mul_add, Nat.mul_one, Nat.mul_comm]
        omega
      have hlo : 2 ^ (r + b) ≤ n := by
        have : 2 ^ r * 2 ^ b ≤ (k - b * 2 ^ r) * 2 ^ b := Nat.mul_le_mul_right _ hq1.1
        rw [Nat.pow_add]
        unfold cleast at h1
        rw [hbb] at h1
        omega
      have hhi : n < 2 ^ (r + b + 1) := by
        have h5 : (k - b * 2 ^ r + 1) * 2 ^ b ≤ 2 * 2 ^ r * 2 ^ b := Nat.mul_le_mul_right _ (by omega)
        rw [Nat.add_mul, Nat.one_mul] at h5
        have h6 : 2 * 2 ^ r * 2 ^ b = 2 ^ (r + b + 1) := by rw [Nat.pow_succ, Nat.pow_add, Nat.mul_assoc, Nat.mul_comm]
        unfold cleast at h2
        rw [hbb] at h2
        omega
      have hn0 : n ≠ 0 := by have := Nat.two_pow_pos (r + b); omega
      have hlog : n.log2 = r + b := (Nat.log2_eq_iff hn0).2 ⟨hlo, hhi⟩
      unfold blen
      rw [if_neg hn0, hlog]
      omega
  · have hdm2 := Nat.div_add_mod n (2 ^ cbits (2 ^ r) k)
    rw [e] at hdm2
    unfold cleast
    rw [Nat.mul_comm] at hdm2
    omega

/-- The code of a number, how many bits more it has, and what they tell. -/
def codeC (r n : Nat) : Nat := nbits r n * 2 ^ r + n / 2 ^ nbits r n
def codeX (r n : Nat) : Nat := n % 2 ^ nbits r n

theorem code_of (r k n : Nat) (h1 : cleast (2 ^ r) k ≤ n) (h2 : n < cleast (2 ^ r) k + 2 ^ cbits (2 ^ r) k) :
    codeC r n = k ∧ nbits r n = cbits (2 ^ r) k ∧ codeX r n = n - cleast (2 ^ r) k := by
  obtain ⟨a, b, c⟩ := nbits_of r k n h1 h2
  have hk := cbits_mul_le (2 ^ r) k
  refine ⟨?_, a, by unfold codeX; rw [a]; exact c⟩
  unfold codeC
  rw [a, b]
  omega

theorem cleast_mono (R a b : Nat) (hR : 0 < R) (h : a ≤ b) : cleast R a ≤ cleast R b := by
  induction b with
  | zero => rw [show a = 0 by omega]; exact Nat.le_refl _
  | succ b ih =>
    by_cases e : a = b + 1
    · subst e; exact Nat.le_refl _
    · have := ih (by omega)
      rw [cleast_succ R b hR]
      exact Nat.le_trans this (Nat.le_add_right _ _)

/-- Every number lies with a code. -/
theorem code_at (R n : Nat) (hR : 0 < R) : ∃ k, cleast R k ≤ n ∧ n < cleast R k + 2 ^ cbits R k := by
  induction n with
  | zero => exact ⟨0, by simp [cleast], Nat.lt_of_lt_of_le (Nat.two_pow_pos _) (Nat.le_add_left _ _)⟩
  | succ n ih =>
    obtain ⟨k, h1, h2⟩ := ih
    by_cases h : n + 1 < cleast R k + 2 ^ cbits R k
    · exact ⟨k, by omega, h⟩
    · refine ⟨k + 1, ?_, ?_⟩
      · rw [cleast_succ R k hR]; omega
      · rw [cleast_succ R k hR]
        have := Nat.two_pow_pos (cbits R (k + 1))
        omega

end Math
end Go.Proofs.YtlgolnddhfadeabGreatDoor

/- The mathematics of chapter 3: bits as bytes. -/
namespace Go.Proofs.YtlgolnddhfadeabGreatDoor
namespace Math

/-- A list of bits. -/
def Bits (l : List Nat) : Prop := ∀ b ∈ l, b ≤ 1

theorem Bits.nil : Bits [] := by intro b h; cases h

theorem Bits.append {l m : List Nat} (h : Bits l) (g : Bits m) : Bits (l ++ m) := by
  intro b hb
  rcases List.mem_append.1 hb with hb | hb
  · exact h b hb
  · exact g b hb

theorem Bits.one {b : Nat} (h : b ≤ 1) : Bits [b] := by
  intro c hc
  rw [List.mem_singleton] at hc
  omega

theorem Bits.at {l : List Nat} (h : Bits l) (i : Nat) : l.getD i 0 ≤ 1 := by
  rw [List.getD_eq_getElem?_getD]
  cases e : l[i]? with
  | none => simp
  | some v => exact h v (List.mem_of_getElem? e)

/-- What the eight bits from the place 8 i on tell. -/
def byteAt (l : List Nat) (i : Nat) : Nat :=
  l.getD (8 * i) 0 + 2 * l.getD (8 * i + 1) 0 + 4 * l.getD (8 * i + 2) 0 + 8 * l.getD (8 * i + 3) 0 + 16 * l.getD (8 * i + 4) 0 + 32 * l.getD (8 * i + 5) 0 + 64 * l.getD (8 * i + 6) 0 + 128 * l.getD (8 * i + 7) 0

theorem byteAt_lt {l : List Nat} (h : Bits l) (i : Nat) : byteAt l i < 256 := by
  have h0 := h.at (8 * i); have h1 := h.at (8 * i + 1); have h2 := h.at (8 * i + 2); have h3 := h.at (8 * i + 3)
  have h4 := h.at (8 * i + 4); have h5 := h.at (8 * i + 5); have h6 := h.at (8 * i + 6); have h7 := h.at (8 * i + 7)
  unfold byteAt
  omega

/-- Bits as bytes. -/
def bytesOf (l : List Nat) : List UInt8 := (List.range ((l.length + 7) / 8)).map fun i => UInt8.ofNat (byteAt l i)

theorem bytesOf_length (l : List Nat) : (bytesOf l).length = (l.length + 7) / 8 := by simp [bytesOf]

theorem getD_snoc (l : List Nat) (b i : Nat) : (l ++ [b]).getD i 0 = if i = l.length then b else l.getD i 0 := by
  rw [List.getD_eq_getElem?_getD, List.getD_eq_getElem?_getD]
  by_cases h : i < l.length
  · rw [List.getElem?_append_left h, if_neg (by omega)]
  · rw [List.getElem?_append_right (by omega)]
    by_cases e : i = l.length
    · subst e; simp
    · rw [if_neg e, List.getElem?_eq_none (l := l) (by omega), List.getElem?_eq_none (by simp; omega)]

theorem getD_far (l : List Nat) (i : Nat) (h : l.length ≤ i) : l.getD i 0 = 0 := by
  rw [List.getD_eq_getElem?_getD, List.getElem?_eq_none h]; rfl

theorem byteAt_far (l : List Nat) (i : Nat) (h : l.length ≤ 8 * i) : byteAt l i = 0 := by
  unfold byteAt
  rw [getD_far l _ (by omega), getD_far l _ (by omega), getD_far l _ (by omega), getD_far l _ (by omega), getD_far l _ (by omega), getD_far l _ (by omega), getD_far l _ (by omega), getD_far l _ (by omega)]

theorem byteAt_snoc (l : List Nat) (b i : Nat) : byteAt (l ++ [b]) i = byteAt l i + if i = l.length / 8 then b * 2 ^ (l.length % 8) else 0 := by
  unfold byteAt
  simp only [getD_snoc]
  by_cases e : i = l.length / 8
  · rw [if_pos e]
    have hr : l.length % 8 < 8 := Nat.mod_lt _ (by omega)
    have hz : ∀ j, l.length ≤ j → l[j]?.getD 0 = 0 := fun j hj => by rw [List.getElem?_eq_none hj]; rfl
    have hl : l.length = 8 * i + l.length % 8 := by omega
    generalize hq : l.length % 8 = r at *
    rw [hl]
    match r, hr with
    | 0, _ => simp [hz (8 * i) (by omega)]; omega
    | 1, _ => simp [hz (8 * i + 1) (by omega)]; omega
    | 2, _ => simp [hz (8 * i + 2) (by omega)]; omega
    | 3, _ => simp [hz (8 * i + 3) (by omega)]; omega
    | 4, _ => simp [hz (8 * i + 4) (by omega)]; omega
    | 5, _ => simp [hz (8 * i + 5) (by omega)]; omega
    | 6, _ => simp [hz (8 * i + 6) (by omega)]; omega
    | 7, _ => simp [hz (8 * i + 7) (by omega)]; omega
  · rw [if_neg e]
    rw [if_neg (by omega), if_neg (by omega), if_neg (by omega), if_neg (by omega), if_neg (by omega), if_neg (by omega), if_neg (by omega), if_neg (by omega)]
    rfl

theorem byteAt_low {l : List Nat} (h : Bits l) : byteAt l (l.length / 8) < 2 ^ (l.length % 8) := by
  have h0 := h.at (8 * (l.length / 8)); have h1 := h.at (8 * (l.length / 8) + 1); have h2 := h.at (8 * (l.length / 8) + 2); have h3 := h.at (8 * (l.length / 8) + 3)
  have h4 := h.at (8 * (l.length / 8) + 4); have h5 := h.at (8 * (l.length / 8) + 5); have h6 := h.at (8 * (l.length / 8) + 6); have h7 := h.at (8 * (l.length / 8) + 7)
  have hr : l.length % 8 < 8 := Nat.mod_lt _ (by omega)
  have hz : ∀ j, l.length ≤ j → l.getD j 0 = 0 := fun j hj => getD_far l j hj
  unfold byteAt
  have hl : l.length = 8 * (l.length / 8) + l.length % 8 := by omega
  generalize hq : l.length % 8 = r at *
  generalize hi : l.length / 8 = i at *
  match r, hr with
  | 0, _ => rw [hz (8 * i) (by omega), hz (8 * i + 1) (by omega), hz (8 * i + 2) (by omega), hz (8 * i + 3) (by omega), hz (8 * i + 4) (by omega), hz (8 * i + 5) (by omega), hz (8 * i + 6) (by omega), hz (8 * i + 7) (by omega)]; decide
  | 1, _ => rw [hz (8 * i + 1) (by omega), hz (8 * i + 2) (by omega), hz (8 * i + 3) (by omega), hz (8 * i + 4) (by omega), hz (8 * i + 5) (by omega), hz (8 * i + 6) (by omega), hz (8 * i + 7) (by omega)]; omega
  | 2, _ => rw [hz (8 * i + 2) (by omega), hz (8 * i + 3) (by omega), hz (8 * i + 4) (by omega), hz (8 * i + 5) (by omega), hz (8 * i + 6) (by omega), hz (8 * i + 7) (by omega)]; omega
  | 3, _ => rw [hz (8 * i + 3) (by omega), hz (8 * i + 4) (by omega), hz (8 * i + 5) (by omega), hz (8 * i + 6) (by omega), hz (8 * i + 7) (by omega)]; omega
  | 4, _ => rw [hz (8 * i + 4) (by omega), hz (8 * i + 5) (by omega), hz (8 * i + 6) (by omega), hz (8 * i + 7) (by omega)]; omega
  | 5, _ => rw [hz (8 * i + 5) (by omega), hz (8 * i + 6) (by omega), hz (8 * i + 7) (by omega)]; omega
  | 6, _ => rw [hz (8 * i + 6) (by omega), hz (8 * i + 7) (by omega)]; omega
  | 7, _ => rw [hz (8 * i + 7) (by omega)]; omega

theorem bytesOf_new (l : List Nat) (b : Nat) (h : l.length % 8 = 0) : bytesOf (l ++ [b]) = bytesOf l ++ [UInt8.ofNat b] := by
  unfold bytesOf
  rw [List.length_append, List.length_singleton, show (l.length + 1 + 7) / 8 = (l.length + 7) / 8 + 1 by omega, List.range_succ, List.map_append, List.map_singleton]
  congr 1
  · apply List.map_congr_left
    intro i hi
    rw [List.mem_range] at hi
    rw [byteAt_snoc, if_neg (by omega), Nat.add_zero]
  · rw [byteAt_snoc, if_pos (by omega), byteAt_far l _ (by omega), h]
    simp

theorem bytesOf_more (l : List Nat) (b : Nat) (h : l.length % 8 ≠ 0) : bytesOf (l ++ [b]) = (bytesOf l).set (l.length / 8) (UInt8.ofNat (byteAt l (l.length / 8) + b * 2 ^ (l.length % 8))) := by
  apply List.ext_getElem
  · rw [List.length_set, bytesOf_length, bytesOf_length, List.length_append, List.length_singleton]
    omega
  · intro i h1 h2
    rw [List.getElem_set]
    rw [bytesOf_length, List.length_append, List.length_singleton] at h1
    by_cases e : l.length / 8 = i
    · rw [if_pos e]
      subst e
      simp only [bytesOf, List.getElem_map, List.getElem_range]
      rw [byteAt_snoc, if_pos rfl]
    · rw [if_neg e]
      simp only [bytesOf, List.getElem_map, List.getElem_range]
      rw [byteAt_snoc, if_neg (fun h => e h.symm), Nat.add_zero]

/-- Some bits of a number, the lowest first; the highest first. -/
def lowL (x n : Nat) : List Nat := (List.range n).map fun j => x / 2 ^ j % 2
def highL (x n : Nat) : List Nat := (List.range n).map fun j => x / 2 ^ (n - 1 - j) % 2

theorem lowL_bits (x n : Nat) : Bits (lowL x n) := by
  intro b hb
  obtain ⟨j, -, rfl⟩ := List.mem_map.1 hb
  omega

theorem highL_bits (x n : Nat) : Bits (highL x n) := by
  intro b hb
  obtain ⟨j, -, rfl⟩ := List.mem_map.1 hb
  omega

theorem lowL_length (x n : Nat) : (lowL x n).length = n := by simp [lowL]
theorem highL_length (x n : Nat) : (highL x n).length = n := by simp [highL]

theorem lowL_succ (x n : Nat) : lowL x (n + 1) = lowL x n ++ [x / 2 ^ n % 2] := by
  unfold lowL
  rw [List.range_succ, List.map_append]
  rfl

/-- The first k of them. -/
def highP (x n k : Nat) : List Nat := (List.range k).map fun j => x / 2 ^ (n - 1 - j) % 2

theorem highP_succ (x n k : Nat) : highP x n (k + 1) = highP x n k ++ [x / 2 ^ (n - 1 - k) % 2] := by
  unfold highP
  rw [List.range_succ, List.map_append]
  rfl

theorem highP_all (x n : Nat) : highP x n n = highL x n := rfl

theorem or_low (x b r : Nat) (h : x < 2 ^ r) : x ||| b * 2 ^ r = x + b * 2 ^ r := by
  have := Nat.shiftLeft_add_eq_or_of_lt h b
  rw [Nat.shiftLeft_eq] at this
  rw [Nat.or_comm, ← this, Nat.add_comm]

theorem ofInt_small (a : Nat) (ha : a < 4611686018427387904) : (BitVec.ofInt 64 (a : Int)).toNat = a := by
  rw [BitVec.ofInt_natCast, BitVec.toNat_ofNat]; exact Nat.mod_eq_of_lt (by omega)

theorem bits_and_i64 (a b : Nat) (ha : a < 4611686018427387904) (hb : b < 4611686018427387904) :
    bits .and .i64 (a : Int) (b : Int) = ((a &&& b : Nat) : Int) := by
  have hx : a &&& b < 2 ^ 62 := Nat.and_lt_two_pow _ (by omega)
  show IntKind.i64.wrap ((BitVec.ofInt 64 (a : Int) &&& BitVec.ofInt 64 (b : Int)).toNat : Int) = _
  rw [BitVec.toNat_and, ofInt_small a ha, ofInt_small b hb, IntKind.wrap_i64]
  omega

theorem bits_or_i64 (a b : Nat) (ha : a < 4611686018427387904) (hb : b < 4611686018427387904) :
    bits .or .i64 (a : Int) (b : Int) = ((a ||| b : Nat) : Int) := by
  have hx : a ||| b < 2 ^ 62 := Nat.or_lt_two_pow (by omega) (by omega)
  show IntKind.i64.wrap ((BitVec.ofInt 64 (a : Int) ||| BitVec.ofInt 64 (b : Int)).toNat : Int) = _
  rw [BitVec.toNat_or, ofInt_small a ha, ofInt_small b hb, IntKind.wrap_i64]
  omega

theorem bits_xor_i64 (a b : Nat) (ha : a < 4611686018427387904) (hb : b < 4611686018427387904) :
    bits .xor .i64 (a : Int) (b : Int) = ((a ^^^ b : Nat) : Int) := by
  have hx : a ^^^ b < 2 ^ 62 := Nat.xor_lt_two_pow (by omega) (by omega)
  show IntKind.i64.wrap ((BitVec.ofInt 64 (a : Int) ^^^ BitVec.ofInt 64 (b : Int)).toNat : Int) = _
  rw [BitVec.toNat_xor, ofInt_small a ha, ofInt_small b hb, IntKind.wrap_i64]
  omega

theorem bits_or_u8 (a b : Nat) (ha : a < 256) (hb : b < 256) :
    bits .or .u8 (a : Int) (b : Int) = ((a ||| b : Nat) : Int) := by
  have hx : a ||| b < 2 ^ 8 := Nat.or_lt_two_pow (by omega) (by omega)
  have h1 : (BitVec.ofInt 8 (a : Int)).toNat = a := by
    rw [BitVec.ofInt_natCast, BitVec.toNat_ofNat]; exact Nat.mod_eq_of_lt (by omega)
  have h2 : (BitVec.ofInt 8 (b : Int)).toNat = b := by
    rw [BitVec.ofInt_natCast, BitVec.toNat_ofNat]; exact Nat.mod_eq_of_lt (by omega)
  show IntKind.u8.wrap ((BitVec.ofInt 8 (a : Int) ||| BitVec.ofInt 8 (b : Int)).toNat : Int) = _
  rw [BitVec.toNat_or, h1, h2, IntKind.wrap_u8]
  omega

theorem and_one_i64 (a : Nat) (ha : a < 4611686018427387904) : bits .and .i64 (a : Int) 1 = ((a % 2 : Nat) : Int) := by
  have h := bits_and_i64 a 1 ha (by omega)
  rw [Nat.and_one_is_mod] at h
  exact h

theorem and_mask_i64 (a m : Nat) (ha : a < 4611686018427387904) (hm : m ≤ 60) : bits .and .i64 (a : Int) ((2 : Int) ^ m - 1) = ((a % 2 ^ m : Nat) : Int) := by
  have h1 := Nat.two_pow_pos m
  have h2 : 2 ^ m ≤ 2 ^ 60 := Nat.pow_le_pow_right (by omega) hm
  have e : (2 : Int) ^ m - 1 = ((2 ^ m - 1 : Nat) : Int) := by
    rw [Int.natCast_sub (by omega)]
    simp
  rw [e, bits_and_i64 a _ ha (by omega), Nat.and_two_pow_sub_one_eq_mod]

end Math
end Go.Proofs.YtlgolnddhfadeabGreatDoor

/- Contracts of the codes of lengths and of ways back, of the program and of its model. -/
namespace Go.Proofs.YtlgolnddhfadeabGreatDoor
namespace Pk
open Go.ChangeShapes Go.WideShapes Go.ChangeAt Go.RowKit
set_option linter.unusedSimpArgs false
set_option linter.unusedVariables false

theorem in_is (x a b : Int) (c : Bool) (h : decide (a ≤ x ∧ x ≤ b) = c) (w : World) :
    Calls Tryz.prog 38 #[.int .i64 x, .int .i64 a, .int .i64 b] w fun e w' => e = .returned (.bool c) ∧ w' = w := by
  subst h
  by_cases h1 : a ≤ x <;> by_cases h2 : x ≤ b
  all_goals
    go_enter Tryz.func38, Tryz.ntmps38
    go_wp2
    go_ret
    exact ⟨by simp [h1, h2], rfl⟩

/-- A power of two. -/
def p2 (n : Nat) : Nat := 2 ^ n

theorem p2_pos (n : Nat) : 0 < p2 n := Nat.two_pow_pos n

theorem p2_succ (n : Nat) : p2 (n + 1) = 2 * p2 n := by unfold p2; rw [Nat.pow_succ, Nat.mul_comm]

theorem p2_le (n m : Nat) (h : n ≤ m) : p2 n ≤ p2 m := Nat.pow_le_pow_right (by omega) h

theorem p2_bd (n : Nat) (h : n ≤ 40) : p2 n ≤ 1099511627776 := p2_le n 40 h

theorem pow2_val (n : Nat) (w : World) (hn : n ≤ 40) :
    Calls Tryz.prog 146 #[.int .i64 n] w fun e w' => e = .returned (.int .i64 (p2 n)) ∧ w' = w := by
  go_enter Tryz.func146, Tryz.ntmps146
  go_wp2
  go_loop [3, 4] (fun x i => ∃ (k y : Nat), k ≤ n ∧ y ≤ 1099511627776 ∧ x = .int .i64 y ∧ i = .int .i64 k ∧ Hid (y = p2 k)) (fun _ i => n - (intOf i).toNat)
  case atStart => exact ⟨0, 1, by omega, by omega, rfl, rfl, rfl⟩
  case round =>
    obtain ⟨k, y, hk, hy, rfl, rfl, H⟩ := hrel
    by_cases hlt : k < n
    · have HN : Hid (2 * y = p2 (k + 1)) := by show _ = _; rw [p2_succ, H.out]
      have hy2 : 2 * y ≤ 1099511627776 := by
        rw [HN.out]
        exact p2_bd _ (by omega)
      go_wp2
      go_round
      case rel => exact ⟨k + 1, 2 * y, by omega, by omega, by go_num, by go_num, HN⟩
      case measure => simp [intOf]; omega
    · obtain rfl : k = n := by omega
      go_wp2
      go_ret
      exact ⟨ret_int (by rw [← H.out]), rfl⟩

theorem blen_half (n : Nat) (h : n ≠ 0) : Math.blen n = 1 + Math.blen (n / 2) := by
  unfold Math.blen
  rw [if_neg h]
  by_cases h2 : n / 2 = 0
  · rw [if_pos h2, show n = 1 by omega]
    rfl
  · rw [if_neg h2, show n.log2 = (n / 2).log2 + 1 from ?_]
    · omega
    · rw [Nat.log2_def, if_pos (by omega)]

theorem bitLen_is (x : Nat) (h : x < 2 ^ 64) : Lib.bitLen x = Math.blen x := by
  induction x using Nat.strongRecOn with
  | ind x ih =>
    by_cases h0 : x = 0
    · subst h0; rfl
    · rw [Lib.bitLen_half x h0 h, blen_half x h0, ih (x / 2) (by omega) (by omega)]

theorem blen_bd (n k : Nat) (h : n < 2 ^ k) : Math.blen n ≤ k := by
  unfold Math.blen
  by_cases h0 : n = 0
  · rw [if_pos h0]; omega
  · rw [if_neg h0]
    have := (Nat.log2_lt h0).2 h
    omega

theorem wrap_sum (a c : Nat) (ha : a ≤ 100) (hc : c < 32768) : wrap64 (wrap64 (a : Int) + (c : Int)) = ((a + c : Nat) : Int) := by
  unfold wrap64
  omega

theorem wrap_mask (a : Nat) (ha : a ≤ 16384) : wrap64 (wrap64 (a : Int) - 1) = (a : Int) - 1 := by
  unfold wrap64
  omega

theorem cast_mul_pow (m r : Nat) : (m : Int) * 2 ^ r = ((m * 2 ^ r : Nat) : Int) := by simp

theorem cast_div_pow (n m : Nat) : (n : Int) / 2 ^ m = ((n / 2 ^ m : Nat) : Int) := by simp

theorem cast_pow (m : Nat) : (2 : Int) ^ m = ((2 ^ m : Nat) : Int) := by simp

theorem mul_pow_bd (m r : Nat) (hr : r ≤ 2) (hm : m ≤ 14) : m * 2 ^ r ≤ 100 := by
  have h1 : 2 ^ r ≤ 2 ^ 2 := Nat.pow_le_pow_right (by omega) hr
  have h2 : m * 2 ^ r ≤ m * 4 := Nat.mul_le_mul_left _ h1
  omega

theorem code_num (n r m : Nat) (hn : n < 32768) (hr : r ≤ 2) (hm : m ≤ 14) (h : Math.nbits r n = m) : wrap64 (wrap64 ((m : Int) * 2 ^ r) + (n : Int) / 2 ^ m) = (Math.codeC r n : Int) := by
  rw [cast_mul_pow, cast_div_pow, wrap_sum _ _ (mul_pow_bd m r hr hm) (Nat.lt_of_le_of_lt (Nat.div_le_self _ _) hn)]
  unfold Math.codeC
  rw [h]

theorem code_told (n r m : Nat) (hn : n < 32768) (hm : m ≤ 14) (h : Math.nbits r n = m) : bits .and .i64 (n : Int) (wrap64 (wrap64 (2 ^ m) - 1)) = (Math.codeX r n : Int) := by
  have e2 : wrap64 (wrap64 ((2 : Int) ^ m) - 1) = (2 : Int) ^ m - 1 := by
    rw [cast_pow, wrap_mask _ (show 2 ^ m ≤ 2 ^ 14 from Nat.pow_le_pow_right (by omega) hm)]
  unfold Math.codeX
  rw [h, e2, Math.and_mask_i64 n m (by omega) (by omega)]

/-- What LenCode and BackCode answer. -/
def lenC (n : Int) : Int := if 3 ≤ n ∧ n ≤ 258 then if n = 258 then 285 else 257 + (Math.codeC 2 (n - 3).toNat : Int) else -1
def lenB (n : Int) : Int := if 3 ≤ n ∧ n ≤ 257 then (Math.nbits 2 (n - 3).toNat : Int) else 0
def lenX (n : Int) : Int := if 3 ≤ n ∧ n ≤ 257 then (Math.codeX 2 (n - 3).toNat : Int) else 0
def backC (d : Int) : Int := if 1 ≤ d ∧ d ≤ 32768 then (Math.codeC 1 (d - 1).toNat : Int) else -1
def backB (d : Int) : Int := if 1 ≤ d ∧ d ≤ 32768 then (Math.nbits 1 (d - 1).toNat : Int) else 0
def backX (d : Int) : Int := if 1 ≤ d ∧ d ≤ 32768 then (Math.codeX 1 (d - 1).toNat : Int) else 0

theorem len_no (n : Int) (h : ¬ (3 ≤ n ∧ n ≤ 258)) : lenC n = -1 ∧ lenB n = 0 ∧ lenX n = 0 := by
  unfold lenC lenB lenX
  rw [if_neg h, if_neg (by omega), if_neg (by omega)]
  exact ⟨rfl, rfl, rfl⟩

theorem len_top : lenC 258 = 285 ∧ lenB 258 = 0 ∧ lenX 258 = 0 := by
  unfold lenC lenB lenX
  simp

theorem len_yes (k : Nat) (h : k ≤ 254) : lenC ((k : Int) + 3) = 257 + (Math.codeC 2 k : Int) ∧ lenB ((k : Int) + 3) = (Math.nbits 2 k : Int) ∧ lenX ((k : Int) + 3) = (Math.codeX 2 k : Int) := by
  unfold lenC lenB lenX
  have e : ((k : Int) + 3 - 3).toNat = k := by omega
  rw [if_pos (by omega), if_neg (by omega), if_pos (by omega), if_pos (by omega), e]
  exact ⟨rfl, rfl, rfl⟩

theorem back_no (d : Int) (h : ¬ (1 ≤ d ∧ d ≤ 32768)) : backC d = -1 ∧ backB d = 0 ∧ backX d = 0 := by
  unfold backC backB backX
  rw [if_neg h, if_neg h, if_neg h]
  exact ⟨rfl, rfl, rfl⟩

theorem back_yes (k : Nat) (h : k ≤ 32767) : backC ((k : Int) + 1) = (Math.codeC 1 k : Int) ∧ backB ((k : Int) + 1) = (Math.nbits 1 k : Int) ∧ backX ((k : Int) + 1) = (Math.codeX 1 k : Int) := by
  unfold backC backB backX
  have e : ((k : Int) + 1 - 1).toNat = k := by omega
  rw [if_pos (by omega), if_pos (by omega), if_pos (by omega), e]
  exact ⟨rfl, rfl, rfl⟩

/-- Three numbers as a result. -/
abbrev t3 (a b c : Int) : Value := .tuple #[.int .i64 a, .int .i64 b, .int .i64 c]

theorem specLen_val (N : Int) (w : World) :
    Calls Tryz.prog 173 #[.int .i64 N] w fun e w' => e = .returned (t3 (lenC N) (lenB N) (lenX N)) ∧ w' = w := by
  by_cases h258 : N = 258
  · subst h258
    obtain ⟨e1, e2, e3⟩ := len_top
    rw [e1, e2, e3]
    go_enter Tryz.func173, Tryz.ntmps173
    go_wp2_with fail
    refine (in_is _ 3 258 true (by decide) _).mono ?_
    rintro e w1 ⟨rfl, rfl⟩
    go_wp2
    refine bodyPost_ret (v := t3 285 0 0) (by simp [results, Tryz.results173, go_sem]) rfl ⟨rfl, rfl⟩
  by_cases h : 3 ≤ N ∧ N ≤ 258
  · obtain ⟨n, hk⟩ := Int.eq_ofNat_of_zero_le (show 0 ≤ N - 3 by omega)
    have HI : Hid (_) := decide_eq_true h
    have hN : N ≤ 257 := by omega
    have hN3 : 3 ≤ N := h.1
    have h258' : (N == 258) = false := by rw [beq_eq_false_iff_ne]; exact h258
    clear h258
    have HN : Hid (N = (n : Int) + 3) := by show _ = _; omega
    have hl := len_yes n (by omega)
    rw [← HN.out] at hl
    have HL : Hid (_) := hl
    clear h hk hl
    go_enter Tryz.func173, Tryz.ntmps173
    go_wp2_with fail
    refine (in_is _ 3 258 true HI.out _).mono ?_
    rintro e w1 ⟨rfl, rfl⟩
    go_wp2
    go_loop [5, 6, 7] (fun c f b => ∃ (g a B : Int) (k : Nat), 257 ≤ g ∧ g ≤ 600 ∧ 3 ≤ a ∧ a ≤ N ∧ 0 ≤ B ∧ B ≤ 15 ∧ c = .int .i64 g ∧ f = .int .i64 a ∧ b = .int .i64 B ∧ Hid (g = k + 257 ∧ a = (Math.cleast 4 k : Int) + 3 ∧ B = (Math.cbits 4 k : Int) ∧ k ≤ Math.cleast 4 k)) (fun c _ _ => 600 - (intOf c).toNat)
    case atStart => exact ⟨257, 3, 0, 0, by omega, by omega, by omega, by omega, by omega, by omega, rfl, rfl, rfl, by simp [Hid, Math.cleast, Math.cbits]⟩
    case round =>
      obtain ⟨g, a, B, k, hg1, hg2, ha1, ha2, hB1, hB2, rfl, rfl, rfl, H⟩ := hrel
      obtain ⟨B, rfl⟩ := Int.eq_ofNat_of_zero_le hB1
      have hB : B ≤ 15 := by omega
      have hP := p2_pos B
      have hP2 := p2_bd B (by omega)
      have HP : Hid (∀ w, _) := fun w => pow2_val B w (by omega)
      have HS := Math.cleast_succ 4 k (by omega)
      have hbk : B = Math.cbits 4 k := by have := H.out.2.2.1; omega
      rw [← hbk] at HS
      have HS2 : Hid (Math.cleast 4 (k + 1) = Math.cleast 4 k + p2 B) := HS
      clear HS hbk
      generalize p2 B = Q at *
      by_cases hge : a + (Q : Int) ≤ N
      · have hk1 : k + 1 ≤ Math.cleast 4 (k + 1) ∧ Math.cleast 4 (k + 1) ≤ 254 := by
          have h1 := HS2.out
          have h2 := H.out
          have h3 := HN.out
          omega
        have hcb : Math.cbits 4 (k + 1) ≤ 15 := by
          apply Classical.byContradiction
          intro hn
          have h1 : Math.cleast 4 68 ≤ Math.cleast 4 (k + 1) := Math.cleast_mono 4 68 (k + 1) (by omega) (by unfold Math.cbits at hn; omega)
          have h2 : Math.cleast 4 68 = 262144 := by decide
          omega
        have HK : Hid (_) := hk1
        have hg3 : g + 1 ≤ 600 := by have h2 := H.out; omega
        clear hk1
        by_cases h4 : 265 ≤ g + 1
        · have hq : (Math.cbits 4 (k + 1) : Int) = (g + 1 - 261) / 4 := by have h2 := H.out; unfold Math.cbits; omega
          have HQ : Hid (_) := hq
          have hq2 : (g + 1 - 261) / 4 ≤ 15 := by omega
          clear hq hcb
          generalize hg' : g + 1 = G at *
          go_wp2_with (go_at_call 146; refine (HP.out _).mono ?_; rintro e w' ⟨rfl, rfl⟩)
          go_round
          case rel => exact ⟨G, a + Q, (G - 261) / 4, k + 1, by omega, by omega, by omega, by omega, by omega, by omega, by go_num, by go_num, by go_num, by have h1 := HS2.out; have h2 := H.out; have h3 := HQ.out; have h4 := HK.out; show _ ∧ _ ∧ _ ∧ _; omega⟩
          case measure => simp [intOf]; omega
        · have hq : Math.cbits 4 (k + 1) = 0 := by have h2 := H.out; unfold Math.cbits; omega
          have hb0 : B = 0 := by have h2 := H.out; unfold Math.cbits at h2; omega
          subst hb0
          have HQ : Hid (_) := hq
          clear hq hcb
          generalize hg' : g + 1 = G at *
          go_wp2_with (go_at_call 146; refine (HP.out _).mono ?_; rintro e w' ⟨rfl, rfl⟩)
          go_round
          case rel => exact ⟨G, a + Q, 0, k + 1, by omega, by omega, by omega, by omega, by omega, by omega, by go_num, by go_num, rfl, by have h1 := HS2.out; have h2 := H.out; have h3 := HQ.out; have h4 := HK.out; show _ ∧ _ ∧ _ ∧ _; omega⟩
          case measure => simp [intOf]; omega
      · have hc := Math.code_of 2 k n (by show Math.cleast 4 k ≤ n; have h2 := H.out; have h3 := HN.out; omega) (by show n < Math.cleast 4 k + 2 ^ Math.cbits 4 k; rw [← Math.cleast_succ 4 k (by omega), HS2.out]; have h2 := H.out; have h3 := HN.out; omega)
        have HC : Hid (lenC N = g ∧ lenB N = B ∧ lenX N = N - a) := by
          show _ ∧ _ ∧ _
          obtain ⟨l1, l2, l3⟩ := HL.out
          have h2 := H.out
          have h3 := HN.out
          have h4 : Math.cleast (2 ^ 2) k = Math.cleast 4 k := rfl
          have h5 : Math.cbits (2 ^ 2) k = Math.cbits 4 k := rfl
          rw [h4, h5] at hc
          refine ⟨?_, ?_, ?_⟩ <;> omega
        clear hc HS2
        go_wp2_with (go_at_call 146; refine (HP.out _).mono ?_; rintro e w' ⟨rfl, rfl⟩)
        refine bodyPost_ret (v := t3 (lenC N) (lenB N) (lenX N)) ?_ rfl ⟨rfl, rfl⟩
        rw [HC.out.1, HC.out.2.1, HC.out.2.2]
        simp [results, Tryz.results173, go_sem]
  · obtain ⟨e1, e2, e3⟩ := len_no N h
    rw [e1, e2, e3]
    have HI : Hid (_) := decide_eq_false h
    go_enter Tryz.func173, Tryz.ntmps173
    go_wp2_with fail
    refine (in_is _ 3 258 false HI.out _).mono ?_
    rintro e w1 ⟨rfl, rfl⟩
    go_wp2
    refine bodyPost_ret (v := t3 (-1) 0 0) (by simp [results, Tryz.results173, go_sem]) rfl ⟨rfl, rfl⟩

end Pk
end Go.Proofs.YtlgolnddhfadeabGreatDoor

/- The mathematics of chapter 3: bits that are read. -/
namespace Go.Proofs.YtlgolnddhfadeabGreatDoor
namespace Math

/-- Bit number i of a text; behind its end noughts. -/
def bitAt (s : ByteArray) (i : Nat) : Nat := (s.data.toList.getD (i / 8) 0).toNat / 2 ^ (i % 8) % 2

theorem bitAt_le (s : ByteArray) (i : Nat) : bitAt s i ≤ 1 := by unfold bitAt; omega

theorem bitAt_far (s : ByteArray) (i : Nat) (h : 8 * s.size ≤ i) : bitAt s i = 0 := by
  unfold bitAt
  rw [List.getD_eq_getElem?_getD, List.getElem?_eq_none (by rw [Array.length_toList]; show s.size ≤ i / 8; omega)]
  show 0 / 2 ^ (i % 8) % 2 = 0
  rw [Nat.zero_div]

theorem bitAt_in (s : ByteArray) (i : Nat) (h : i / 8 < s.size) : bitAt s i = s[i / 8].toNat / 2 ^ (i % 8) % 2 := by
  unfold bitAt
  have h1 : i / 8 < s.data.toList.length := by rw [Array.length_toList]; exact h
  rw [List.getD_eq_getElem?_getD, List.getElem?_eq_getElem h1]
  rfl

/-- The number of n bits from a place on, the lowest first; the highest first. -/
def lowAt (s : ByteArray) (a : Nat) : Nat → Nat
  | 0 => 0
  | n + 1 => lowAt s a n + bitAt s (a + n) * 2 ^ n

def topAt (s : ByteArray) (a : Nat) : Nat → Nat
  | 0 => 0
  | n + 1 => 2 * topAt s a n + bitAt s (a + n)

theorem lowAt_lt (s : ByteArray) (a n : Nat) : lowAt s a n < 2 ^ n := by
  induction n with
  | zero => simp [lowAt]
  | succ n ih =>
    have h1 := bitAt_le s (a + n)
    have h2 : bitAt s (a + n) * 2 ^ n ≤ 1 * 2 ^ n := Nat.mul_le_mul_right _ h1
    rw [lowAt, Nat.pow_succ]
    omega

theorem topAt_lt (s : ByteArray) (a n : Nat) : topAt s a n < 2 ^ n := by
  induction n with
  | zero => simp [topAt]
  | succ n ih =>
    have h1 := bitAt_le s (a + n)
    rw [topAt, Nat.pow_succ]
    omega

/-- The symbol at a place, and how many bits it takes. -/
def symAt (s : ByteArray) (a : Nat) : Nat :=
  if topAt s a 7 < 24 then 256 + topAt s a 7
  else if topAt s a 8 < 192 then topAt s a 8 - 48
  else if topAt s a 8 < 200 then 280 + topAt s a 8 - 192
  else 144 + topAt s a 9 - 400

def symLen (s : ByteArray) (a : Nat) : Nat := if topAt s a 7 < 24 then 7 else if topAt s a 8 < 200 then 8 else 9

end Math
end Go.Proofs.YtlgolnddhfadeabGreatDoor

/- Contracts of the model's reader of bits. -/
namespace Go.Proofs.YtlgolnddhfadeabGreatDoor
namespace Pk
open Go.ChangeShapes Go.WideShapes Go.ChangeAt Go.RowKit
open Math (bitAt lowAt topAt)
set_option linter.unusedSimpArgs false
set_option linter.unusedVariables false

/-- The reader at block c stands behind a bits of the text; behind its end it is cut off. -/
def RdS (B c : Nat) (s : ByteArray) (a : Nat) (w : World) : Prop := B ≤ c ∧ w.heap[c]? = some (.cells #[.string s, .int .i64 ((min a (8 * s.size) : Nat) : Int), .bool (decide (8 * s.size < a))] 136)

/-- All but block c is as it was. -/
def Mv (c : Nat) (w w1 : World) : Prop := w1.heap.size = w.heap.size ∧ ∀ k, k ≠ c → w1.heap[k]? = w.heap[k]?

theorem Mv.refl (c : Nat) (w : World) : Mv c w w := ⟨rfl, fun _ _ => rfl⟩

theorem Mv.trans {c : Nat} {w w1 w2 : World} (h : Mv c w w1) (g : Mv c w1 w2) : Mv c w w2 := ⟨g.1.trans h.1, fun k hk => (g.2 k hk).trans (h.2 k hk)⟩

theorem Mv.set (c i : Nat) (w : World) (u : Value) : Mv c w (w.setCell ⟨c, i, none⟩ u) := ⟨World.size_setCell _ _ _, fun k hk => Below.heap_setCell _ _ _ _ hk⟩

theorem Mv.drewN {c : Nat} {w w1 : World} (h : Mv c w w1) (n : Nat) : Mv c w (w1.drewN n) := ⟨h.1, h.2⟩

theorem below_drewN {B : Nat} {w w1 : World} (L : Below B w w1) (q : Nat) : Below B w (w1.drewN q) := L.trans ⟨rfl, rfl, rfl, Nat.le_refl _, fun _ _ => rfl⟩

theorem hp_set {w : World} {c i : Nat} {cs : Array Value} {t : TypeId} {f : Nat × Nat} (h : w.heap[c]? = some (.cells cs t f)) (u : Value) : (w.setCell ⟨c, i, none⟩ u).heap[c]? = some (.cells (cs.setIfInBounds i u) t f) := by
  unfold World.setCell
  simp [Array.getElem?_modify, h]

theorem wrap_is (n : Int) (h : -9223372036854775808 ≤ n ∧ n ≤ 9223372036854775807) : IntKind.i64.wrap n = n := by
  rw [IntKind.wrap_i64]
  omega

theorem bit_quo (b r : Nat) : (b : Int) / (p2 r : Int) = ((b / 2 ^ r : Nat) : Int) := by
  unfold p2
  simp

set_option maxRecDepth 100000 in
set_option maxHeartbeats 1000000 in
theorem bitS_val (B c : Nat) (s : ByteArray) (a : Nat) (w : World) (hs : s.size ≤ 100000) (ha : a ≤ 1000000) (H : RdS B c s a w) :
    Calls Tryz.prog 112 #[.pointer (some ⟨c, 0, none⟩)] w fun e w' => e = .returned (.int .i64 (bitAt s a)) ∧ RdS B c s (a + 1) w' ∧ Mv c w w' ∧ Below B w w' := by
  obtain ⟨hB, m⟩ := H
  have f1 := frozen_at m 1
  have f2 := frozen_at m 2
  have c0 : w.cell? ⟨c, 0, none⟩ = some (.string s) := cell_at m 0
  by_cases h : a < 8 * s.size
  · have e1 : min a (8 * s.size) = a := by omega
    have e2 : decide (8 * s.size < a) = false := decide_eq_false (by omega)
    rw [e1, e2] at m
    have c1 : w.cell? ⟨c, 1, none⟩ = some (.int .i64 (a : Int)) := cell_at m 1
    have hi : a / 8 < s.size := by omega
    have HB : Hid (_) := Math.bitAt_in s a hi
    have hq : (a : Int) / 8 = ((a / 8 : Nat) : Int) := by omega
    have hr : (a : Int) % 8 = ((a % 8 : Nat) : Int) := by omega
    have hr8 : a % 8 ≤ 40 := by omega
    have ht : Int.tmod (a : Int) 8 = ((a % 8 : Nat) : Int) := by rw [Int.tmod_eq_emod_of_nonneg (by omega)]; omega
    have htd : Int.tdiv (a : Int) 8 = ((a / 8 : Nat) : Int) := by rw [Int.tdiv_eq_ediv_of_nonneg (by omega)]; omega
    have ht2 : Int.tmod ((s[a / 8].toNat / 2 ^ (a % 8) : Nat) : Int) 2 = ((s[a / 8].toNat / 2 ^ (a % 8) % 2 : Nat) : Int) := (Int.ofNat_tmod _ _).symm
    have htq : Int.tdiv (s[a / 8].toNat : Int) (p2 (a % 8) : Int) = ((s[a / 8].toNat / 2 ^ (a % 8) : Nat) : Int) := by rw [Int.tdiv_eq_ediv_of_nonneg (by omega)]; exact bit_quo _ _
    have hP := p2_pos (a % 8)
    have hP2 := p2_bd (a % 8) hr8
    have HPW : Hid (∀ w, _) := fun w => pow2_val (a % 8) w hr8
    have hdv := bit_quo s[a / 8].toNat (a % 8)
    have hbt := s[a / 8].toNat_lt
    have hd8 : ¬ (8 * (s.size : Int) ≤ (a : Int)) := by omega
    have hd8' : decide (8 * (s.size : Int) ≤ (a : Int)) = false := decide_eq_false hd8
    have HM : Hid (_) := m
    have hil : ((a / 8 : Nat) : Int) < (s.size : Int) := by omega
    have hmod : ((s[a / 8].toNat / 2 ^ (a % 8) : Nat) : Int) % 2 = ((s[a / 8].toNat / 2 ^ (a % 8) % 2 : Nat) : Int) := by omega
    have HW : Hid (∀ (w1 : World) n, w1.heap[c]? = some (.cells #[.string s, .int .i64 (a : Int), .bool false] 136) → RdS B c s (a + 1) ((w1.drewN n).setCell ⟨c, 1, none⟩ (.int .i64 ((a : Int) + 1)))) := by
      intro w1 n m1
      refine ⟨hB, ?_⟩
      rw [show min (a + 1) (8 * s.size) = a + 1 by omega, decide_eq_false (show ¬ 8 * s.size < a + 1 by omega)]
      exact hp_set (w := w1.drewN n) (i := 1) m1 (.int .i64 ((a : Int) + 1))
    have hdl : s[a / 8].toNat / 2 ^ (a % 8) ≤ s[a / 8].toNat := Nat.div_le_self _ _
    rw [HB.out]
    have HA : Hid (a = 8 * (a / 8) + a % 8) := by show _ = _; omega
    clear m e1 e2 h HB
    generalize a / 8 = i at *
    generalize a % 8 = r at *
    generalize p2 r = Q at *
    generalize s[i].toNat / 2 ^ r = Y at *
    generalize hYb : Y % 2 = yb at *
    have hyb1 : yb ≤ 1 := by omega
    clear hYb
    have hi0 : (0 : Int) ≤ (i : Int) := by omega
    have hw1 : IntKind.i64.wrap (i : Int) = i := wrap_is _ (by omega)
    have hw2 : IntKind.i64.wrap (r : Int) = r := wrap_is _ (by omega)
    have hw3 : IntKind.i64.wrap (Y : Int) = Y := wrap_is _ (by omega)
    have hw5 : IntKind.i64.wrap (s[i].toNat : Int) = s[i].toNat := wrap_is _ (by omega)
    have hw4 : IntKind.i64.wrap (yb : Int) = yb := wrap_is _ (by omega)
    go_enter Tryz.func112, Tryz.ntmps112
    go_wp2
    go_quiet (fail)
    have m9 : (w.drewN nq).heap[c]? = some (.cells #[.string s, .int .i64 (a : Int), .bool false] 136) := HM.out
    have M9 : Mv c w (w.drewN nq) := (Mv.refl c w).drewN nq
    have L9 : Below B w (w.drewN nq) := below_drewN (Below.refl B w) nq
    clear c0 c1 f1 f2 HM
    generalize w.drewN nq = w9 at m9 M9 L9 ⊢
    have c0 : w9.cell? ⟨c, 0, none⟩ = some (.string s) := cell_at m9 0
    have c1 : w9.cell? ⟨c, 1, none⟩ = some (.int .i64 (a : Int)) := cell_at m9 1
    have f1 := frozen_at m9 1
    have HM : Hid (_) := m9
    clear m9
    go_wp2_with fail
    go_quiet ((go_at_call 146; exact Calls.quiet_of_same (HPW.out _)))
    go_wp2
    go_ret
    exact ⟨rfl, HW.out _ _ HM.out, (M9.drewN _).trans (Mv.set c 1 _ _), (below_drewN L9 _).setCell hB _⟩
  · have e1 : min a (8 * s.size) = 8 * s.size := by omega
    rw [e1] at m
    have HB : Hid (_) := Math.bitAt_far s a (by omega)
    have c1 : w.cell? ⟨c, 1, none⟩ = some (.int .i64 ((8 * s.size : Nat) : Int)) := cell_at m 1
    have c2 : w.cell? ⟨c, 2, none⟩ = some (.bool (decide (8 * s.size < a))) := cell_at m 2
    have HW : Hid (∀ n, RdS B c s (a + 1) ((w.drewN n).setCell ⟨c, 2, none⟩ (.bool true))) := by
      intro n
      refine ⟨hB, ?_⟩
      rw [show min (a + 1) (8 * s.size) = 8 * s.size by omega, decide_eq_true (show 8 * s.size < a + 1 by omega)]
      exact hp_set (w := w.drewN n) (i := 2) m (.bool true)
    rw [HB.out]
    generalize decide (8 * s.size < a) = cc at *
    have e8 : ((8 * s.size : Nat) : Int) = 8 * (s.size : Int) := by omega
    rw [e8] at c1
    clear m e1 HB e8 h
    go_enter Tryz.func112, Tryz.ntmps112
    go_wp2
    go_quiet (fail)
    go_wp2
    go_ret
    exact ⟨rfl, HW.out _, (Mv.refl c w).drewN _ |>.trans (Mv.set c 2 _ _), (below_drewN (Below.refl B w) _).setCell hB _⟩

set_option maxHeartbeats 1000000 in
theorem numS_val (B c : Nat) (s : ByteArray) (a n : Nat) (w : World) (hs : s.size ≤ 100000) (ha : a ≤ 900000) (hn : n ≤ 30) (H : RdS B c s a w) :
    Calls Tryz.prog 113 #[.pointer (some ⟨c, 0, none⟩), .int .i64 n] w fun e w' => e = .returned (.int .i64 (lowAt s a n)) ∧ RdS B c s (a + n) w' ∧ Mv c w w' ∧ Below B w w' := by
  go_enter Tryz.func113, Tryz.ntmps113
  go_wp2
  go_loopw [5, 6] (fun x i wr => ∃ (k y : Nat), k ≤ n ∧ y < 1099511627776 ∧ x = .int .i64 y ∧ i = .int .i64 k ∧ Hid (y = lowAt s a k) ∧ Hid (RdS B c s (a + k) wr) ∧ Mv c w wr ∧ Below B w wr) (fun _ i _ => n - (intOf i).toNat)
  case atStart => exact ⟨0, 0, by omega, by omega, rfl, rfl, rfl, H, Mv.refl _ _, Below.refl _ _⟩
  case round =>
    obtain ⟨k, y, hk, hy, rfl, rfl, HY, HR, M, L⟩ := hrel
    by_cases hkn : k < n
    · have HN : Hid (lowAt s a (k + 1) = y + bitAt s (a + k) * p2 k) := by show _ = _; rw [HY.out]; rfl
      have hlt := Math.lowAt_lt s a (k + 1)
      have hlp : 2 ^ (k + 1) ≤ 2 ^ 31 := Nat.pow_le_pow_right (by omega) (by omega)
      rw [HN.out] at hlt
      have hb1 := Math.bitAt_le s (a + k)
      have HBV : Hid (_) := bitS_val B c s (a + k) wr hs (by omega) HR.out
      have HPW : Hid (∀ w, _) := fun w => pow2_val k w (by omega)
      have hP2 := p2_bd k (by omega)
      generalize bitAt s (a + k) = b at *
      generalize p2 k = Q at *
      have hbq : b * Q ≤ 1099511627776 := by
        have h3 : b * Q ≤ 1 * Q := Nat.mul_le_mul_right _ hb1
        omega
      have hmul : (b : Int) * (Q : Int) = ((b * Q : Nat) : Int) := by simp
      generalize b * Q = bq at *
      clear HR
      go_wp2_with fail
      refine (Calls.mono HBV.out ?_)
      rintro e w2 ⟨rfl, R2, M2, L2⟩
      have R3 : Hid (RdS B c s (a + (k + 1)) w2) := R2
      have M3 := M.trans M2
      have L3 := L.trans L2
      clear R2 M2 L2 M L HBV
      go_wp2_with fail
      refine (HPW.out _).mono ?_
      rintro e w4 ⟨rfl, rfl⟩
      go_wp2
      go_roundw
      case rel => exact ⟨k + 1, y + bq, by omega, by omega, by go_num, by go_num, HN.out.symm, R3, M3, L3⟩
      case measure => simp [intOf]; omega
    · obtain rfl : k = n := by omega
      go_wp2
      go_ret
      exact ⟨by rw [← HY.out] <;> rfl, HR.out, M, L⟩

set_option maxHeartbeats 1000000 in
theorem topS_val (B c : Nat) (s : ByteArray) (a n : Nat) (w : World) (hs : s.size ≤ 100000) (ha : a ≤ 900000) (hn : n ≤ 30) (H : RdS B c s a w) :
    Calls Tryz.prog 149 #[.pointer (some ⟨c, 0, none⟩), .int .i64 n] w fun e w' => e = .returned (.int .i64 (topAt s a n)) ∧ RdS B c s (a + n) w' ∧ Mv c w w' ∧ Below B w w' := by
  go_enter Tryz.func149, Tryz.ntmps149
  go_wp2
  go_loopw [5, 6] (fun x i wr => ∃ (k y : Nat), k ≤ n ∧ y < 1099511627776 ∧ x = .int .i64 y ∧ i = .int .i64 k ∧ Hid (y = topAt s a k) ∧ Hid (RdS B c s (a + k) wr) ∧ Mv c w wr ∧ Below B w wr) (fun _ i _ => n - (intOf i).toNat)
  case atStart => exact ⟨0, 0, by omega, by omega, rfl, rfl, rfl, H, Mv.refl _ _, Below.refl _ _⟩
  case round =>
    obtain ⟨k, y, hk, hy, rfl, rfl, HY, HR, M, L⟩ := hrel
    by_cases hkn : k < n
    · have HN : Hid (topAt s a (k + 1) = 2 * y + bitAt s (a + k)) := by show _ = _; rw [HY.out]; rfl
      have hlt := Math.topAt_lt s a (k + 1)
      have hlp : 2 ^ (k + 1) ≤ 2 ^ 31 := Nat.pow_le_pow_right (by omega) (by omega)
      rw [HN.out] at hlt
      have hb1 := Math.bitAt_le s (a + k)
      have HBV : Hid (_) := bitS_val B c s (a + k) wr hs (by omega) HR.out
      generalize bitAt s (a + k) = b at *
      clear HR
      go_wp2_with fail
      refine (Calls.mono HBV.out ?_)
      rintro e w2 ⟨rfl, R2, M2, L2⟩
      have R3 : Hid (RdS B c s (a + (k + 1)) w2) := R2
      have M3 := M.trans M2
      have L3 := L.trans L2
      clear R2 M2 L2 M L HBV
      go_wp2
      go_roundw
      case rel => exact ⟨k + 1, 2 * y + b, by omega, by omega, by go_num, by go_num, HN.out.symm, R3, M3, L3⟩
      case measure => simp [intOf]; omega
    · obtain rfl : k = n := by omega
      go_wp2
      go_ret
      exact ⟨by rw [← HY.out] <;> rfl, HR.out, M, L⟩

/-- A row whose block is not the reader's is kept. -/
theorem own_mv {c base e size : Nat} {w w1 : World} {v : Value} {n : Nat} {xs : List Value} {cs : Array Value} {t : TypeId} {f : Nat × Nat} (h : w.ownsRow base e size v n xs) (M : Mv c w w1) (m : w.heap[c]? = some (.cells cs t f)) (hte : t ≠ e) : w1.ownsRow base e size v n xs := by
  have hne := own_ne' h m hte
  obtain ⟨h1, h2⟩ := h
  refine ⟨h1, ?_⟩
  rcases h2 with h2 | ⟨g, cap, cur, hv, hg, hh, hr⟩
  · exact Or.inl h2
  · refine Or.inr ⟨g, cap, cur, hv, hg, ?_, hr⟩
    have hgc : g ≠ c := by
      intro hgc
      subst hgc
      exact hne (by rw [hv]; rfl)
    rw [M.2 g hgc]
    exact hh

end Pk
end Go.Proofs.YtlgolnddhfadeabGreatDoor

/- Contracts of the model's reader of symbols. -/
namespace Go.Proofs.YtlgolnddhfadeabGreatDoor
namespace Pk
open Go.ChangeShapes Go.WideShapes Go.ChangeAt Go.RowKit
open Math (bitAt lowAt topAt symAt symLen)
set_option linter.unusedSimpArgs false
set_option linter.unusedVariables false

set_option maxRecDepth 100000 in
set_option maxHeartbeats 1000000 in
theorem symS_val (B c : Nat) (s : ByteArray) (a : Nat) (w : World) (hs : s.size ≤ 100000) (ha : a ≤ 890000) (H : RdS B c s a w) :
    Calls Tryz.prog 147 #[.pointer (some ⟨c, 0, none⟩)] w fun e w' => e = .returned (.int .i64 (symAt s a)) ∧ RdS B c s (a + symLen s a) w' ∧ Mv c w w' ∧ Below B w w' := by
  have h7 := Math.topAt_lt s a 7
  have hb7 := Math.bitAt_le s (a + 7)
  have hb8 := Math.bitAt_le s (a + 8)
  have e8 : topAt s a 8 = 2 * topAt s a 7 + bitAt s (a + 7) := rfl
  have e9 : topAt s a 9 = 2 * (2 * topAt s a 7 + bitAt s (a + 7)) + bitAt s (a + 8) := rfl
  have HT : Hid (_) := topS_val B c s a 7 w hs (by omega) (by omega) H
  have HB7 : Hid (∀ w, RdS B c s (a + 7) w → _) := fun w => bitS_val B c s (a + 7) w hs (by omega)
  have HB8 : Hid (∀ w, RdS B c s (a + 7 + 1) w → _) := fun w => bitS_val B c s (a + 8) w hs (by omega)
  have HS : Hid (symAt s a = if topAt s a 7 < 24 then 256 + topAt s a 7 else if topAt s a 8 < 192 then topAt s a 8 - 48 else if topAt s a 8 < 200 then 280 + topAt s a 8 - 192 else 144 + topAt s a 9 - 400) := rfl
  have HL : Hid (symLen s a = if topAt s a 7 < 24 then 7 else if topAt s a 8 < 200 then 8 else 9) := rfl
  rw [e8, e9] at HS
  rw [e8] at HL
  generalize symAt s a = Y at *
  generalize symLen s a = N at *
  generalize topAt s a 7 = x at *
  generalize bitAt s (a + 7) = b7 at *
  generalize bitAt s (a + 8) = b8 at *
  clear e8 e9 H
  go_enter Tryz.func147, Tryz.ntmps147
  go_wp2_with fail
  refine (Calls.mono HT.out ?_)
  rintro e w2 ⟨rfl, R2, M2, L2⟩
  clear HT
  by_cases h1 : x < 24
  · have q1 := HS.out
    have q2 := HL.out
    rw [if_pos h1] at q1 q2
    subst q1 q2
    have HR : Hid (_) := R2
    clear HS HL R2 HB7 HB8
    go_wp2
    go_ret
    exact ⟨by go_num, HR.out, M2, L2⟩
  · have q1 := HS.out
    have q2 := HL.out
    rw [if_neg h1] at q1 q2
    have HQ1 : Hid (_) := q1
    have HQ2 : Hid (_) := q2
    have HC : Hid (_) := HB7.out w2 R2
    clear HS HL R2 q1 q2 HB7
    go_wp2_with fail
    refine (Calls.mono HC.out ?_)
    rintro e w3 ⟨rfl, R3, M3, L3⟩
    have M := M2.trans M3
    have L := L2.trans L3
    clear M2 M3 L2 L3 HC
    by_cases h2 : 2 * x + b7 < 192
    · have q1 := HQ1.out
      have q2 := HQ2.out
      rw [if_pos h2] at q1
      rw [if_pos (by omega)] at q2
      subst q1 q2
      have HR : Hid (_) := R3
      clear HQ1 HQ2 R3 HB8
      go_wp2
      go_ret
      exact ⟨by go_num, HR.out, M, L⟩
    · by_cases h3 : 2 * x + b7 < 200
      · have q1 := HQ1.out
        have q2 := HQ2.out
        rw [if_neg h2, if_pos h3] at q1
        rw [if_pos h3] at q2
        subst q1 q2
        have HR : Hid (_) := R3
        clear HQ1 HQ2 R3 HB8
        go_wp2
        go_ret
        exact ⟨by go_num, HR.out, M, L⟩
      · have q1 := HQ1.out
        have q2 := HQ2.out
        rw [if_neg h2, if_neg h3] at q1
        rw [if_neg h3] at q2
        subst q1 q2
        have HC : Hid (_) := HB8.out w3 R3
        clear HQ1 HQ2 R3 HB8
        go_wp2_with fail
        refine (Calls.mono HC.out ?_)
        rintro e w4 ⟨rfl, R4, M4, L4⟩
        have HR : Hid (_) := R4
        have M5 := M.trans M4
        have L5 := L.trans L4
        clear R4 M4 L4 M L HC
        go_wp2
        go_ret
        exact ⟨by go_num, HR.out, M5, L5⟩

end Pk
end Go.Proofs.YtlgolnddhfadeabGreatDoor

/- Contracts of the model's lengths and ways back, off their codes. -/
namespace Go.Proofs.YtlgolnddhfadeabGreatDoor
namespace Pk
open Go.ChangeShapes Go.WideShapes Go.ChangeAt Go.RowKit
set_option linter.unusedSimpArgs false
set_option linter.unusedVariables false

abbrev ii2 (a b : Int) : Value := .tuple #[.int .i64 a, .int .i64 b]

set_option maxRecDepth 100000 in
theorem len_hit : ∀ n, n < 255 → Math.codeX 2 n = 0 → Math.cleast 4 (Math.codeC 2 n) = n ∧ Math.cbits 4 (Math.codeC 2 n) = Math.nbits 2 n := by decide +kernel

set_option maxRecDepth 100000 in
theorem len_there : ∀ k, k < 28 → Math.cleast 4 k < 255 ∧ Math.codeC 2 (Math.cleast 4 k) = k ∧ Math.codeX 2 (Math.cleast 4 k) = 0 ∧ Math.cbits 4 k ≤ 5 := by decide +kernel

theorem backBits_val (k : Nat) (w : World) (hk : k ≤ 40) :
    Calls Tryz.prog 174 #[.int .i64 k] w fun e w' => e = .returned (.int .i64 (Math.cbits 2 k)) ∧ w' = w := by
  have HC : Hid (Math.cbits 2 k = k / 2 - 1) := rfl
  generalize Math.cbits 2 k = C at *
  by_cases h : k < 4
  · obtain rfl : C = 0 := by have := HC.out; omega
    clear HC
    go_enter Tryz.func174, Tryz.ntmps174
    go_wp2
    go_ret
    exact ⟨rfl, rfl⟩
  · have h1 : ((k : Int) - 2) / 2 = C := by have := HC.out; omega
    have h2 : Int.tdiv ((k : Int) - 2) 2 = C := by rw [Int.tdiv_eq_ediv_of_nonneg (by omega)]; exact h1
    have hC : C ≤ 40 := by have := HC.out; omega
    clear HC
    go_enter Tryz.func174, Tryz.ntmps174
    go_wp2
    go_ret
    exact ⟨by go_num, rfl⟩

set_option maxHeartbeats 1000000 in
theorem backOf_val (k : Nat) (w : World) (hk : k ≤ 29) :
    Calls Tryz.prog 150 #[.int .i64 k] w fun e w' => e = .returned (ii2 ((Math.cleast 2 k : Nat) + 1) (Math.cbits 2 k : Nat)) ∧ w' = w := by
  go_enter Tryz.func150, Tryz.ntmps150
  go_wp2
  go_loopw [4, 5] (fun x i wr => ∃ (j y : Nat), j ≤ k ∧ y < 1099511627776 ∧ x = .int .i64 ((y : Int) + 1) ∧ i = .int .i64 j ∧ Hid (y = Math.cleast 2 j) ∧ wr = w) (fun _ i _ => k - (intOf i).toNat)
  case atStart => exact ⟨0, 0, by omega, by omega, by go_num, rfl, rfl, rfl⟩
  case round =>
    obtain ⟨j, y, hj, hy, rfl, rfl, HY, rfl⟩ := hrel
    by_cases hjk : j < k
    · have HN : Hid (Math.cleast 2 (j + 1) = y + p2 (Math.cbits 2 j)) := by show _ = _; rw [HY.out]; exact Math.cleast_succ 2 j (by omega)
      have hc : Math.cbits 2 j ≤ 15 := by unfold Math.cbits; omega
      have HB : Hid (_) := backBits_val j wr (by omega)
      have HP : Hid (_) := pow2_val (Math.cbits 2 j) wr (by omega)
      have hlt : y + p2 (Math.cbits 2 j) < 1099511627776 := by
        rw [← HN.out]
        have h9 : ∀ q, q < 31 → Math.cleast 2 q < 1099511627776 := by decide +kernel
        exact h9 _ (by omega)
      generalize p2 (Math.cbits 2 j) = Q at *
      generalize Math.cbits 2 j = C at *
      go_wp2_with fail
      refine (Calls.mono HB.out ?_)
      rintro e w2 ⟨rfl, rfl⟩
      go_wp2_with fail
      refine (Calls.mono HP.out ?_)
      rintro e w2 ⟨rfl, rfl⟩
      go_wp2
      go_roundw
      case rel => exact ⟨j + 1, y + Q, by omega, by omega, by go_num, by go_num, HN.out.symm, by first | rfl | trivial⟩
      case measure => simp [intOf]; omega
    · obtain rfl : j = k := by omega
      have HB : Hid (_) := backBits_val j wr (by omega)
      have HE : Hid (∃ C, Math.cbits 2 j = C ∧ C ≤ 40) := ⟨_, rfl, by unfold Math.cbits; omega⟩
      obtain ⟨C, hC, hC4⟩ := HE.out
      rw [hC] at HB
      have HD : Hid (_) := hC
      clear hC HE
      go_wp2_with fail
      refine (Calls.mono HB.out ?_)
      rintro e w2 ⟨rfl, rfl⟩
      go_wp2
      go_ret2
      exact ⟨by rw [← HY.out, HD.out] <;> rfl, rfl⟩

set_option maxHeartbeats 1000000 in
theorem lenOf_last (w : World) :
    Calls Tryz.prog 148 #[.int .i64 285] w fun e w' => e = .returned (ii2 258 0) ∧ w' = w := by
  go_enter Tryz.func148, Tryz.ntmps148
  go_wp2
  go_ret2
  exact ⟨rfl, rfl⟩

set_option maxRecDepth 100000 in
set_option maxHeartbeats 1000000 in
theorem lenOf_val (k : Nat) (w : World) (hk : k < 28) :
    Calls Tryz.prog 148 #[.int .i64 ((k : Int) + 257)] w fun e w' => e = .returned (ii2 ((Math.cleast 4 k : Nat) + 3) (Math.cbits 4 k : Nat)) ∧ w' = w := by
  have hne : ((k : Int) + 257 == 285) = false := by rw [beq_eq_false_iff_ne]; omega
  obtain ⟨hl, HC, HX, hb⟩ := len_there k hk
  have HCC : Hid (Math.codeC 2 (Math.cleast 4 k) = k ∧ Math.codeX 2 (Math.cleast 4 k) = 0) := ⟨HC, HX⟩
  clear HC HX
  go_enter Tryz.func148, Tryz.ntmps148
  go_wp2
  go_loopw [4] (fun i wr => ∃ (j : Nat), j ≤ Math.cleast 4 k ∧ i = .int .i64 ((j : Int) + 3) ∧ wr = w) (fun i _ => 300 - (intOf i).toNat)
  case atStart => exact ⟨0, by omega, by go_num, rfl⟩
  case round =>
    obtain ⟨j, hj, rfl, rfl⟩ := hrel
    have HV : Hid (_) := specLen_val ((j : Int) + 3) wr
    obtain ⟨q1, q2, q3⟩ := len_yes j (by omega)
    rw [q1, q2, q3, Int.add_comm 257] at HV
    clear q1 q2 q3
    have hj5 : (j : Int) + 3 < 258 := by omega
    have HH : Hid (_) := len_hit j (by omega)
    have hnb : Math.nbits 2 j ≤ 100 := by unfold Math.nbits; have := blen_bd j 8 (by omega); omega
    by_cases hx : Math.codeC 2 j = k ∧ Math.codeX 2 j = 0
    · obtain ⟨h1, h2⟩ := hx
      have h3 := HH.out h2
      rw [h1] at h3
      rw [h1, h2] at HV
      have HD : Hid (_) := h3
      clear h3 HH HCC hj hl hb h1 h2
      generalize Math.nbits 2 j = nb at *
      go_wp2_with fail
      refine (Calls.mono HV.out ?_)
      rintro e w2 ⟨rfl, rfl⟩
      go_wp2
      go_ret2
      exact ⟨by rw [HD.out.1, HD.out.2] <;> rfl, rfl⟩
    · have hjk : j < Math.cleast 4 k := by
        apply Classical.byContradiction
        intro hn
        have : j = Math.cleast 4 k := by omega
        subst this
        exact hx HCC.out
      clear HH
      generalize Math.nbits 2 j = nb at *
      generalize Math.codeC 2 j = C at *
      generalize Math.codeX 2 j = X at *
      generalize Math.cleast 4 k = T at *
      by_cases h1 : C = k
      · have h2 : ¬ ((X : Int) = 0) := by omega
        have h2' : ((X : Int) == 0) = false := by simpa using h2
        subst h1
        clear HCC
        go_wp2_with fail
        refine (Calls.mono HV.out ?_)
        rintro e w2 ⟨rfl, rfl⟩
        go_wp2
        go_roundw
        case rel => exact ⟨j + 1, by omega, by go_num, by first | rfl | trivial⟩
        case measure => simp [intOf]; omega
      · have h2 : ¬ (257 + (C : Int) = (k : Int) + 257) := by omega
        have h2' : ((C : Int) + 257 == (k : Int) + 257) = false := by rw [beq_eq_false_iff_ne]; omega
        have h3' : ((C : Int) == (k : Int)) = false := by rw [beq_eq_false_iff_ne]; omega
        have h4' : ¬ ((C : Int) = (k : Int)) := by omega
        have h5' : ¬ ((C : Int) + 257 = (k : Int) + 257) := by omega
        clear HCC
        go_wp2_with fail
        refine (Calls.mono HV.out ?_)
        rintro e w2 ⟨rfl, rfl⟩
        go_wp2
        go_roundw
        case rel => exact ⟨j + 1, by omega, by go_num, by first | rfl | trivial⟩
        case measure => simp [intOf]; omega

end Pk
end Go.Proofs.YtlgolnddhfadeabGreatDoor

/- The contract of the model's reader of a stored block. -/
namespace Go.Proofs.YtlgolnddhfadeabGreatDoor
namespace Math

/-- What a stored block is told to be; its text. -/
def storedC (s : ByteArray) : Nat := if s.size < 5 then 1 else if lowAt s 8 16 + lowAt s 24 16 ≠ 65535 then 3 else if 3000 < lowAt s 8 16 then 5 else if s.size < lowAt s 8 16 + 5 then 1 else 0

def storedT (s : ByteArray) : ByteArray := if storedC s = 0 then s.extract 5 (5 + lowAt s 8 16) else ⟨#[]⟩

end Math
namespace Pk
open Go.ChangeShapes Go.WideShapes Go.ChangeAt Go.RowKit
open Math (bitAt lowAt topAt symAt symLen storedC storedT)
set_option linter.unusedSimpArgs false
set_option linter.unusedVariables false

set_option maxRecDepth 100000 in
set_option maxHeartbeats 1000000 in
theorem storedS_val (B c : Nat) (s : ByteArray) (w : World) (hs1 : 1 ≤ s.size) (hs : s.size ≤ 100000) (H : RdS B c s 3 w) :
    Calls Tryz.prog 115 #[.pointer (some ⟨c, 0, none⟩)] w fun e w' => e = .returned (.tuple #[.string (storedT s), .int .i64 (storedC s)]) ∧ (storedC s = 0 → RdS B c s (40 + 8 * lowAt s 8 16) w') ∧ Mv c w w' ∧ Below B w w' := by
  go_enter Tryz.func115, Tryz.ntmps115
  go_wp2
  go_loopw [] (fun wr => ∃ (q : Nat), 3 ≤ q ∧ q ≤ 8 ∧ RdS B c s q wr ∧ Mv c w wr ∧ Below B w wr) (fun wr => 8 - (intOf ((wr.cell? ⟨c, 1, none⟩).getD undef)).toNat)
  case atStart => exact ⟨3, by omega, by omega, H, Mv.refl _ _, Below.refl _ _⟩
  case round =>
    obtain ⟨q, hq3, hq8, R, M, L⟩ := hrel
    have hB := R.1
    have m := R.2
    rw [show min q (8 * s.size) = q by omega, decide_eq_false (show ¬ 8 * s.size < q by omega)] at m
    have c0 : wr.cell? ⟨c, 0, none⟩ = some (.string s) := cell_at m 0
    have c1 : wr.cell? ⟨c, 1, none⟩ = some (.int .i64 (q : Int)) := cell_at m 1
    have f1 := frozen_at m 1
    have HM : Hid (_) := m
    have HR : Hid (_) := R
    clear m R
    by_cases h8 : q < 8
    · have hm : Int.tmod (q : Int) 8 = (q : Int) := by rw [Int.tmod_eq_emod_of_nonneg (by omega)]; omega
      have hm2 : (q : Int) % 8 = q := by omega
      have hq0 : ((q : Int) != 0) = true := by simp; omega
      have hq0' : ¬ ((q : Int) = 0) := by omega
      have HW : Hid (RdS B c s (q + 1) (wr.setCell ⟨c, 1, none⟩ (.int .i64 ((q : Int) + 1)))) := by
        refine ⟨hB, ?_⟩
        rw [show min (q + 1) (8 * s.size) = q + 1 by omega, decide_eq_false (show ¬ 8 * s.size < q + 1 by omega)]
        exact hp_set (w := wr) (i := 1) HM.out (.int .i64 ((q : Int) + 1))
      go_wp2
      go_roundw
      case rel => exact ⟨q + 1, by omega, by omega, HW.out, M.trans (Mv.set c 1 _ _), L.setCell hB _⟩
      case measure =>
        have h9 := cell_at HW.out.2 1
        rw [show min (q + 1) (8 * s.size) = q + 1 by omega] at h9
        rw [c1]
        have h9' : (wr.setCell ⟨c, 1, none⟩ (.int .i64 ((q : Int) + 1))).cell? ⟨c, 1, none⟩ = some (.int .i64 ((q + 1 : Nat) : Int)) := h9
        simp only [h9', Option.getD_some, intOf]
        omega
    · obtain rfl : q = 8 := by omega
      clear c0 c1 f1 HM hq3 hq8 h8
      have hn1 := Math.lowAt_lt s 8 16
      have hn2 := Math.lowAt_lt s 24 16
      have HN1 : Hid (_) := numS_val B c s 8 16 wr hs (by omega) (by omega) HR.out
      have HN2 : Hid (∀ w, RdS B c s (8 + 16) w → _) := fun w => numS_val B c s 24 16 w hs (by omega) (by omega)
      have HC : Hid (storedC s = if s.size < 5 then 1 else if lowAt s 8 16 + lowAt s 24 16 ≠ 65535 then 3 else if 3000 < lowAt s 8 16 then 5 else if s.size < lowAt s 8 16 + 5 then 1 else 0) := rfl
      have HT : Hid (storedT s = if storedC s = 0 then s.extract 5 (5 + lowAt s 8 16) else ⟨#[]⟩) := rfl
      have HF : Hid (∃ n t, lowAt s 8 16 = n ∧ lowAt s 24 16 = t) := ⟨_, _, rfl, rfl⟩
      obtain ⟨n, t, hn, ht⟩ := HF.out
      rw [hn] at hn1 HN1 HC HT
      rw [ht] at hn2 HN2 HC
      have HNE : Hid (_) := hn
      have cc1 : wr.cell? ⟨c, 1, none⟩ = some (.int .i64 8) := by
        have h9 := cell_at HR.out.2 1
        rw [show min 8 (8 * s.size) = 8 by omega] at h9
        exact h9
      clear hn ht HF HR
      have hn1' : n < 65536 := hn1
      have hn2' : t < 65536 := hn2
      clear hn1 hn2
      go_wp2_with fail
      refine (Calls.mono HN1.out ?_)
      rintro e w2 ⟨rfl, R2, M2, L2⟩
      have M3 := M.trans M2
      have L3 := L.trans L2
      have HV : Hid (_) := HN2.out w2 R2
      clear R2 M2 L2 M L HN1 HN2 cc1
      go_wp2_with fail
      refine (Calls.mono HV.out ?_)
      rintro e w4 ⟨rfl, R4, M4, L4⟩
      have M := M3.trans M4
      have L := L3.trans L4
      have m := R4.2
      clear M3 M4 L3 L4 HV R4
      by_cases h5 : s.size < 5
      · rw [show (24 + 16 : Nat) = 40 from rfl, decide_eq_true (show 8 * s.size < 40 by omega)] at m
        have c2 : w4.cell? ⟨c, 2, none⟩ = some (.bool true) := cell_at m 2
        have HD := HC.out
        rw [if_pos h5] at HD
        have HE := HT.out
        rw [HD, if_neg (by decide)] at HE
        have HQ : Hid (storedC s = 1 ∧ storedT s = ⟨#[]⟩) := ⟨HD, HE⟩
        clear HD HE HC HT m
        go_wp2
        go_ret2
        exact ⟨by rw [HQ.out.1, HQ.out.2] <;> rfl, fun h => absurd (HQ.out.1.symm.trans h) (by decide), M, L⟩
      rw [show (24 + 16 : Nat) = 40 from rfl, decide_eq_false (show ¬ 8 * s.size < 40 by omega), show min 40 (8 * s.size) = 40 by omega] at m
      have c0 : w4.cell? ⟨c, 0, none⟩ = some (.string s) := cell_at m 0
      have c1 : w4.cell? ⟨c, 1, none⟩ = some (.int .i64 40) := cell_at m 1
      have c2 : w4.cell? ⟨c, 2, none⟩ = some (.bool false) := cell_at m 2
      have f1 := frozen_at m 1
      have HM : Hid (_) := m
      clear m
      rw [if_neg h5] at HC
      by_cases h6 : n + t ≠ 65535
      · have HD := HC.out
        rw [if_pos h6] at HD
        have HE := HT.out
        rw [HD, if_neg (by decide)] at HE
        have HQ : Hid (storedC s = 3 ∧ storedT s = ⟨#[]⟩) := ⟨HD, HE⟩
        have h6' : ((n : Int) + (t : Int) != 65535) = true := by rw [bne_iff_ne]; omega
        have h6'' : ¬ ((n : Int) + (t : Int) = 65535) := by omega
        clear HD HE HC HT
        go_wp2
        go_ret2
        exact ⟨by rw [HQ.out.1, HQ.out.2] <;> rfl, fun h => absurd (HQ.out.1.symm.trans h) (by decide), M, L⟩
      rw [if_neg h6] at HC
      have h6' : (n : Int) + (t : Int) = 65535 := by omega
      by_cases h7 : 3000 < n
      · have HD := HC.out
        rw [if_pos h7] at HD
        have HE := HT.out
        rw [HD, if_neg (by decide)] at HE
        have HQ : Hid (storedC s = 5 ∧ storedT s = ⟨#[]⟩) := ⟨HD, HE⟩
        clear HD HE HC HT
        go_wp2
        go_ret2
        exact ⟨by rw [HQ.out.1, HQ.out.2] <;> rfl, fun h => absurd (HQ.out.1.symm.trans h) (by decide), M, L⟩
      rw [if_neg h7] at HC
      by_cases h9 : s.size < n + 5
      · have HD := HC.out
        rw [if_pos h9] at HD
        have HE := HT.out
        rw [HD, if_neg (by decide)] at HE
        have HQ : Hid (storedC s = 1 ∧ storedT s = ⟨#[]⟩) := ⟨HD, HE⟩
        have h9' : (s.size : Int) - 5 < (n : Int) := by omega
        clear HD HE HC HT
        go_wp2
        go_quiet (fail)
        go_wp2
        go_ret2
        exact ⟨by rw [HQ.out.1, HQ.out.2] <;> rfl, fun h => absurd (HQ.out.1.symm.trans h) (by decide), M.drewN _, below_drewN L _⟩
      rw [if_neg h9] at HC
      have HE := HT.out
      rw [HC.out, if_pos rfl] at HE
      have HQ : Hid (storedC s = 0 ∧ storedT s = s.extract 5 (5 + n)) := ⟨HC.out, HE⟩
      have h9' : ¬ ((s.size : Int) - 5 < (n : Int)) := by omega
      have h10 : (5 : Int) + (n : Int) ≤ (s.size : Int) := by omega
      have HW : Hid (∀ q, RdS B c s (40 + 8 * n) ((w4.drewN q).setCell ⟨c, 1, none⟩ (.int .i64 (40 + 8 * (n : Int))))) := by
        intro q
        refine ⟨hB, ?_⟩
        rw [show min (40 + 8 * n) (8 * s.size) = 40 + 8 * n by omega, decide_eq_false (show ¬ 8 * s.size < 40 + 8 * n by omega)]
        exact hp_set (w := w4.drewN q) (i := 1) HM.out (.int .i64 (40 + 8 * (n : Int)))
      clear HE HC HT
      go_wp2
      go_quiet (fail)
      go_wp2
      go_ret2
      refine ⟨?_, fun _ => ?_, (M.drewN _).trans (Mv.set c 1 _ _), (below_drewN L _).setCell hB _⟩
      · rw [HQ.out.1, HQ.out.2]
        rfl
      · rw [HNE.out]
        exact HW.out _

end Pk
end Go.Proofs.YtlgolnddhfadeabGreatDoor

/- The mathematics of chapter 3: what a list of pieces makes up. -/
namespace Go.Proofs.YtlgolnddhfadeabGreatDoor
namespace Math

/-- A piece: its byte, its length, its way back. -/
structure Pc where
  x : Int
  n : Int
  d : Int

/-- A text with a copy behind it. -/
def copyN (l : List UInt8) (d : Nat) : Nat → List UInt8
  | 0 => l
  | n + 1 => copyN l d n ++ [(copyN l d n).getD ((copyN l d n).length - d) 0]

theorem copyN_length (l : List UInt8) (d n : Nat) : (copyN l d n).length = l.length + n := by
  induction n with
  | zero => rfl
  | succ n ih => rw [copyN, List.length_append, ih]; rfl

/-- Whether a piece tells a byte, or a copy. -/
def Pc.isB (p : Pc) : Bool := decide (p.n = 0 ∧ p.d = 0 ∧ 0 ≤ p.x ∧ p.x ≤ 255)
def Pc.isC (p : Pc) : Bool := decide (p.x = 0 ∧ 3 ≤ p.n ∧ p.n ≤ 258 ∧ 1 ≤ p.d ∧ p.d ≤ 1024)

/-- A text with a piece more, if it may have it. -/
def step (l : List UInt8) (p : Pc) : Option (List UInt8) :=
  if p.isB = true ∧ l.length < 3000 then some (l ++ [UInt8.ofNat p.x.toNat])
  else if p.isC = true ∧ p.d ≤ l.length ∧ l.length + p.n ≤ 3000 then some (copyN l p.d.toNat p.n.toNat)
  else none

/-- What the first k pieces make up. -/
def wholeAt (ps : List Pc) : Nat → Option (List UInt8)
  | 0 => some []
  | k + 1 => (wholeAt ps k).bind fun l => step l (ps.getD k ⟨0, 0, 0⟩)

theorem wholeAt_none (ps : List Pc) (k m : Nat) (h : wholeAt ps k = none) (hm : k ≤ m) : wholeAt ps m = none := by
  induction m with
  | zero => rw [show (0 : Nat) = k by omega]; exact h
  | succ m ih =>
    by_cases e : k = m + 1
    · subst e; exact h
    · rw [wholeAt, ih (by omega)]
      rfl

theorem wholeAt_succ (ps : List Pc) (k : Nat) (l : List UInt8) (h : wholeAt ps k = some l) : wholeAt ps (k + 1) = step l (ps.getD k ⟨0, 0, 0⟩) := by
  rw [wholeAt, h]
  rfl

/-- What Whole answers. -/
def wholeS (ps : List Pc) : ByteArray := ⟨((wholeAt ps ps.length).getD []).toArray⟩
def wholeB (ps : List Pc) : Bool := (wholeAt ps ps.length).isSome

theorem whole_no (ps : List Pc) (k : Nat) (hk : k ≤ ps.length) (h : wholeAt ps k = none) : wholeS ps = ⟨#[]⟩ ∧ wholeB ps = false := by
  have := wholeAt_none ps k ps.length h hk
  unfold wholeS wholeB
  rw [this]
  exact ⟨rfl, rfl⟩

theorem whole_yes (ps : List Pc) (l : List UInt8) (h : wholeAt ps ps.length = some l) : wholeS ps = ⟨l.toArray⟩ ∧ wholeB ps = true := by
  unfold wholeS wholeB
  rw [h]
  exact ⟨rfl, rfl⟩

theorem step_byte (l : List UInt8) (p : Pc) (h : p.isB = true) (hl : l.length < 3000) : step l p = some (l ++ [UInt8.ofNat p.x.toNat]) := if_pos ⟨h, hl⟩

theorem step_copy (l : List UInt8) (p : Pc) (hb : p.isB = false) (h : p.isC = true) (h1 : p.d ≤ l.length) (h2 : l.length + p.n ≤ 3000) : step l p = some (copyN l p.d.toNat p.n.toNat) := by
  unfold step
  rw [if_neg (by rw [hb]; simp), if_pos ⟨h, h1, h2⟩]

theorem isB_not_isC (p : Pc) (h : p.isB = true) : p.isC = false := by
  have := of_decide_eq_true h
  exact decide_eq_false (by omega)

theorem step_none (l : List UInt8) (p : Pc) (h : (p.isB = true → 3000 ≤ l.length) ∧ (p.isC = true → p.d ≤ l.length → 3000 < l.length + p.n)) : step l p = none := by
  unfold step
  rw [if_neg (by intro g; have := h.1 g.1; omega), if_neg (by intro g; have := h.2 g.1 g.2.1; omega)]

theorem step_length (l m : List UInt8) (p : Pc) (h : step l p = some m) : m.length ≤ 3000 := by
  unfold step at h
  by_cases h1 : p.isB = true ∧ l.length < 3000
  · rw [if_pos h1] at h
    simp only [Option.some.injEq] at h
    rw [← h, List.length_append, List.length_singleton]
    omega
  · rw [if_neg h1] at h
    by_cases h2 : p.isC = true ∧ p.d ≤ l.length ∧ l.length + p.n ≤ 3000
    · rw [if_pos h2] at h
      simp only [Option.some.injEq] at h
      have := of_decide_eq_true h2.1
      rw [← h, copyN_length]
      omega
    · rw [if_neg h2] at h
      cases h

end Math
end Go.Proofs.YtlgolnddhfadeabGreatDoor

/- The mathematics of chapter 3: a fixed block that is read. -/
namespace Go.Proofs.YtlgolnddhfadeabGreatDoor
namespace Math

/-- The length that the code y tells from the place a on; how many bits it takes. -/
def lenBits (y : Nat) : Nat := if y = 285 then 0 else cbits 4 (y - 257)

def lenTold (s : ByteArray) (a y : Nat) : Nat := if y = 285 then 258 else cleast 4 (y - 257) + 3 + lowAt s a (cbits 4 (y - 257))

/-- The way back that the code k tells from the place a on. -/
def backTold (s : ByteArray) (a k : Nat) : Nat := cleast 2 k + 1 + lowAt s a (cbits 2 k)

/-- A fixed block from the place a on, behind the text out: what it is told to be, its text, the place behind it. -/
def fixFrom (s : ByteArray) : Nat → Nat → List UInt8 → Nat × List UInt8 × Nat
  | 0, a, _ => (1, [], a)
  | f + 1, a, out =>
    if 8 * s.size < a + symLen s a then (1, [], a)
    else if symAt s a = 256 then (0, out, a + symLen s a)
    else if symAt s a < 256 then if 3000 < out.length + 1 then (5, [], a) else fixFrom s f (a + symLen s a) (out ++ [UInt8.ofNat (symAt s a)])
    else if 285 < symAt s a then (3, [], a)
    else if 8 * s.size < a + symLen s a + lenBits (symAt s a) + 5 then (1, [], a)
    else if 29 < topAt s (a + symLen s a + lenBits (symAt s a)) 5 then (3, [], a)
    else if 8 * s.size < a + symLen s a + lenBits (symAt s a) + 5 + cbits 2 (topAt s (a + symLen s a + lenBits (symAt s a)) 5) then (1, [], a)
    else if out.length < backTold s (a + symLen s a + lenBits (symAt s a) + 5) (topAt s (a + symLen s a + lenBits (symAt s a)) 5) then (4, [], a)
    else if 3000 < out.length + lenTold s (a + symLen s a) (symAt s a) then (5, [], a)
    else fixFrom s f (a + symLen s a + lenBits (symAt s a) + 5 + cbits 2 (topAt s (a + symLen s a + lenBits (symAt s a)) 5)) (copyN out (backTold s (a + symLen s a + lenBits (symAt s a) + 5) (topAt s (a + symLen s a + lenBits (symAt s a)) 5)) (lenTold s (a + symLen s a) (symAt s a)))

theorem symLen_bd (s : ByteArray) (a : Nat) : 7 ≤ symLen s a ∧ symLen s a ≤ 9 := by
  unfold symLen
  split
  · omega
  · split <;> omega

theorem symAt_lt (s : ByteArray) (a : Nat) : symAt s a < 288 := by
  have h9 := topAt_lt s a 9
  unfold symAt
  split
  · omega
  · split
    · omega
    · split
      · omega
      · omega

/-- More steps than places that are left tell nothing else. -/
theorem fixFrom_more (s : ByteArray) (f : Nat) : ∀ (a : Nat) (out : List UInt8) (k : Nat), 8 * s.size < a + 7 * f → a ≤ 8 * s.size → fixFrom s (f + k) a out = fixFrom s f a out := by
  induction f with
  | zero => intro a out k h1 h2; omega
  | succ f ih =>
    intro a out k h1 h2
    have hb := symLen_bd s a
    rw [show f + 1 + k = (f + k) + 1 by omega]
    unfold fixFrom
    split
    · rfl
    · split
      · rfl
      · split
        · split
          · rfl
          · exact ih _ _ _ (by omega) (by omega)
        · split
          · rfl
          · split
            · rfl
            · split
              · rfl
              · split
                · rfl
                · split
                  · rfl
                  · split
                    · rfl
                    · exact ih _ _ _ (by omega) (by omega)

end Math
end Go.Proofs.YtlgolnddhfadeabGreatDoor

/- Contracts of Whole, of the program and of its model. -/
namespace Go.Proofs.YtlgolnddhfadeabGreatDoor
namespace Pk
open Go.ChangeShapes Go.WideShapes Go.ChangeAt Go.RowKit
open Math (Pc)
set_option linter.unusedSimpArgs false
set_option linter.unusedVariables false

/-- A piece as a value. -/
abbrev pcV (x n d : Int) : Value := .agg #[.int .i64 x, .int .i64 n, .int .i64 d]

/-- A slice of pieces. -/
def Pcs (w : World) (a : Option Addr) (ps : List Pc) : Prop :=
  ps = [] ∨ ∃ b o, a = some ⟨b, o, none⟩ ∧ b < w.heap.size ∧ ∀ i (h : i < ps.length), w.cell? ⟨b, o + i * 3, none⟩ = some (.int .i64 ps[i].x) ∧ w.cell? ⟨b, o + i * 3 + 1, none⟩ = some (.int .i64 ps[i].n) ∧ w.cell? ⟨b, o + i * 3 + 2, none⟩ = some (.int .i64 ps[i].d)

theorem Pcs.on {w w1 : World} {a : Option Addr} {ps : List Pc} (h : Pcs w a ps) (L : Below w.heap.size w w1) : Pcs w1 a ps := by
  rcases h with h | ⟨b, o, ha, hb, hc⟩
  · exact Or.inl h
  · exact Or.inr ⟨b, o, ha, Nat.lt_of_lt_of_le hb L.size, fun i hi => by rw [L.cell (p := ⟨b, o + i * 3, none⟩) hb, L.cell (p := ⟨b, o + i * 3 + 1, none⟩) hb, L.cell (p := ⟨b, o + i * 3 + 2, none⟩) hb]; exact hc i hi⟩

theorem Pcs.at {w : World} {a : Option Addr} {ps : List Pc} (h : Pcs w a ps) (k : Nat) (hk : k < ps.length) : ∃ b o, a = some ⟨b, o, none⟩ ∧ b < w.heap.size ∧ w.cell? ⟨b, o + k * 3, none⟩ = some (.int .i64 ps[k].x) ∧ w.cell? ⟨b, o + k * 3 + 1, none⟩ = some (.int .i64 ps[k].n) ∧ w.cell? ⟨b, o + k * 3 + 2, none⟩ = some (.int .i64 ps[k].d) := by
  rcases h with h | ⟨b, o, ha, hb, hc⟩
  · subst h; simp at hk
  · exact ⟨b, o, ha, hb, hc k hk⟩

theorem withCopy_val (B : Nat) (v : Value) (l : List UInt8) (n d : Nat) (w : World) (hB : B ≤ w.heap.size) (hown : w.ownsRow B 5 1 v l.length (bcells l)) (hd1 : 1 ≤ d) (hd2 : d ≤ l.length) (hl : l.length ≤ 10000) (hn : n ≤ 1000) :
    Calls Tryz.prog 201 #[v, .int .i64 n, .int .i64 d] w fun e w' => ∃ v', e = .returned v' ∧ w'.ownsRow B 5 1 v' (l.length + n) (bcells (Math.copyN l d n)) ∧ Below B w w' := by
  obtain ⟨i0, hi, hz0, hz1, hz2⟩ := info_of info_u8
  go_enter Tryz.func201, Tryz.ntmps201
  go_wp2
  go_loopw [0, 8] (fun v i wr => ∃ (k : Nat), k ≤ n ∧ i = .int .i64 k ∧ wr.ownsRow B 5 1 v (l.length + k) (bcells (Math.copyN l d k)) ∧ Below B w wr) (fun _ i _ => n - (intOf i).toNat)
  case atStart => exact ⟨0, by omega, rfl, hown, Below.refl _ _⟩
  case round =>
    obtain ⟨k, hk, rfl, hown, L⟩ := hrel
    by_cases hkn : k < n
    · have hlen : (Math.copyN l d k).length = l.length + k := Math.copyN_length l d k
      obtain ⟨g, cap, rfl, hg1, hg2, u, hu, hc⟩ := own_at hown (l.length + k - d) (by omega)
      rw [bcells_at _ _ (by omega)] at hu
      simp only [Option.some.injEq] at hu
      subst hu
      have hgd : (Math.copyN l d k)[l.length + k - d]'(by omega) = (Math.copyN l d k).getD ((Math.copyN l d k).length - d) 0 := by
        rw [List.getD_eq_getElem?_getD, show (Math.copyN l d k).length - d = l.length + k - d by omega, List.getElem?_eq_getElem (by omega)]
        rfl
      rw [hgd] at hc
      have HS : Hid (bcells (Math.copyN l d k) ++ [.int .u8 (((Math.copyN l d k).getD ((Math.copyN l d k).length - d) 0).toNat : Int)] = bcells (Math.copyN l d (k + 1))) := bcells_snoc (Math.copyN l d k) ((Math.copyN l d k).getD ((Math.copyN l d k).length - d) 0)
      clear hgd
      generalize (Math.copyN l d k).getD ((Math.copyN l d k).length - d) 0 = b at *
      have hb := b.toNat_lt
      have hBr : B ≤ wr.heap.size := Nat.le_trans hB L.size
      have e1 : ((l.length : Int) + k - d) = ((l.length + k - d : Nat) : Int) := by omega
      generalize l.length + k - d = j at *
      go_wp2_with (at_builtin; refine wpList_append_own _ rfl _ _ 88 rfl B 5 i0 (.int .u8 0) 1 1 Tryz.underlying88 hi hz0 hz1 hz2 rfl (by decide) _ _ _ rfl (hown.alloc _) ⟨wr.heap.size, 0, none⟩ 1 1 [.int .u8 b.toNat] rfl rfl ?c1 ?c2 ?c3 ?c4 ?c5 ?_)
      case c1 => exact cell_one_new _ _ _
      case c2 => intro u hu; simp at hu; subst hu; rfl
      case c3 => unfold maxLen; omega
      case c4 => omega
      case c5 => simp; omega
      · intro v' w3 hown3 hgrow _
        have L3 : Below B w w3 := (L.alloc hBr _).grown hgrow (by simp; omega) (fun m h => own_ge hown m h)
        rw [HS.out] at hown3
        clear hown hgrow hc
        go_wp2
        go_roundw
        case rel => exact ⟨k + 1, by omega, by go_num, hown3, L3⟩
        case measure => simp [intOf]; omega
    · obtain rfl : k = n := by omega
      go_wp2
      go_ret
      exact ⟨_, rfl, hown, L⟩

theorem u8_of (x : Int) (h0 : 0 ≤ x) (h1 : x ≤ 255) : ((UInt8.ofNat x.toNat).toNat : Int) = x := by
  rw [UInt8.toNat_ofNat']
  omega

/-- A text and whether it is one, as a result. -/
abbrev t2 (s : ByteArray) (b : Bool) : Value := .tuple #[.string s, .bool b]

end Pk
end Go.Proofs.YtlgolnddhfadeabGreatDoor

/- The contract of the model's reader of a fixed block. -/
namespace Go.Proofs.YtlgolnddhfadeabGreatDoor
namespace Math

/-- The least length of the code y. -/
def lenLeast (y : Nat) : Nat := if y = 285 then 258 else cleast 4 (y - 257) + 3

theorem lenTold_is (s : ByteArray) (a y : Nat) : lenTold s a y = lenLeast y + lowAt s a (lenBits y) := by
  unfold lenTold lenLeast lenBits
  split
  · rfl
  · rfl

end Math
namespace Pk
open Go.ChangeShapes Go.WideShapes Go.ChangeAt Go.RowKit
open Math (bitAt lowAt topAt symAt symLen fixFrom lenBits lenLeast backTold lenTold)
set_option linter.unusedSimpArgs false
set_option linter.unusedVariables false

theorem lenOf_any (y : Nat) (w : World) (h1 : 257 ≤ y) (h2 : y ≤ 285) :
    Calls Tryz.prog 148 #[.int .i64 y] w fun e w' => e = .returned (ii2 (lenLeast y : Nat) (lenBits y : Nat)) ∧ w' = w := by
  by_cases h : y = 285
  · subst h
    exact lenOf_last w
  · obtain ⟨k, rfl⟩ : ∃ k, y = k + 257 := ⟨y - 257, by omega⟩
    have h3 := lenOf_val k w (by omega)
    unfold lenLeast lenBits
    rw [if_neg h, if_neg h, show k + 257 - 257 = k by omega]
    exact h3

theorem len_bds (y : Nat) (h1 : 257 ≤ y) (h2 : y ≤ 285) : lenLeast y ≤ 258 ∧ lenBits y ≤ 5 := by
  unfold lenLeast lenBits
  split
  · omega
  · have := len_there (y - 257) (by omega)
    omega

end Pk
end Go.Proofs.YtlgolnddhfadeabGreatDoor

/- A fixed block that is read, one step at a time: the mathematics. -/
namespace Go.Proofs.YtlgolnddhfadeabGreatDoor
namespace Math

variable {s : ByteArray} {g a : Nat} {out : List UInt8}

theorem fix_cut (h : 8 * s.size < a + symLen s a) : fixFrom s (g + 1) a out = (1, [], a) := by rw [fixFrom, if_pos h]

theorem fix_end (h : ¬ 8 * s.size < a + symLen s a) (h2 : symAt s a = 256) : fixFrom s (g + 1) a out = (0, out, a + symLen s a) := by rw [fixFrom, if_neg h, if_pos h2]

theorem fix_full (h : ¬ 8 * s.size < a + symLen s a) (h2 : symAt s a < 256) (h3 : 3000 < out.length + 1) : fixFrom s (g + 1) a out = (5, [], a) := by rw [fixFrom, if_neg h, if_neg (by omega), if_pos h2, if_pos h3]

theorem fix_byte (h : ¬ 8 * s.size < a + symLen s a) (h2 : symAt s a < 256) (h3 : ¬ 3000 < out.length + 1) : fixFrom s (g + 1) a out = fixFrom s g (a + symLen s a) (out ++ [UInt8.ofNat (symAt s a)]) := by rw [fixFrom, if_neg h, if_neg (by omega), if_pos h2, if_neg h3]

theorem fix_sym (h : ¬ 8 * s.size < a + symLen s a) (h2 : 285 < symAt s a) : fixFrom s (g + 1) a out = (3, [], a) := by rw [fixFrom, if_neg h, if_neg (by omega), if_neg (by omega), if_pos h2]

/-- Where the code of the way back begins, and where what is behind it. -/
def p1 (s : ByteArray) (a : Nat) : Nat := a + symLen s a + lenBits (symAt s a)
def bk (s : ByteArray) (a : Nat) : Nat := topAt s (p1 s a) 5
def p2' (s : ByteArray) (a : Nat) : Nat := p1 s a + 5 + cbits 2 (bk s a)
def dd (s : ByteArray) (a : Nat) : Nat := backTold s (p1 s a + 5) (bk s a)
def nn (s : ByteArray) (a : Nat) : Nat := lenTold s (a + symLen s a) (symAt s a)

theorem fix_cut2 (h : ¬ 8 * s.size < a + symLen s a) (h2 : 256 < symAt s a) (h3 : symAt s a ≤ 285) (h4 : 8 * s.size < p1 s a + 5) : fixFrom s (g + 1) a out = (1, [], a) := by
  unfold p1 at h4
  rw [fixFrom, if_neg h, if_neg (by omega), if_neg (by omega), if_neg (by omega), if_pos h4]

theorem fix_sym2 (h : ¬ 8 * s.size < a + symLen s a) (h2 : 256 < symAt s a) (h3 : symAt s a ≤ 285) (h4 : ¬ 8 * s.size < p1 s a + 5) (h5 : 29 < bk s a) : fixFrom s (g + 1) a out = (3, [], a) := by
  unfold bk p1 at h5
  unfold p1 at h4
  rw [fixFrom, if_neg h, if_neg (by omega), if_neg (by omega), if_neg (by omega), if_neg h4, if_pos h5]

theorem fix_cut3 (h : ¬ 8 * s.size < a + symLen s a) (h2 : 256 < symAt s a) (h3 : symAt s a ≤ 285) (h4 : ¬ 8 * s.size < p1 s a + 5) (h5 : ¬ 29 < bk s a) (h6 : 8 * s.size < p2' s a) : fixFrom s (g + 1) a out = (1, [], a) := by
  unfold p2' bk p1 at h6
  unfold bk p1 at h5
  unfold p1 at h4
  rw [fixFrom, if_neg h, if_neg (by omega), if_neg (by omega), if_neg (by omega), if_neg h4, if_neg h5, if_pos h6]

theorem fix_back (h : ¬ 8 * s.size < a + symLen s a) (h2 : 256 < symAt s a) (h3 : symAt s a ≤ 285) (h4 : ¬ 8 * s.size < p1 s a + 5) (h5 : ¬ 29 < bk s a) (h6 : ¬ 8 * s.size < p2' s a) (h7 : out.length < dd s a) : fixFrom s (g + 1) a out = (4, [], a) := by
  unfold dd bk p1 at h7
  unfold p2' bk p1 at h6
  unfold bk p1 at h5
  unfold p1 at h4
  rw [fixFrom, if_neg h, if_neg (by omega), if_neg (by omega), if_neg (by omega), if_neg h4, if_neg h5, if_neg h6, if_pos h7]

theorem fix_long (h : ¬ 8 * s.size < a + symLen s a) (h2 : 256 < symAt s a) (h3 : symAt s a ≤ 285) (h4 : ¬ 8 * s.size < p1 s a + 5) (h5 : ¬ 29 < bk s a) (h6 : ¬ 8 * s.size < p2' s a) (h7 : ¬ out.length < dd s a) (h8 : 3000 < out.length + nn s a) : fixFrom s (g + 1) a out = (5, [], a) := by
  unfold nn at h8
  unfold dd bk p1 at h7
  unfold p2' bk p1 at h6
  unfold bk p1 at h5
  unfold p1 at h4
  rw [fixFrom, if_neg h, if_neg (by omega), if_neg (by omega), if_neg (by omega), if_neg h4, if_neg h5, if_neg h6, if_neg h7, if_pos h8]

theorem fix_copy (h : ¬ 8 * s.size < a + symLen s a) (h2 : 256 < symAt s a) (h3 : symAt s a ≤ 285) (h4 : ¬ 8 * s.size < p1 s a + 5) (h5 : ¬ 29 < bk s a) (h6 : ¬ 8 * s.size < p2' s a) (h7 : ¬ out.length < dd s a) (h8 : ¬ 3000 < out.length + nn s a) : fixFrom s (g + 1) a out = fixFrom s g (p2' s a) (copyN out (dd s a) (nn s a)) := by
  unfold nn dd p2' bk p1
  unfold nn at h8
  unfold dd bk p1 at h7
  unfold p2' bk p1 at h6
  unfold bk p1 at h5
  unfold p1 at h4
  rw [fixFrom, if_neg h, if_neg (by omega), if_neg (by omega), if_neg (by omega), if_neg h4, if_neg h5, if_neg h6, if_neg h7, if_neg h8]

theorem bk_lt (s : ByteArray) (a : Nat) : bk s a < 32 := topAt_lt s (p1 s a) 5

theorem nn_is (s : ByteArray) (a : Nat) : nn s a = lenLeast (symAt s a) + lowAt s (a + symLen s a) (lenBits (symAt s a)) := lenTold_is _ _ _

theorem dd_is (s : ByteArray) (a : Nat) : dd s a = cleast 2 (bk s a) + 1 + lowAt s (p1 s a + 5) (cbits 2 (bk s a)) := rfl

theorem back_bds : ∀ k, k ≤ 29 → cleast 2 k ≤ 40000 ∧ cbits 2 k ≤ 13 := by decide +kernel

end Math
end Go.Proofs.YtlgolnddhfadeabGreatDoor

/- The contract of the model's reader of a fixed block. -/
namespace Go.Proofs.YtlgolnddhfadeabGreatDoor
namespace Pk
open Go.ChangeShapes Go.WideShapes Go.ChangeAt Go.RowKit
open Math (bitAt lowAt topAt symAt symLen fixFrom lenBits lenLeast p1 bk p2' dd nn copyN)
set_option linter.unusedSimpArgs false
set_option linter.unusedVariables false

/-- A row of bytes, one longer. -/
theorem own_len {w : World} {base e : Nat} {v : Value} {l : List UInt8} {b : UInt8} (h : w.ownsRow base e 1 v (l.length + 1) (bcells (l ++ [b]))) : w.ownsRow base e 1 v (l ++ [b]).length (bcells (l ++ [b])) := by
  rw [show (l ++ [b]).length = l.length + 1 from by simp]
  exact h

set_option maxRecDepth 100000 in
set_option maxHeartbeats 8000000 in
theorem fixedS_val (B c : Nat) (s : ByteArray) (a0 F : Nat) (w : World) (hs : s.size ≤ 100000) (hBc : B ≤ c) (hc : c < w.heap.size) (ha0 : a0 ≤ 8 * s.size) (hF : 8 * s.size < a0 + 7 * F) (H : RdS B c s a0 w) :
    Calls Tryz.prog 114 #[.pointer (some ⟨c, 0, none⟩)] w fun e w' => (∃ code txt a', fixFrom s F a0 [] = (code, txt, a') ∧ e = .returned (.tuple #[.string ⟨txt.toArray⟩, .int .i64 (code : Nat)]) ∧ (code = 0 → RdS B c s a' w' ∧ a' ≤ 8 * s.size)) ∧ Below B w w' := by
  obtain ⟨i0, hi, hz0, hz1, hz2⟩ := info_of info_u8
  have hBw : B ≤ w.heap.size := by omega
  have hs0 : (w.alloc (.cells #[] 5)).heap.size = w.heap.size + 1 := Array.size_push ..
  go_enter Tryz.func114, Tryz.ntmps114
  go_wp2
  go_loopw [4] (fun v wr => ∃ (a : Nat) (l : List UInt8) (f : Nat), a ≤ 8 * s.size ∧ l.length ≤ 3000 ∧ wr.ownsRow w.heap.size 5 1 v l.length (bcells l) ∧ Hid (Below B w wr) ∧ RdS B c s a wr ∧ 8 * s.size < a + 7 * f ∧ w.heap.size < wr.heap.size ∧ Hid (fixFrom s F a0 [] = fixFrom s f a l)) (fun _ wr => 8 * s.size + 1 - (intOf ((wr.cell? ⟨c, 1, none⟩).getD undef)).toNat)
  case atStart => exact ⟨a0, [], F, ha0, by simp, ⟨rfl, Or.inr ⟨w.heap.size, 0, #[], rfl, Nat.le_refl _, heap_new w _, by simp, by unfold maxLen; omega, rfl, rfl⟩⟩, (Below.refl _ _).alloc (by omega) _, ⟨hBc, heap_old H.2 _⟩, hF, by rw [hs0]; omega, rfl⟩
  case round =>
    clear hs0 H hF
    obtain ⟨a, l, f, hal, hl, hown, L, R, hf, hwr, HF⟩ := hrel
    obtain ⟨g, rfl⟩ : ∃ g, f = g + 1 := ⟨f - 1, by omega⟩
    have hy := Math.symAt_lt s a
    have hnl := Math.symLen_bd s a
    have HS : Hid (∀ _ : Unit, _) := fun _ => symS_val B c s a wr hs (by omega) R
    have HA : Hid (_) := R
    obtain ⟨va, vc, rfl, -⟩ := own_form hown
    have HMS : Hid (wr.cell? ⟨c, 1, none⟩ = some (.int .i64 ((min a (8 * s.size) : Nat) : Int))) := cell_at R.2 1
    clear R
    obtain ⟨y, hyy⟩ : ∃ y, symAt s a = y := ⟨_, rfl⟩
    obtain ⟨nl, hnn⟩ : ∃ nl, symLen s a = nl := ⟨_, rfl⟩
    have HYY : Hid (symAt s a = y) := hyy
    have HNN : Hid (symLen s a = nl) := hnn
    rw [hyy, hnn] at HS
    rw [hyy] at hy
    rw [hnn] at hnl
    clear hyy hnn
    go_wp2_with fail
    refine (HS.out ()).mono ?_
    rintro e w2 ⟨rfl, R2, M2, L2⟩
    have hown2 := own_mv hown M2 HA.out.2 (by decide)
    have L3 := L.out.trans L2
    have HR2 : Hid (_) := R2
    have c2 : w2.cell? ⟨c, 2, none⟩ = some (.bool (decide (8 * s.size < a + nl))) := cell_at R2.2 2
    have hw2 : w.heap.size < w2.heap.size := by rw [M2.1]; exact hwr
    clear HS R2 M2 L2 L hown HA hwr
    by_cases hcut : 8 * s.size < a + nl
    · have HX : Hid (_) := HF.out.trans (Math.fix_cut (by rw [HNN.out]; exact hcut))
      rw [decide_eq_true hcut] at c2
      go_wp2
      go_ret2
      exact ⟨⟨1, [], _, HX.out, rfl, fun h => absurd h (by decide)⟩, L3⟩
    rw [decide_eq_false hcut] at c2
    by_cases h256 : y = 256
    · have HX : Hid (_) := HF.out.trans (Math.fix_end (by rw [HNN.out]; exact hcut) (by rw [HYY.out]; exact h256))
      subst h256
      have hconv := conv_own hown2
      go_wp2
      go_ret2
      exact ⟨⟨0, l, _, HX.out, rfl, fun _ => ⟨by rw [HNN.out]; exact HR2.out, by rw [HNN.out]; omega⟩⟩, L3⟩
    have h256I : ¬ (y : Int) = 256 := by omega
    by_cases hlt : y < 256
    · have hltI : (y : Int) < 256 := by omega
      have hwy : IntKind.u8.wrap (y : Int) = (y : Int) := by rw [IntKind.wrap_u8]; omega
      have hBr : w.heap.size ≤ w2.heap.size := by omega
      have HBY : Hid (((UInt8.ofNat y).toNat : Int) = (y : Int)) := by show ((UInt8.ofNat y).toNat : Int) = (y : Int); rw [UInt8.toNat_ofNat']; omega
      go_wp2_with (at_builtin; refine wpList_append_own _ rfl _ _ 88 rfl w.heap.size 5 i0 (.int .u8 0) 1 1 Tryz.underlying88 hi hz0 hz1 hz2 rfl (by decide) _ _ _ rfl (hown2.alloc _) ⟨w2.heap.size, 0, none⟩ 1 1 [.int .u8 (y : Int)] rfl rfl ?c1 ?c2 ?c3 ?c4 ?c5 ?_)
      case c1 => exact cell_one_new _ _ _
      case c2 => intro u hu; simp at hu; subst hu; rfl
      case c3 => unfold maxLen; omega
      case c4 => omega
      case c5 => simp; omega
      intro v' w3 hown3 hgrow _
      rw [← HBY.out, bcells_snoc] at hown3
      have m2 := heap_old HR2.out.2 (.cells #[.int .u8 (y : Int)] 5)
      have m3 : w3.heap[c]? = _ := (hgrow.block c (lt_of m2) (own_ne (hown2.alloc _) m2 (by decide))).trans m2
      have L4 : Below B w w3 := (L3.alloc (by omega) _).grown hgrow (by simp; omega) (fun m h => Nat.le_trans hBw (own_ge hown2 m h))
      have hw3 : w.heap.size < w3.heap.size := Nat.lt_of_lt_of_le (by simp; omega) hgrow.size
      have c31 : w3.cell? ⟨c, 1, none⟩ = some (.int .i64 ((min (a + nl) (8 * s.size) : Nat) : Int)) := cell_at m3 1
      clear hgrow m2 hown2 c2
      by_cases hful : 3000 < l.length + 1
      · have HX : Hid (_) := HF.out.trans (Math.fix_full (by rw [HNN.out]; exact hcut) (by rw [HYY.out]; exact hlt) hful)
        obtain ⟨va3, vc3, rfl, -⟩ := own_form hown3
        have hfI : (3000 : Int) < (l.length : Int) + 1 := by omega
        go_wp2
        go_ret2
        exact ⟨⟨5, [], _, HX.out, rfl, fun h => absurd h (by decide)⟩, L4⟩
      · have HX : Hid (_) := HF.out.trans (Math.fix_byte (by rw [HNN.out]; exact hcut) (by rw [HYY.out]; exact hlt) hful)
        rw [HNN.out, HYY.out] at HX
        obtain ⟨va3, vc3, rfl, -⟩ := own_form hown3
        have hfI : ¬ (3000 : Int) < (l.length : Int) + 1 := by omega
        have HSL : Hid (_) := own_len hown3
        go_wp2
        go_roundw
        case rel => exact ⟨a + nl, l ++ [UInt8.ofNat y], g, by omega, by simp; omega, HSL.out, L4, ⟨hBc, m3⟩, by omega, hw3, HX⟩
        case measure => rw [c31, HMS.out]; simp [intOf]; omega
    have hltI : ¬ (y : Int) < 256 := by omega
    by_cases h285 : 285 < y
    · have HX : Hid (_) := HF.out.trans (Math.fix_sym (by rw [HNN.out]; exact hcut) (by rw [HYY.out]; exact h285))
      have h285I : (285 : Int) < (y : Int) := by omega
      go_wp2
      go_ret2
      exact ⟨⟨3, [], _, HX.out, rfl, fun h => absurd h (by decide)⟩, L3⟩
    have h285I : ¬ (285 : Int) < (y : Int) := by omega
    have hy256 : 256 < y := by omega
    obtain ⟨hlb1, hlb2⟩ := len_bds y (by omega) (by omega)
    have HLO : Hid (∀ W, _) := fun W => lenOf_any y W (by omega) (by omega)
    unfold ii2 at HLO
    have HN1 : Hid (∀ W, RdS B c s (a + nl) W → _) := fun W r => numS_val B c s (a + nl) (lenBits y) W hs (by omega) (by omega) r
    have HP1 : Hid (p1 s a = a + nl + lenBits y) := by show p1 s a = _; unfold p1; rw [HNN.out, HYY.out]
    have HTP : Hid (∀ W, RdS B c s (a + nl + lenBits y) W → _) := fun W r => topS_val B c s (a + nl + lenBits y) 5 W hs (by omega) (by omega) r
    have HBK : Hid (bk s a = topAt s (a + nl + lenBits y) 5) := by show bk s a = _; unfold bk; rw [HP1.out]
    have hbk := Math.bk_lt s a
    rw [show ((5 : Nat) : Int) = 5 from rfl, ← HBK.out] at HTP
    have hlo1 : lowAt s (a + nl) (lenBits y) < 32 := Nat.lt_of_lt_of_le (Math.lowAt_lt s (a + nl) (lenBits y)) (Nat.le_trans (Nat.pow_le_pow_right (by omega) hlb2) (by decide))
    have HNNN : Hid (nn s a = lenLeast y + lowAt s (a + nl) (lenBits y)) := by show nn s a = _; rw [Math.nn_is, HNN.out, HYY.out]
    have HG1 : Hid (∀ K, K ≤ 29 → ∀ W, _) := fun K hK W => backOf_val K W hK
    unfold ii2 at HG1
    generalize lowAt s (a + nl) (lenBits y) = lo1 at *
    generalize hlbb : lenBits y = lb at *
    generalize lenLeast y = ll at *
    obtain ⟨n, hn⟩ : ∃ n, ll + lo1 = n := ⟨_, rfl⟩
    have hnI : (ll : Int) + (lo1 : Int) = (n : Int) := by omega
    rw [hn] at HNNN
    have hn290 : n ≤ 290 := by omega
    clear hn
    obtain ⟨K, hKK⟩ : ∃ K, bk s a = K := ⟨_, rfl⟩
    have HKK : Hid (bk s a = K) := hKK
    rw [hKK] at HTP HBK hbk
    clear hKK
    go_wp2_with fail
    refine (HLO.out _).mono ?_
    rintro e w3 ⟨rfl, hw3⟩
    have hw4 := hw3.symm
    subst hw4
    go_wp2_with fail
    refine (HN1.out _ HR2.out).mono ?_
    rintro e w4 ⟨rfl, R4, M4, L4⟩
    have hown4 := own_mv hown2 M4 HR2.out.2 (by decide)
    have K4 := L3.trans L4
    have hw4 : w.heap.size < w4.heap.size := by rw [M4.1]; exact hw2
    have HR4 : Hid (_) := R4
    clear R4 M4 L4 L3 hown2 HR2 c2 hw2 HLO HN1 hw3
    go_wp2_with fail
    refine (HTP.out _ HR4.out).mono ?_
    rintro e w5 ⟨rfl, R5, M5, L5⟩
    have hown5 := own_mv hown4 M5 HR4.out.2 (by decide)
    have K5 := K4.trans L5
    have hw5 : w.heap.size < w5.heap.size := by rw [M5.1]; exact hw4
    have HR5 : Hid (_) := R5
    have c5 : w5.cell? ⟨c, 2, none⟩ = some (.bool (decide (8 * s.size < a + nl + lb + 5))) := cell_at R5.2 2
    clear R5 M5 L5 K4 hown4 HR4 hw4 HTP
    have hn1 : Hid (¬ 8 * s.size < a + symLen s a) := by show ¬ _; rw [HNN.out]; exact hcut
    have hn2 : Hid (256 < symAt s a) := by show _ < _; rw [HYY.out]; exact hy256
    have hn3 : Hid (symAt s a ≤ 285) := by show _ ≤ _; rw [HYY.out]; omega
    by_cases hcut2 : 8 * s.size < a + nl + lb + 5
    · have HX : Hid (_) := HF.out.trans (Math.fix_cut2 hn1.out hn2.out hn3.out (by rw [HP1.out]; exact hcut2))
      rw [decide_eq_true hcut2] at c5
      go_wp2
      go_ret2
      exact ⟨⟨1, [], _, HX.out, rfl, fun h => absurd h (by decide)⟩, K5⟩
    rw [decide_eq_false hcut2] at c5
    have hn4 : Hid (¬ 8 * s.size < p1 s a + 5) := by show ¬ _; rw [HP1.out]; exact hcut2
    by_cases h29 : 29 < K
    · have HX : Hid (_) := HF.out.trans (Math.fix_sym2 hn1.out hn2.out hn3.out hn4.out (by rw [HKK.out]; exact h29))
      have h29I : (29 : Int) < (K : Int) := by omega
      go_wp2
      go_ret2
      exact ⟨⟨3, [], _, HX.out, rfl, fun h => absurd h (by decide)⟩, K5⟩
    have h29I : ¬ (29 : Int) < (K : Int) := by omega
    have hn5 : Hid (¬ 29 < bk s a) := by show ¬ _; rw [HKK.out]; exact h29
    obtain ⟨hcb1, hcb2⟩ := Math.back_bds K (by omega)
    have HBO : Hid (∀ W, _) := fun W => HG1.out K (by omega) W
    have HN2 : Hid (∀ W, RdS B c s (a + nl + lb + 5) W → _) := fun W r => numS_val B c s (a + nl + lb + 5) (Math.cbits 2 K) W hs (by omega) (by omega) r
    have HP2 : Hid (p2' s a = a + nl + lb + 5 + Math.cbits 2 K) := by show p2' s a = _; unfold p2'; rw [HP1.out, HKK.out]
    have HDD : Hid (dd s a = Math.cleast 2 K + 1 + lowAt s (a + nl + lb + 5) (Math.cbits 2 K)) := by show dd s a = _; rw [Math.dd_is, HKK.out, HP1.out]
    have hlo2 : lowAt s (a + nl + lb + 5) (Math.cbits 2 K) < 8192 := Nat.lt_of_lt_of_le (Math.lowAt_lt s (a + nl + lb + 5) (Math.cbits 2 K)) (Nat.le_trans (Nat.pow_le_pow_right (by omega) hcb2) (by decide))
    generalize lowAt s (a + nl + lb + 5) (Math.cbits 2 K) = lo2 at *
    generalize Math.cbits 2 K = cb at *
    generalize Math.cleast 2 K = cl at *
    obtain ⟨d, hd⟩ : ∃ d, cl + 1 + lo2 = d := ⟨_, rfl⟩
    have hdI : (cl : Int) + 1 + (lo2 : Int) = (d : Int) := by omega
    rw [hd] at HDD
    have hd1 : 1 ≤ d := by omega
    have hd49 : d ≤ 50000 := by omega
    clear HG1 hd
    go_wp2_with fail
    refine (HBO.out _).mono ?_
    rintro e w6 ⟨rfl, hw6⟩
    have hw7 := hw6.symm
    subst hw7
    go_wp2_with fail
    refine (HN2.out _ HR5.out).mono ?_
    rintro e w6 ⟨rfl, R6, M6, L6⟩
    have hown6 := own_mv hown5 M6 HR5.out.2 (by decide)
    have K6 := K5.trans L6
    have hw6' : w.heap.size < w6.heap.size := by rw [M6.1]; exact hw5
    have HR6 : Hid (_) := R6
    have c6 : w6.cell? ⟨c, 2, none⟩ = some (.bool (decide (8 * s.size < a + nl + lb + 5 + cb))) := cell_at R6.2 2
    clear R6 M6 L6 K5 hown5 HR5 hw5 HBO HN2 hw6 c5
    by_cases hcut3 : 8 * s.size < a + nl + lb + 5 + cb
    · have HX : Hid (_) := HF.out.trans (Math.fix_cut3 hn1.out hn2.out hn3.out hn4.out hn5.out (by rw [HP2.out]; exact hcut3))
      rw [decide_eq_true hcut3] at c6
      go_wp2
      go_ret2
      exact ⟨⟨1, [], _, HX.out, rfl, fun h => absurd h (by decide)⟩, K6⟩
    rw [decide_eq_false hcut3] at c6
    have hn6 : Hid (¬ 8 * s.size < p2' s a) := by show ¬ _; rw [HP2.out]; exact hcut3
    by_cases hbk2 : l.length < d
    · have HX : Hid (_) := HF.out.trans (Math.fix_back hn1.out hn2.out hn3.out hn4.out hn5.out hn6.out (by rw [HDD.out]; exact hbk2))
      have hbI : (l.length : Int) < (d : Int) := by omega
      go_wp2
      go_ret2
      exact ⟨⟨4, [], _, HX.out, rfl, fun h => absurd h (by decide)⟩, K6⟩
    have hbI : ¬ (l.length : Int) < (d : Int) := by omega
    have hn7 : Hid (¬ l.length < dd s a) := by show ¬ _; rw [HDD.out]; exact hbk2
    by_cases hlg : 3000 < l.length + n
    · have HX : Hid (_) := HF.out.trans (Math.fix_long hn1.out hn2.out hn3.out hn4.out hn5.out hn6.out hn7.out (by rw [HNNN.out]; exact hlg))
      have hgI : (3000 : Int) < (l.length : Int) + (n : Int) := by omega
      go_wp2
      go_ret2
      exact ⟨⟨5, [], _, HX.out, rfl, fun h => absurd h (by decide)⟩, K6⟩
    have hgI : ¬ (3000 : Int) < (l.length : Int) + (n : Int) := by omega
    have HX : Hid (_) := HF.out.trans (Math.fix_copy hn1.out hn2.out hn3.out hn4.out hn5.out hn6.out hn7.out (by rw [HNNN.out]; exact hlg))
    rw [HP2.out, HDD.out, HNNN.out] at HX
    have hdl : d ≤ l.length := by omega
    have hn3k : l.length + n ≤ 3000 := by omega
    have hgI2 : ¬ (3000 : Int) < (l.length : Int) + (n : Int) := by omega
    have hbI2 : ¬ (l.length : Int) < (d : Int) := by omega
    clear hn1 hn2 hn3 hn4 hn5 hn6 hn7 HP1 HP2 HDD HNNN HKK HBK hbI hgI hlg hbk2
    have HLN : Hid (_) := Math.copyN_length l d
    have m6 := HR6.out.2
    have HNS : Hid (∀ k, (copyN l d k).length = l.length + k) := fun k => Math.copyN_length l d k
    generalize hN : l.length = N at *
    have c61 : Hid (w6.cell? ⟨c, 1, none⟩ = some (.int .i64 ((min (a + nl + lb + 5 + cb) (8 * s.size) : Nat) : Int))) := cell_at m6 1
    have hown6' : w6.ownsRow w.heap.size 5 1 (.slice va N vc) (N + 0) (bcells (copyN l d 0)) := hown6
    clear hown6 HLN
    have hdN : decide (N < d) = false := decide_eq_false (by omega)
    go_wp2
    go_loopw [4, 11] (fun v i wr2 => ∃ (j : Nat), j ≤ n ∧ i = .int .i64 j ∧ wr2.ownsRow w.heap.size 5 1 v (N + j) (bcells (copyN l d j)) ∧ Hid (Below B w wr2) ∧ w.heap.size < wr2.heap.size ∧ wr2.heap[c]? = some (.cells #[.string s, .int .i64 ((min (a + nl + lb + 5 + cb) (8 * s.size) : Nat) : Int), .bool (decide (8 * s.size < a + nl + lb + 5 + cb))] 136)) (fun _ i _ => n - (intOf i).toNat)
    case atStart => exact ⟨0, by omega, rfl, hown6', K6, hw6', m6⟩
    case round =>
      clear hown6' K6 hw6' m6 c6 c61
      obtain ⟨j, hj, rfl, hownj, Lj, hwj, mj⟩ := hrel
      have hlen := HNS.out j
      have hBj : w.heap.size ≤ wr.heap.size := by omega
      by_cases hjn : j < n
      · have hne := own_ne hownj mj (by decide)
        obtain ⟨gg, cp, rfl, hg1, hg2, u, hu, hc⟩ := own_at hownj (N + j - d) (by omega)
        rw [bcells_at _ _ (by omega)] at hu
        simp only [Option.some.injEq] at hu
        subst hu
        have hgd : (copyN l d j)[N + j - d]'(by omega) = (copyN l d j).getD ((copyN l d j).length - d) 0 := by
          rw [List.getD_eq_getElem?_getD, show (copyN l d j).length - d = N + j - d by omega, List.getElem?_eq_getElem (by omega)]
          rfl
        rw [hgd] at hc
        have HSn : Hid (bcells (copyN l d j) ++ [.int .u8 (((copyN l d j).getD ((copyN l d j).length - d) 0).toNat : Int)] = bcells (copyN l d (j + 1))) := bcells_snoc (copyN l d j) ((copyN l d j).getD ((copyN l d j).length - d) 0)
        clear hgd
        generalize (copyN l d j).getD ((copyN l d j).length - d) 0 = yb at *
        have hyb := yb.toNat_lt
        have e1 : ((N : Int) + j - d) = ((N + j - d : Nat) : Int) := by omega
        have hjI : (j : Int) < (n : Int) := by omega
        have hqlt : N + j - d < N + j := by omega
        generalize N + j - d = q at *
        have hqI : (q : Int) < (N : Int) + (j : Int) := by omega
        clear hlen
        go_wp2_with (at_builtin; refine wpList_append_own _ rfl _ _ 88 rfl w.heap.size 5 i0 (.int .u8 0) 1 1 Tryz.underlying88 hi hz0 hz1 hz2 rfl (by decide) _ _ _ rfl (hownj.alloc _) ⟨wr.heap.size, 0, none⟩ 1 1 [.int .u8 yb.toNat] rfl rfl ?d1 ?d2 ?d3 ?d4 ?d5 ?_)
        case d1 => exact cell_one_new _ _ _
        case d2 => intro u hu; simp at hu; subst hu; rfl
        case d3 => unfold maxLen; omega
        case d4 => omega
        case d5 => simp; omega
        intro v' w3 hown3 hgrow _
        have L9 : Below B w w3 := (Lj.out.alloc (by omega) _).grown hgrow (by simp; omega) (fun m h => Nat.le_trans hBw (own_ge hownj m h))
        have m9 : w3.heap[c]? = _ := (hgrow.block c (by have := lt_of mj; simp; omega) hne).trans (heap_old mj _)
        have hw9 : w.heap.size < w3.heap.size := Nat.lt_of_lt_of_le (by simp; omega) hgrow.size
        rw [HSn.out] at hown3
        clear hownj hgrow hc mj hne
        go_wp2
        go_roundw
        case rel => exact ⟨j + 1, by omega, by go_num, hown3, L9, hw9, m9⟩
        case measure => simp [intOf]; omega
      · obtain rfl : j = n := by omega
        have hjI : ¬ (j : Int) < (j : Int) := by omega
        have c91 : wr.cell? ⟨c, 1, none⟩ = some (.int .i64 ((min (a + nl + lb + 5 + cb) (8 * s.size) : Nat) : Int)) := cell_at mj 1
        go_wp2
        go_roundw
        case rel => exact ⟨a + nl + lb + 5 + cb, copyN l d j, g, by omega, by omega, by rw [hlen]; exact hownj, Lj, ⟨hBc, mj⟩, by omega, hwj, HX⟩
        case measure => rw [c91, HMS.out]; simp [intOf]; omega

end Pk
end Go.Proofs.YtlgolnddhfadeabGreatDoor

/- What Unpack answers; the contract of the model's Unpack. -/
namespace Go.Proofs.YtlgolnddhfadeabGreatDoor
namespace Math

/-- What stands behind a block: nothing but noughts up to the next byte, and there the end. -/
def rst (s : ByteArray) : Nat → Nat → Nat
  | 0, a => if a < 8 * s.size then 6 else 0
  | n + 1, a => if a % 8 = 0 then (if a < 8 * s.size then 6 else 0) else if bitAt s a = 1 then 6 else rst s n (a + 1)

theorem rst_end (s : ByteArray) (n a : Nat) (h : a % 8 = 0) : rst s n a = if a < 8 * s.size then 6 else 0 := by
  cases n with
  | zero => rfl
  | succ n => rw [rst, if_pos h]

/-- A block: what it is told to be, its text, the place behind it. -/
def body (s : ByteArray) : Nat × List UInt8 × Nat := if lowAt s 1 2 = 1 then fixFrom s (8 * s.size + 1) 3 [] else (storedC s, (storedT s).data.toList, 40 + 8 * lowAt s 8 16)

def unpC (s : ByteArray) : Nat := if 6000 < s.size then 5 else if s.size = 0 then 1 else if bitAt s 0 = 0 ∨ 1 < lowAt s 1 2 then 2 else if (body s).1 ≠ 0 then (body s).1 else rst s 8 (body s).2.2
def unpT (s : ByteArray) : ByteArray := if unpC s = 0 then ⟨(body s).2.1.toArray⟩ else ⟨#[]⟩

theorem unpT_no {s : ByteArray} (h : unpC s ≠ 0) : unpT s = ⟨#[]⟩ := if_neg h
theorem unpT_yes {s : ByteArray} (h : unpC s = 0) : unpT s = ⟨(body s).2.1.toArray⟩ := if_pos h

theorem unp_body {s : ByteArray} (h1 : ¬ 6000 < s.size) (h2 : ¬ s.size = 0) (h3 : ¬ (bitAt s 0 = 0 ∨ 1 < lowAt s 1 2)) {code a : Nat} {txt : List UInt8} (hb : body s = (code, txt, a)) : (code ≠ 0 → unpC s = code ∧ unpT s = ⟨#[]⟩) ∧ (code = 0 → unpC s = rst s 8 a ∧ (unpC s = 0 → unpT s = ⟨txt.toArray⟩)) := by
  have e : unpC s = if (body s).1 ≠ 0 then (body s).1 else rst s 8 (body s).2.2 := by unfold unpC; rw [if_neg h1, if_neg h2, if_neg h3]
  rw [hb] at e
  refine ⟨fun hc => ?_, fun hc => ?_⟩
  · rw [if_pos hc] at e
    exact ⟨e, unpT_no (by rw [e]; exact hc)⟩
  · rw [if_neg (by simpa using hc)] at e
    exact ⟨e, fun h => by rw [unpT_yes h, hb]⟩

end Math
namespace Pk
open Go.ChangeShapes Go.WideShapes Go.ChangeAt Go.RowKit
open Math (bitAt lowAt topAt symAt symLen fixFrom storedC storedT rst body unpC unpT)
set_option linter.unusedSimpArgs false
set_option linter.unusedVariables false

set_option maxRecDepth 100000 in
set_option maxHeartbeats 4000000 in
theorem specUnpack_val (s : ByteArray) (w : World) (hm : s.size ≤ maxLen) :
    Calls Tryz.prog 74 #[.string s] w fun e w' => e = .returned (.tuple #[.string (unpT s), .int .i64 (unpC s : Nat)]) ∧ Below w.heap.size w w' := by
  unfold maxLen at hm
  by_cases h6 : 6000 < s.size
  · have e1 : unpC s = 5 := by unfold unpC; rw [if_pos h6]
    rw [e1, Math.unpT_no (by rw [e1]; decide)]
    have h6I : (6000 : Int) < (s.size : Int) := by omega
    go_enter Tryz.func74, Tryz.ntmps74
    go_wp2
    go_ret2
    exact ⟨rfl, Below.refl _ _⟩
  have h6I : ¬ (6000 : Int) < (s.size : Int) := by omega
  have N0 := new_below w (.cells #[.string s, .int .i64 0, .bool false] 136)
  have m0 := heap_new w (.cells #[.string s, .int .i64 0, .bool false] 136)
  have hs0 : (w.alloc (.cells #[.string s, .int .i64 0, .bool false] 136)).heap.size = w.heap.size + 1 := Array.size_push ..
  have R0 : RdS w.heap.size w.heap.size s 0 (w.alloc (.cells #[.string s, .int .i64 0, .bool false] 136)) := by
    refine ⟨Nat.le_refl _, ?_⟩
    rw [m0, Nat.min_eq_left (by omega), decide_eq_false (by omega)]
    rfl
  have HBV : Hid (∀ _ : Unit, _) := fun _ => bitS_val w.heap.size w.heap.size s 0 _ (by omega) (by omega) R0
  have HNV : Hid (∀ W, RdS w.heap.size w.heap.size s 1 W → _) := fun W r => numS_val w.heap.size w.heap.size s 1 2 W (by omega) (by omega) (by omega) r
  rw [show ((2 : Nat) : Int) = 2 from rfl] at HNV
  have hb0 := Math.bitAt_le s 0
  have hl2 : lowAt s 1 2 < 4 := Math.lowAt_lt s 1 2
  by_cases hz : s.size = 0
  · have e1 : unpC s = 1 := by unfold unpC; rw [if_neg h6, if_pos hz]
    rw [e1, Math.unpT_no (by rw [e1]; decide)]
    go_enter Tryz.func74, Tryz.ntmps74
    go_wp2_with fail
    refine (HBV.out ()).mono ?_
    generalize w.alloc (.cells #[.string s, .int .i64 0, .bool false] 136) = w0 at *
    rintro e w1 ⟨rfl, R1, M1, L1⟩
    have K1 := N0.trans L1
    go_wp2_with fail
    refine (HNV.out _ R1).mono ?_
    rintro e w2 ⟨rfl, R2, M2, L2⟩
    have K2 := K1.trans L2
    have c2 : w2.cell? ⟨w.heap.size, 2, none⟩ = some (.bool true) := by
      have := cell_at R2.2 2
      rw [decide_eq_true (show 8 * s.size < 1 + 2 by omega)] at this
      exact this
    go_wp2
    go_ret2
    exact ⟨rfl, K2⟩
  by_cases hk : bitAt s 0 = 0 ∨ 1 < lowAt s 1 2
  · have e1 : unpC s = 2 := by unfold unpC; rw [if_neg h6, if_neg hz, if_pos hk]
    rw [e1, Math.unpT_no (by rw [e1]; decide)]
    have HKK : Hid (_) := hk
    generalize bitAt s 0 = b0 at *
    generalize lowAt s 1 2 = kd at *
    clear hk
    by_cases hb1 : b0 = 0
    · subst hb1
      go_enter Tryz.func74, Tryz.ntmps74
      go_wp2_with fail
      refine (HBV.out ()).mono ?_
      generalize w.alloc (.cells #[.string s, .int .i64 0, .bool false] 136) = w0 at *
      rintro e w1 ⟨rfl, R1, M1, L1⟩
      have K1 := N0.trans L1
      go_wp2_with fail
      refine (HNV.out _ R1).mono ?_
      rintro e w2 ⟨rfl, R2, M2, L2⟩
      have K2 := K1.trans L2
      have c2 : w2.cell? ⟨w.heap.size, 2, none⟩ = some (.bool false) := by
        have := cell_at R2.2 2
        rw [decide_eq_false (show ¬ 8 * s.size < 1 + 2 by omega)] at this
        exact this
      go_wp2
      go_ret2
      exact ⟨rfl, K2⟩
    · have hb2 : b0 = 1 := by omega
      subst hb2
      have hkI : (1 : Int) < (kd : Int) := by have := HKK.out; omega
      go_enter Tryz.func74, Tryz.ntmps74
      go_wp2_with fail
      refine (HBV.out ()).mono ?_
      generalize w.alloc (.cells #[.string s, .int .i64 0, .bool false] 136) = w0 at *
      rintro e w1 ⟨rfl, R1, M1, L1⟩
      have K1 := N0.trans L1
      go_wp2_with fail
      refine (HNV.out _ R1).mono ?_
      rintro e w2 ⟨rfl, R2, M2, L2⟩
      have K2 := K1.trans L2
      have c2 : w2.cell? ⟨w.heap.size, 2, none⟩ = some (.bool false) := by
        have := cell_at R2.2 2
        rw [decide_eq_false (show ¬ 8 * s.size < 1 + 2 by omega)] at this
        exact this
      go_wp2
      go_ret2
      exact ⟨rfl, K2⟩
  have HBD : Hid (∀ {code a : Nat} {txt : List UInt8}, body s = (code, txt, a) → _) := fun hb => Math.unp_body h6 hz hk hb
  have hb1 : bitAt s 0 = 1 := by omega
  have hk1 : lowAt s 1 2 ≤ 1 := by omega
  rw [hb1] at HBV
  have HBS : Hid (∀ W q, q ≤ 8 * s.size → RdS w.heap.size w.heap.size s q W → _) := fun W q hq r => bitS_val w.heap.size w.heap.size s q W (by omega) (by omega) r
  by_cases hkd : lowAt s 1 2 = 1
  · have HBE : Hid (body s = fixFrom s (8 * s.size + 1) 3 []) := if_pos hkd
    rw [hkd] at HNV
    have HFV : Hid (∀ W, w.heap.size < W.heap.size → RdS w.heap.size w.heap.size s 3 W → _) := fun W hc r => fixedS_val w.heap.size w.heap.size s 3 (8 * s.size + 1) W (by omega) (Nat.le_refl _) hc (by omega) (by omega) r
    clear hkd hk1 hb1 hk hb0 hl2
    have HUTX : Hid (unpC s ≠ 0 → unpT s = ⟨#[]⟩) := fun h => Math.unpT_no h
    generalize unpT s = UT at *
    generalize unpC s = UC at *
    go_enter Tryz.func74, Tryz.ntmps74
    go_wp2_with fail
    refine (HBV.out ()).mono ?_
    generalize w.alloc (.cells #[.string s, .int .i64 0, .bool false] 136) = w0 at *
    rintro e w1 ⟨rfl, R1, M1, L1⟩
    have K1 := N0.trans L1
    go_wp2_with fail
    refine (HNV.out _ R1).mono ?_
    rintro e w2 ⟨rfl, R2, M2, L2⟩
    have K2 := K1.trans L2
    have c2 : w2.cell? ⟨w.heap.size, 2, none⟩ = some (.bool false) := by
      have := cell_at R2.2 2
      rw [decide_eq_false (show ¬ 8 * s.size < 1 + 2 by omega)] at this
      exact this
    clear HBV HNV R0 R1 M1 L1 K1 L2 N0 m0 hs0
    go_wp2_with fail
    refine (HFV.out _ (lt_of R2.2) R2).mono ?_
    rintro e w3 ⟨⟨code, txt, a', hfx, rfl, hR3⟩, L3⟩
    have K3 := K2.trans L3
    obtain ⟨HB1, HB2⟩ := HBD.out (HBE.out.trans hfx)
    clear HFV R2 M2 L3 K2 c2 hfx HBE
    by_cases hc0 : code = 0
    · subst hc0
      obtain ⟨R3, ha'⟩ := hR3 rfl
      obtain ⟨hU1, hU2⟩ := HB2 rfl
      have HU1 : Hid (UC = rst s 8 a') := hU1
      have HU2 : Hid (UC = 0 → UT = ⟨txt.toArray⟩) := hU2
      have HUT : Hid (UC ≠ 0 → UT = ⟨#[]⟩) := HUTX.out
      clear hU1 hU2 HB1 HB2
      go_wp2
      go_loopw [] (fun wr => ∃ q n : Nat, q ≤ 8 * s.size ∧ (q % 8 = 0 ∨ 8 ≤ q % 8 + n) ∧ Hid (UC = rst s n q) ∧ RdS w.heap.size w.heap.size s q wr ∧ Hid (Below w.heap.size w wr)) (fun wr => 8 * s.size + 1 - (intOf ((wr.cell? ⟨w.heap.size, 1, none⟩).getD undef)).toNat)
      case atStart => exact ⟨a', 8, ha', by omega, HU1, R3, K3⟩
      case round =>
        clear HU1 R3 K3
        obtain ⟨q, n, hq, hqn, HQ, R, K⟩ := hrel
        have hm := R.2
        rw [Nat.min_eq_left hq] at hm
        have c1 : wr.cell? ⟨w.heap.size, 1, none⟩ = some (.int .i64 (q : Int)) := cell_at hm 1
        by_cases hq8 : q % 8 = 0
        · have ht : Int.tmod (q : Int) 8 = 0 := by rw [Int.tmod_eq_emod_of_nonneg (by omega)]; omega
          have hq9 : (q : Int) % 8 = 0 := by omega
          by_cases hqs : q < 8 * s.size
          · have e6 : UC = 6 := by rw [HQ.out, Math.rst_end s n q hq8, if_pos hqs]
            have eT := HUT.out (by rw [e6]; decide)
            subst e6 eT
            have hqI : (q : Int) < 8 * (s.size : Int) := by omega
            go_wp2
            go_ret2
            exact ⟨rfl, K.out⟩
          · have e0 : UC = 0 := by rw [HQ.out, Math.rst_end s n q hq8, if_neg hqs]
            have eT := HU2.out e0
            subst e0 eT
            have hqI : ¬ (q : Int) < 8 * (s.size : Int) := by omega
            go_wp2
            go_ret2
            exact ⟨rfl, K.out⟩
        · obtain ⟨n', rfl⟩ : ∃ n', n = n' + 1 := ⟨n - 1, by omega⟩
          have ht : Int.tmod (q : Int) 8 = ((q % 8 : Nat) : Int) := by rw [Int.tmod_eq_emod_of_nonneg (by omega)]; omega
          have ht2 : (q : Int) % 8 = ((q % 8 : Nat) : Int) := by omega
          have htn : (((q % 8 : Nat) : Int) != 0) = true := by rw [bne_iff_ne]; omega
          have htn2 : ¬ ((q % 8 : Nat) : Int) = 0 := by omega
          have hqs : q < 8 * s.size := by omega
          have hq1 : (q + 1) % 8 = 0 ∨ 8 ≤ (q + 1) % 8 + n' := by omega
          have HRS : Hid (UC = if bitAt s q = 1 then 6 else rst s n' (q + 1)) := by show _ = _; rw [HQ.out, Math.rst, if_neg hq8]
          have hbq := Math.bitAt_le s q
          have HBQ : Hid (∀ _ : Unit, _) := fun _ => HBS.out wr q hq R
          generalize bitAt s q = bq at *
          obtain ⟨r8, hr8⟩ : ∃ r8, q % 8 = r8 := ⟨_, rfl⟩
          rw [hr8] at ht ht2 htn htn2
          clear R hm hqn hq8 hr8
          go_wp2_with fail
          refine (HBQ.out ()).mono ?_
          rintro e w5 ⟨rfl, R5, M5, L5⟩
          have K5 := K.out.trans L5
          have c5 : w5.cell? ⟨w.heap.size, 1, none⟩ = some (.int .i64 ((min (q + 1) (8 * s.size) : Nat) : Int)) := cell_at R5.2 1
          by_cases hb : bq = 1
          · have e6 : UC = 6 := by rw [HRS.out, if_pos hb]
            have eT := HUT.out (by rw [e6]; decide)
            subst e6 eT hb
            go_wp2
            go_ret2
            exact ⟨rfl, K5⟩
          · have hb0 : bq = 0 := by omega
            subst hb0
            have HRN : Hid (UC = rst s n' (q + 1)) := by show _ = _; rw [HRS.out, if_neg hb]
            go_wp2
            go_roundw
            case rel => exact ⟨q + 1, n', by omega, hq1, HRN, R5, K5⟩
            case measure => rw [c5, c1]; simp [intOf]; omega
    · obtain ⟨rfl, rfl⟩ := HB1 hc0
      have hcI : ((UC : Int) != 0) = true := by rw [bne_iff_ne]; omega
      have hcI2 : ¬ (UC : Int) = 0 := by omega
      clear hR3 HB2
      go_wp2
      go_ret2
      exact ⟨rfl, K3⟩
  · have hkd0 : lowAt s 1 2 = 0 := by omega
    have HBE : Hid (body s = (storedC s, (storedT s).data.toList, 40 + 8 * lowAt s 8 16)) := if_neg hkd
    rw [hkd0] at HNV
    have HFV : Hid (∀ W, RdS w.heap.size w.heap.size s 3 W → _) := fun W r => storedS_val w.heap.size w.heap.size s W (by omega) (by omega) r
    obtain ⟨HB1, HB2⟩ := HBD.out HBE.out
    rw [Array.toArray_toList] at HB2
    have HC5 : Hid (storedC s = 0 → 40 + 8 * lowAt s 8 16 ≤ 8 * s.size) := fun h => by
      unfold storedC at h
      split at h
      · omega
      · split at h
        · omega
        · split at h
          · omega
          · split at h
            · omega
            · omega
    clear hkd hkd0 hk1 hb1 hk hb0 hl2 HBE HBD
    have HUTX : Hid (unpC s ≠ 0 → unpT s = ⟨#[]⟩) := fun h => Math.unpT_no h
    generalize unpT s = UT at *
    generalize unpC s = UC at *
    generalize storedT s = ST at *
    generalize storedC s = SC at *
    generalize 40 + 8 * lowAt s 8 16 = a' at *
    go_enter Tryz.func74, Tryz.ntmps74
    go_wp2_with fail
    refine (HBV.out ()).mono ?_
    generalize w.alloc (.cells #[.string s, .int .i64 0, .bool false] 136) = w0 at *
    rintro e w1 ⟨rfl, R1, M1, L1⟩
    have K1 := N0.trans L1
    go_wp2_with fail
    refine (HNV.out _ R1).mono ?_
    rintro e w2 ⟨rfl, R2, M2, L2⟩
    have K2 := K1.trans L2
    have c2 : w2.cell? ⟨w.heap.size, 2, none⟩ = some (.bool false) := by
      have := cell_at R2.2 2
      rw [decide_eq_false (show ¬ 8 * s.size < 1 + 2 by omega)] at this
      exact this
    clear HBV HNV R0 R1 M1 L1 K1 L2 N0 m0 hs0
    go_wp2_with fail
    refine (HFV.out _ R2).mono ?_
    rintro e w3 ⟨rfl, hR3, M3, L3⟩
    have K3 := K2.trans L3
    clear HFV R2 M2 L3 K2 c2 M3
    by_cases hc0 : SC = 0
    · subst hc0
      have R3 := hR3 rfl
      have ha' := HC5.out rfl
      obtain ⟨hU1, hU2⟩ := HB2 rfl
      have HU1 : Hid (UC = rst s 8 a') := hU1
      have HU2 : Hid (UC = 0 → UT = ST) := hU2
      have HUT : Hid (UC ≠ 0 → UT = ⟨#[]⟩) := HUTX.out
      clear hU1 hU2 HB1 HB2
      go_wp2
      go_loopw [] (fun wr => ∃ q n : Nat, q ≤ 8 * s.size ∧ (q % 8 = 0 ∨ 8 ≤ q % 8 + n) ∧ Hid (UC = rst s n q) ∧ RdS w.heap.size w.heap.size s q wr ∧ Hid (Below w.heap.size w wr)) (fun wr => 8 * s.size + 1 - (intOf ((wr.cell? ⟨w.heap.size, 1, none⟩).getD undef)).toNat)
      case atStart => exact ⟨a', 8, ha', by omega, HU1, R3, K3⟩
      case round =>
        clear HU1 R3 K3
        obtain ⟨q, n, hq, hqn, HQ, R, K⟩ := hrel
        have hm := R.2
        rw [Nat.min_eq_left hq] at hm
        have c1 : wr.cell? ⟨w.heap.size, 1, none⟩ = some (.int .i64 (q : Int)) := cell_at hm 1
        by_cases hq8 : q % 8 = 0
        · have ht : Int.tmod (q : Int) 8 = 0 := by rw [Int.tmod_eq_emod_of_nonneg (by omega)]; omega
          have hq9 : (q : Int) % 8 = 0 := by omega
          by_cases hqs : q < 8 * s.size
          · have e6 : UC = 6 := by rw [HQ.out, Math.rst_end s n q hq8, if_pos hqs]
            have eT := HUT.out (by rw [e6]; decide)
            subst e6 eT
            have hqI : (q : Int) < 8 * (s.size : Int) := by omega
            go_wp2
            go_ret2
            exact ⟨rfl, K.out⟩
          · have e0 : UC = 0 := by rw [HQ.out, Math.rst_end s n q hq8, if_neg hqs]
            have eT := HU2.out e0
            subst e0 eT
            have hqI : ¬ (q : Int) < 8 * (s.size : Int) := by omega
            go_wp2
            go_ret2
            exact ⟨rfl, K.out⟩
        · obtain ⟨n', rfl⟩ : ∃ n', n = n' + 1 := ⟨n - 1, by omega⟩
          have ht : Int.tmod (q : Int) 8 = ((q % 8 : Nat) : Int) := by rw [Int.tmod_eq_emod_of_nonneg (by omega)]; omega
          have ht2 : (q : Int) % 8 = ((q % 8 : Nat) : Int) := by omega
          have htn : (((q % 8 : Nat) : Int) != 0) = true := by rw [bne_iff_ne]; omega
          have htn2 : ¬ ((q % 8 : Nat) : Int) = 0 := by omega
          have hqs : q < 8 * s.size := by omega
          have hq1 : (q + 1) % 8 = 0 ∨ 8 ≤ (q + 1) % 8 + n' := by omega
          have HRS : Hid (UC = if bitAt s q = 1 then 6 else rst s n' (q + 1)) := by show _ = _; rw [HQ.out, Math.rst, if_neg hq8]
          have hbq := Math.bitAt_le s q
          have HBQ : Hid (∀ _ : Unit, _) := fun _ => HBS.out wr q hq R
          generalize bitAt s q = bq at *
          obtain ⟨r8, hr8⟩ : ∃ r8, q % 8 = r8 := ⟨_, rfl⟩
          rw [hr8] at ht ht2 htn htn2
          clear R hm hqn hq8 hr8
          go_wp2_with fail
          refine (HBQ.out ()).mono ?_
          rintro e w5 ⟨rfl, R5, M5, L5⟩
          have K5 := K.out.trans L5
          have c5 : w5.cell? ⟨w.heap.size, 1, none⟩ = some (.int .i64 ((min (q + 1) (8 * s.size) : Nat) : Int)) := cell_at R5.2 1
          by_cases hb : bq = 1
          · have e6 : UC = 6 := by rw [HRS.out, if_pos hb]
            have eT := HUT.out (by rw [e6]; decide)
            subst e6 eT hb
            go_wp2
            go_ret2
            exact ⟨rfl, K5⟩
          · have hb0 : bq = 0 := by omega
            subst hb0
            have HRN : Hid (UC = rst s n' (q + 1)) := by show _ = _; rw [HRS.out, if_neg hb]
            go_wp2
            go_roundw
            case rel => exact ⟨q + 1, n', by omega, hq1, HRN, R5, K5⟩
            case measure => rw [c5, c1]; simp [intOf]; omega
    · obtain ⟨rfl, rfl⟩ := HB1 hc0
      have hcI : ((UC : Int) != 0) = true := by rw [bne_iff_ne]; omega
      have hcI2 : ¬ (UC : Int) = 0 := by omega
      clear hR3 HB2
      go_wp2
      go_ret2
      exact ⟨rfl, K3⟩

end Pk
end Go.Proofs.YtlgolnddhfadeabGreatDoor

/- The mathematics of chapter 4: four digits, and the parts of a frame. -/
namespace Go.Proofs.YtlgolnddhfadeabGreatDoor
namespace Fr
open Math (unpC unpT)
set_option linter.unusedVariables false

/-- The number of the first k bytes of a text, where they are digits. -/
def dg (t : ByteArray) : Nat → Option Nat
  | 0 => some 0
  | k + 1 => (dg t k).bind fun n => if 48 ≤ (t.data.toList.getD k 0).toNat ∧ (t.data.toList.getD k 0).toNat ≤ 57 then some (10 * n + ((t.data.toList.getD k 0).toNat - 48)) else none

theorem dg_lt (t : ByteArray) (k n : Nat) (h : dg t k = some n) : n < 10 ^ k := by
  induction k generalizing n with
  | zero => simp [dg] at h; omega
  | succ k ih =>
    rw [dg] at h
    cases e : dg t k with
    | none => rw [e] at h; simp at h
    | some m =>
      rw [e] at h
      have hm := ih m e
      simp only [Option.bind_some] at h
      split at h
      · simp only [Option.some.injEq] at h
        rw [Nat.pow_succ]
        omega
      · simp at h

theorem dg_none (t : ByteArray) (k j : Nat) (h : dg t k = none) (hj : k ≤ j) : dg t j = none := by
  induction j with
  | zero => rw [show (0 : Nat) = k by omega]; exact h
  | succ j ih =>
    by_cases e : k = j + 1
    · subst e; exact h
    · rw [dg, ih (by omega)]
      rfl

theorem dg_at (t : ByteArray) (k n : Nat) (hk : k < t.size) (h : dg t k = some n) : dg t (k + 1) = if 48 ≤ t[k].toNat ∧ t[k].toNat ≤ 57 then some (10 * n + (t[k].toNat - 48)) else none := by
  have h1 : k < t.data.toList.length := by rw [Array.length_toList]; exact hk
  have e : t.data.toList.getD k 0 = t[k] := by rw [List.getD_eq_getElem?_getD, List.getElem?_eq_getElem h1]; rfl
  rw [dg, h, e]
  rfl

theorem dg_ext (t u : ByteArray) (k : Nat) (h : ∀ j, j < k → t.data.toList.getD j 0 = u.data.toList.getD j 0) : dg t k = dg u k := by
  induction k with
  | zero => rfl
  | succ k ih => rw [dg, dg, ih fun j hj => h j (by omega), h k (by omega)]

theorem getD_extract (s : ByteArray) (a b j : Nat) (h : a + j < b) (hb : b ≤ s.size) : (s.extract a b).data.toList.getD j 0 = s.data.toList.getD (a + j) 0 := by
  have e : (s.extract a b).data.toList = (s.data.toList.take b).drop a := by
    rw [ByteArray.data_extract, Array.toList_extract, List.extract_eq_take_drop, List.take_drop]
    congr 2
    omega
  rw [e, List.getD_eq_getElem?_getD, List.getElem?_drop, List.getElem?_take, if_pos (by omega), List.getD_eq_getElem?_getD]

/-- What cutFourDigits answers. -/
def cutB (r : ByteArray) : Bool := decide (4 ≤ r.size) && (dg r 4).isSome
def cutN (r : ByteArray) : Nat := if cutB r = true then (dg r 4).getD 0 else 0
def cutR (r : ByteArray) : ByteArray := if cutB r = true then r.extract 4 r.size else ⟨#[]⟩

theorem cut_yes {r : ByteArray} {n : Nat} (h : 4 ≤ r.size) (hd : dg r 4 = some n) : cutB r = true ∧ cutN r = n ∧ cutR r = r.extract 4 r.size := by
  have e : cutB r = true := by unfold cutB; rw [hd]; simp [h]
  exact ⟨e, by unfold cutN; rw [if_pos e, hd]; rfl, by unfold cutR; rw [if_pos e]⟩

theorem cut_no {r : ByteArray} (h : ¬ (4 ≤ r.size) ∨ dg r 4 = none) : cutB r = false ∧ cutN r = 0 ∧ cutR r = ⟨#[]⟩ := by
  have e : cutB r = false := by
    unfold cutB
    rcases h with h | h
    · simp [h]
    · rw [h]; simp
  exact ⟨e, by unfold cutN; rw [if_neg (by rw [e]; simp)], by unfold cutR; rw [if_neg (by rw [e]; simp)]⟩

/-- The number of four digits, or -1. -/
def digI (t : ByteArray) : Int := match dg t 4 with
  | some n => n
  | none => -1

theorem digI_some {t : ByteArray} {n : Nat} (h : dg t 4 = some n) : digI t = n := by unfold digI; rw [h]
theorem digI_none {t : ByteArray} (h : dg t 4 = none) : digI t = -1 := by unfold digI; rw [h]

theorem cut_rest (s : ByteArray) (a : Nat) (h : a + 4 ≤ s.size) : dg (s.extract a s.size) 4 = dg (s.extract a (a + 4)) 4 :=
  dg_ext _ _ 4 fun j hj => by rw [getD_extract s a s.size j (by omega) (Nat.le_refl _), getD_extract s a (a + 4) j (by omega) h]

theorem ext_size (s : ByteArray) (a b : Nat) (h : b ≤ s.size) : (s.extract a b).size = b - a := by rw [ByteArray.size_extract]; omega

theorem ext_ext (s : ByteArray) (a b : Nat) : (s.extract a s.size).extract b (s.extract a s.size).size = s.extract (a + b) s.size := by
  rw [ByteArray.extract_extract, ByteArray.size_extract]
  by_cases h : a ≤ s.size
  · congr 1
    omega
  · apply ByteArray.ext
    rw [ByteArray.data_extract, ByteArray.data_extract, Array.extract_empty_of_size_le_start (by show s.size ≤ _; omega), Array.extract_empty_of_size_le_start (by show s.size ≤ _; omega)]

theorem ext_in (s : ByteArray) (a b c : Nat) (h : a + c ≤ s.size) : (s.extract a s.size).extract b c = s.extract (a + b) (a + c) := by
  rw [ByteArray.extract_extract]
  congr 1
  omega

def hd5 : ByteArray := ⟨#[35, 85, 84, 48, 49]⟩

theorem take5 (s : ByteArray) (h : 5 ≤ s.size) : (s.extract 0 5).data.toList = s.data.toList.take 5 := by
  rw [ByteArray.data_extract, Array.toList_extract, List.extract_eq_take_drop]
  rfl

/-- A text that begins as a frame does. -/
theorem prefix_yes (s : ByteArray) (h : 5 ≤ s.size) (he : s.extract 0 5 = hd5) : Lib.hasPrefix s.data.toList hd5.data.toList = true ∧ (⟨(Lib.trimPrefix s.data.toList hd5.data.toList).toArray⟩ : ByteArray) = s.extract 5 s.size := by
  have e : s.data.toList.take 5 = hd5.data.toList := by rw [← take5 s h, he]
  have hp : Lib.hasPrefix s.data.toList hd5.data.toList = true := by
    unfold Lib.hasPrefix
    rw [List.isPrefixOf_iff_prefix, ← e]
    exact List.take_prefix 5 _
  refine ⟨hp, ?_⟩
  unfold Lib.trimPrefix
  rw [if_pos hp]
  apply ByteArray.ext
  apply Array.toList_inj.1
  rw [ByteArray.data_extract, Array.toList_extract, List.extract_eq_take_drop, List.take_of_length_le (by rw [List.length_drop, Array.length_toList]; show s.size - 5 ≤ s.size - 5; omega)]
  rfl

theorem prefix_no (s : ByteArray) (h : ¬ 5 ≤ s.size ∨ s.extract 0 5 ≠ hd5) : Lib.hasPrefix s.data.toList hd5.data.toList = false := by
  apply Bool.eq_false_iff.2
  intro hp
  unfold Lib.hasPrefix at hp
  rw [List.isPrefixOf_iff_prefix] at hp
  have hl := hp.length_le
  have h5 : 5 ≤ s.size := by rw [Array.length_toList] at hl; exact hl
  rcases h with h | h
  · exact h h5
  · apply h
    apply ByteArray.ext
    apply Array.toList_inj.1
    rw [take5 s h5]
    exact (List.prefix_iff_eq_take.1 hp).symm

/-- What is told of a frame. -/
def Bad1 (s : ByteArray) : Prop := ¬ 5 ≤ s.size ∨ s.extract 0 5 ≠ hd5
def Bad2 (s : ByteArray) : Prop := s.size < 17 ∨ dg (s.extract 5 9) 4 = none
def Bad3 (s : ByteArray) : Prop := s.size < 21 ∨ dg (s.extract 17 21) 4 ≠ some (s.size - 21)
def Bad4 (s : ByteArray) : Prop := unpC (s.extract 21 s.size) ≠ 0

end Fr
end Go.Proofs.YtlgolnddhfadeabGreatDoor

/- What Unframe answers. -/
namespace Go.Proofs.YtlgolnddhfadeabGreatDoor
namespace Fr
open Math (unpC unpT)
open Num (rmR rmS)
set_option linter.unusedVariables false

def fC (s : ByteArray) : Nat := if ¬ 5 ≤ s.size ∨ s.extract 0 5 ≠ hd5 then 1 else if s.size < 17 ∨ dg (s.extract 5 9) 4 = none then 2 else if s.size < 21 ∨ dg (s.extract 17 21) 4 ≠ some (s.size - 21) then 3 else if unpC (s.extract 21 s.size) ≠ 0 then 4 else 0
def fN (s : ByteArray) : Int := if fC s = 0 then digI (s.extract 5 9) else 0
def fR (s : ByteArray) : Int := if fC s = 0 then rmR (s.extract 9 17) else 0
def fS (s : ByteArray) : Int := if fC s = 0 then rmS (s.extract 9 17) else 0
def fP (s : ByteArray) : ByteArray := if fC s = 0 then unpT (s.extract 21 s.size) else ⟨#[]⟩

theorem f_no {s : ByteArray} (h : fC s ≠ 0) : fN s = 0 ∧ fR s = 0 ∧ fS s = 0 ∧ fP s = ⟨#[]⟩ := ⟨if_neg h, if_neg h, if_neg h, if_neg h⟩
theorem f_yes {s : ByteArray} (h : fC s = 0) : fN s = digI (s.extract 5 9) ∧ fR s = rmR (s.extract 9 17) ∧ fS s = rmS (s.extract 9 17) ∧ fP s = unpT (s.extract 21 s.size) := ⟨if_pos h, if_pos h, if_pos h, if_pos h⟩

theorem f_cases (s : ByteArray) : (Bad1 s ∧ fC s = 1) ∨ (¬ Bad1 s ∧ Bad2 s ∧ fC s = 2) ∨ (¬ Bad1 s ∧ ¬ Bad2 s ∧ Bad3 s ∧ fC s = 3) ∨ (¬ Bad1 s ∧ ¬ Bad2 s ∧ ¬ Bad3 s ∧ Bad4 s ∧ fC s = 4) ∨ (¬ Bad1 s ∧ ¬ Bad2 s ∧ ¬ Bad3 s ∧ ¬ Bad4 s ∧ fC s = 0) := by
  unfold Bad1 Bad2 Bad3 Bad4
  by_cases h1 : ¬ 5 ≤ s.size ∨ s.extract 0 5 ≠ hd5
  · exact Or.inl ⟨h1, by unfold fC; rw [if_pos h1]⟩
  by_cases h2 : s.size < 17 ∨ dg (s.extract 5 9) 4 = none
  · exact Or.inr (Or.inl ⟨h1, h2, by unfold fC; rw [if_neg h1, if_pos h2]⟩)
  by_cases h3 : s.size < 21 ∨ dg (s.extract 17 21) 4 ≠ some (s.size - 21)
  · exact Or.inr (Or.inr (Or.inl ⟨h1, h2, h3, by unfold fC; rw [if_neg h1, if_neg h2, if_pos h3]⟩))
  by_cases h4 : unpC (s.extract 21 s.size) ≠ 0
  · exact Or.inr (Or.inr (Or.inr (Or.inl ⟨h1, h2, h3, h4, by unfold fC; rw [if_neg h1, if_neg h2, if_neg h3, if_pos h4]⟩)))
  · exact Or.inr (Or.inr (Or.inr (Or.inr ⟨h1, h2, h3, h4, by unfold fC; rw [if_neg h1, if_neg h2, if_neg h3, if_neg h4]⟩)))

/-- The answer. -/
abbrev u4 (n r s : Int) (p : ByteArray) (c : Int) : Go.Value := .tuple #[.int .i64 n, .agg #[.int .i64 r, .int .i64 s], .string p, .int .i64 c]

end Fr
end Go.Proofs.YtlgolnddhfadeabGreatDoor

/- The bound of what is unpacked, and of a frame's text. -/
namespace Go.Proofs.YtlgolnddhfadeabGreatDoor
namespace Fr
open Math (fixFrom symLen symAt p1 bk p2' dd nn unpC unpT body storedC storedT lowAt)
set_option linter.unusedVariables false

theorem fix_len (v : ByteArray) (f : Nat) : ∀ (a : Nat) (out o : List UInt8) (z : Nat), out.length ≤ 3000 → fixFrom v f a out = (0, o, z) → o.length ≤ 3000 := by
  induction f with
  | zero => intro a out o z _ h; rw [fixFrom] at h; simp at h
  | succ f ih =>
    intro a out o z hout h
    by_cases h1 : 8 * v.size < a + symLen v a
    · rw [Math.fix_cut h1] at h; simp at h
    by_cases h2 : symAt v a = 256
    · rw [Math.fix_end h1 h2] at h
      simp only [Prod.mk.injEq, true_and] at h
      obtain ⟨rfl, rfl⟩ := h
      exact hout
    by_cases h3 : symAt v a < 256
    · by_cases h4 : 3000 < out.length + 1
      · rw [Math.fix_full h1 h3 h4] at h; simp at h
      · rw [Math.fix_byte h1 h3 h4] at h
        exact ih _ _ _ _ (by rw [List.length_append, List.length_singleton]; omega) h
    by_cases h4 : 285 < symAt v a
    · rw [Math.fix_sym h1 h4] at h; simp at h
    by_cases h5 : 8 * v.size < p1 v a + 5
    · rw [Math.fix_cut2 h1 (by omega) (by omega) h5] at h; simp at h
    by_cases h6 : 29 < bk v a
    · rw [Math.fix_sym2 h1 (by omega) (by omega) h5 h6] at h; simp at h
    by_cases h7 : 8 * v.size < p2' v a
    · rw [Math.fix_cut3 h1 (by omega) (by omega) h5 h6 h7] at h; simp at h
    by_cases h8 : out.length < dd v a
    · rw [Math.fix_back h1 (by omega) (by omega) h5 h6 h7 h8] at h; simp at h
    by_cases h9 : 3000 < out.length + nn v a
    · rw [Math.fix_long h1 (by omega) (by omega) h5 h6 h7 h8 h9] at h; simp at h
    rw [Math.fix_copy h1 (by omega) (by omega) h5 h6 h7 h8 h9] at h
    exact ih _ _ _ _ (by rw [Math.copyN_length]; omega) h

/-- What is known of a text that is unpacked. -/
theorem unp_is (v : ByteArray) (h : unpC v = 0) : ¬ 6000 < v.size ∧ 1 ≤ v.size ∧ ¬ (Math.bitAt v 0 = 0 ∨ 1 < lowAt v 1 2) ∧ (body v).1 = 0 ∧ Math.rst v 8 (body v).2.2 = 0 := by
  unfold unpC at h
  by_cases h1 : 6000 < v.size
  · rw [if_pos h1] at h; omega
  rw [if_neg h1] at h
  by_cases h2 : v.size = 0
  · rw [if_pos h2] at h; omega
  rw [if_neg h2] at h
  by_cases h3 : Math.bitAt v 0 = 0 ∨ 1 < lowAt v 1 2
  · rw [if_pos h3] at h; omega
  rw [if_neg h3] at h
  by_cases h4 : (body v).1 ≠ 0
  · rw [if_pos h4] at h; omega
  rw [if_neg h4] at h
  exact ⟨h1, by omega, h3, by omega, h⟩

theorem stored_ok (v : ByteArray) (h : storedC v = 0) : 5 ≤ v.size ∧ lowAt v 8 16 + lowAt v 24 16 = 65535 ∧ lowAt v 8 16 ≤ 3000 ∧ lowAt v 8 16 + 5 ≤ v.size := by
  unfold storedC at h
  by_cases h1 : v.size < 5
  · rw [if_pos h1] at h; omega
  rw [if_neg h1] at h
  by_cases h2 : lowAt v 8 16 + lowAt v 24 16 ≠ 65535
  · rw [if_pos h2] at h; omega
  rw [if_neg h2] at h
  by_cases h3 : 3000 < lowAt v 8 16
  · rw [if_pos h3] at h; omega
  rw [if_neg h3] at h
  by_cases h4 : v.size < lowAt v 8 16 + 5
  · rw [if_pos h4] at h; omega
  omega

theorem unp_bound (u : ByteArray) : (unpT u).size ≤ 3000 := by
  by_cases h : unpC u = 0
  · obtain ⟨-, -, -, h4, -⟩ := unp_is u h
    rw [Math.unpT_yes h]
    show (body u).2.1.toArray.size ≤ 3000
    rw [List.size_toArray]
    by_cases hk : lowAt u 1 2 = 1
    · have e : body u = fixFrom u (8 * u.size + 1) 3 [] := by unfold body; rw [if_pos hk]
      have ho : fixFrom u (8 * u.size + 1) 3 [] = (0, (body u).2.1, (body u).2.2) := by rw [← e, ← h4]
      exact fix_len u _ _ _ _ _ (by simp) ho
    · have e : body u = (storedC u, (storedT u).data.toList, 40 + 8 * lowAt u 8 16) := by unfold body; rw [if_neg hk]
      have hc : storedC u = 0 := by rw [e] at h4; exact h4
      obtain ⟨s1, s2, s3, s4⟩ := stored_ok u hc
      rw [e]
      show (storedT u).data.toList.length ≤ 3000
      unfold storedT
      rw [if_pos hc, Array.length_toList]
      show (u.extract 5 (5 + lowAt u 8 16)).size ≤ 3000
      rw [ByteArray.size_extract]
      omega
  · rw [Math.unpT_no h]
    exact Nat.zero_le _

theorem fP_bound (s : ByteArray) : (fP s).size ≤ 3000 := by
  by_cases h : fC s = 0
  · rw [(f_yes h).2.2.2]; exact unp_bound _
  · rw [(f_no h).2.2.2]; exact Nat.zero_le _

end Fr
end Go.Proofs.YtlgolnddhfadeabGreatDoor

/- What guessTicket guesses of a ticket's plain text is the ticket: the mathematics. -/
namespace Go.Proofs.YtlgolnddhfadeabGreatDoor
namespace Gt
open Go.ChangeShapes Go.WideShapes Go.ChangeAt Go.RowKit
open Tk (Lg Hd okB putT Nums okB_parts)
open Num (decS)
set_option linter.unusedSimpArgs false
set_option linter.unusedVariables false

theorem index_one (c : UInt8) : ∀ (a r : List UInt8), c ∉ a → Lib.index (a ++ c :: r) [c] = (a.length : Int)
  | [], r, _ => by
    rw [List.nil_append, Lib.index, if_pos (by simp [List.isPrefixOf])]
    rfl
  | x :: a, r, h => by
    rw [List.mem_cons, not_or] at h
    rw [List.cons_append, Lib.index, if_neg (by simp [List.isPrefixOf]; exact h.1), index_one c a r h.2]
    rw [if_neg (by simp), List.length_cons]
    omega

theorem index_none (c : UInt8) : ∀ (a : List UInt8), c ∉ a → Lib.index a [c] = -1
  | [], _ => by simp [Lib.index]
  | x :: a, h => by
    rw [List.mem_cons, not_or] at h
    rw [Lib.index, if_neg (by simp [List.isPrefixOf]; exact h.1), index_none c a h.2]
    rfl

theorem cut_at (a r : List UInt8) (h : (10 : UInt8) ∉ a) : Lib.cut (a ++ 10 :: r) [10] = (a, r, true) := by
  unfold Lib.cut
  rw [index_one 10 a r h, if_pos (by omega), Int.toNat_natCast]
  have e : ([10] : List UInt8).length = 1 := rfl
  rw [e, List.take_left, List.drop_append, List.drop_eq_nil_of_le (by omega)]
  simp

theorem ct_at {s : ByteArray} {a r : List UInt8} (hs : bl s = a ++ 10 :: r) (h : (10 : UInt8) ∉ a) : bl (ctA s) = a ∧ bl (ctR s) = r := by
  unfold ctA ctR
  rw [show s.data.toList = a ++ 10 :: r from hs, cut_at a r h]
  exact ⟨rfl, rfl⟩

theorem splitK_words (a : List UInt8) (ds : List (List UInt8)) (ha : (32 : UInt8) ∉ a) (hd : ∀ d ∈ ds, (32 : UInt8) ∉ d) : Lib.splitK [32] 0 ds.length (a ++ ds.flatMap fun d => 32 :: d) = a :: ds := by
  induction ds generalizing a with
  | nil => simp [Lib.splitK]
  | cons d ds ih =>
    have e : a ++ (d :: ds).flatMap (fun d => 32 :: d) = a ++ 32 :: (d ++ ds.flatMap (fun d => 32 :: d)) := by simp
    rw [e, List.length_cons, Lib.splitK, index_one 32 a _ ha, if_neg (by simp), Int.toNat_natCast]
    have e1 : ([32] : List UInt8).length = 1 := rfl
    rw [Nat.add_zero, List.take_left, e1, List.drop_append, List.drop_eq_nil_of_le (by omega)]
    have e2 : a.length + 1 - a.length = 1 := by omega
    rw [e2, List.nil_append, List.drop_succ_cons, List.drop_zero, ih d (hd d List.mem_cons_self) (fun b hb => hd b (List.mem_cons_of_mem _ hb))]

theorem flat_length (zs : List Int) : zs.length ≤ (zs.flatMap fun z => 32 :: bl (decS z)).length := by
  induction zs with
  | nil => simp
  | cons z zs ih =>
    rw [List.flatMap_cons, List.length_append, List.length_cons, List.length_cons]
    omega

theorem nAt_line {x wd : ByteArray} {zs : List Int} (hw : (32 : UInt8) ∉ bl wd) (hz : Nums zs) (hx : bl x = lineL (bl wd) zs) (j : Nat) (hj : j < zs.length) : (nAt x zs.length j : Int) = zs[j] := by
  have hsz : zs.length ≤ x.size := by
    rw [← bl_length, hx]
    unfold lineL
    rw [List.length_append]
    have := flat_length zs
    omega
  have h1 : (wordsN x zs.length).map bl = bl wd :: zs.map (fun z => bl (decS z)) := by
    have h2 := Lib.splitB_data ⟨#[32]⟩ 0 (min (zs.length + 1) (x.size + 1) - 1) x
    have h3 : (wordsN x zs.length).map bl = Lib.splitK [32] 0 (min (zs.length + 1) (x.size + 1) - 1) (bl x) := h2
    rw [h3, show min (zs.length + 1) (x.size + 1) - 1 = (zs.map fun z => bl (decS z)).length from by rw [List.length_map]; omega, hx]
    unfold lineL
    have e : (zs.flatMap fun z => 32 :: bl (decS z)) = (zs.map fun z => bl (decS z)).flatMap fun d => 32 :: d := by rw [List.flatMap_map]
    rw [e]
    refine splitK_words (bl wd) _ hw ?_
    intro d hd hm
    obtain ⟨z, hz1, rfl⟩ := List.mem_map.1 hd
    rw [dec_bl z (hz z hz1).1] at hm
    exact dec_no _ 32 (by decide) hm
  have hlen : (wordsN x zs.length).length = zs.length + 1 := by
    have := congrArg List.length h1
    simpa using this
  have hw1 : (wordsN x zs.length).getD (j + 1) ⟨#[]⟩ = decS zs[j] := by
    apply bl_ext
    have h4 : ((wordsN x zs.length).map bl)[j + 1]? = some (bl (decS zs[j])) := by
      rw [h1, List.getElem?_cons_succ, List.getElem?_map, List.getElem?_eq_getElem hj]
      rfl
    rw [List.getElem?_map] at h4
    rw [List.getD_eq_getElem?_getD]
    cases e : (wordsN x zs.length)[j + 1]? with
    | none => rw [e] at h4; cases h4
    | some y => rw [e] at h4; exact Option.some.inj h4
  have hb := hz zs[j] (List.getElem_mem hj)
  have hrd : Rd (decS zs[j]) ∧ vl (decS zs[j]) = zs[j].toNat := by
    unfold Rd vl
    rw [show (decS zs[j]).data.toList = Lib.decDigits zs[j].toNat from dec_bl _ hb.1]
    exact ⟨dec_read _ (by omega), dec_val' _⟩
  unfold nAt
  rw [if_pos (by omega), hw1, rv_yes hrd.1, hrd.2]
  omega

theorem lgI_line {x : ByteArray} {l : Lg} (hz : Nums (lZ l)) (hx : bl x = lLine l) : lgI x = l := by
  have h := fun j (hj : j < 6) => nAt_line (wd := legW) (zs := lZ l) (by decide) hz hx j hj
  unfold lgI
  have h0 := h 0 (by omega)
  have h1 := h 1 (by omega)
  have h2 := h 2 (by omega)
  have h3 := h 3 (by omega)
  have h4 := h 4 (by omega)
  have h5 := h 5 (by omega)
  rw [show (lZ l).length = 6 from rfl] at h0 h1 h2 h3 h4 h5
  rw [h0, h1, h2, h3, h4, h5]
  rfl

theorem gL_lines : ∀ (ls : List Lg) (n : Nat) (r : ByteArray), ls.length ≤ n → (∀ l ∈ ls, Nums (lZ l)) → bl r = (ls.map lLine).flatMap (fun a => a ++ [10]) → gL n r = ls
  | [], n, r, _, _, hr => gL_end (by rw [← bl_length, hr]; rfl)
  | l :: ls, n, r, hn, hz, hr => by
    obtain ⟨n', rfl⟩ : ∃ n', n = n' + 1 := ⟨n - 1, by simp at hn; omega⟩
    have hr2 : bl r = lLine l ++ 10 :: (ls.map lLine).flatMap (fun a => a ++ [10]) := by rw [hr]; simp
    have hno : (10 : UInt8) ∉ lLine l := line_no _ _ (by decide) (hz l List.mem_cons_self)
    obtain ⟨a1, a2⟩ := ct_at hr2 hno
    have hne : ¬ r.size = 0 := by
      rw [← bl_length, hr2, List.length_append, List.length_cons]
      omega
    rw [gL_step hne, lgI_line (hz l List.mem_cons_self) a1, gL_lines ls n' (ctR r) (by simp at hn; omega) (fun x hx => hz x (List.mem_cons_of_mem _ hx)) a2]

theorem guess_good {s : ByteArray} {t : Hd} {nm : ByteArray} {ls : List Lg} (h : Good s t nm ls) : gHd s = t ∧ gNm s = nm ∧ gLs s = ls := by
  obtain ⟨hok, hput⟩ := h
  obtain ⟨hn, hs40, hl6, hns⟩ := okB_parts t nm ls hok
  have hnm := name_no (ok_name hok)
  have hb : bl s = hLine t ++ 10 :: (nLine nm ++ 10 :: (ls.map lLine).flatMap (fun a => a ++ [10])) := by
    rw [← hput, put_bl t nm ls ls.length (Nat.le_refl _), List.take_of_length_le (Nat.le_refl _)]
    simp
  obtain ⟨a1, a2⟩ := ct_at hb (line_no _ _ (by decide) hn)
  obtain ⟨b1, b2⟩ := ct_at a2 hnm
  refine ⟨?_, ?_, ?_⟩
  · have h := fun j (hj : j < 5) => nAt_line (wd := headW) (zs := hZ t) (by decide) hn a1 j hj
    have h0 := h 0 (by omega)
    have h1 := h 1 (by omega)
    have h2 := h 2 (by omega)
    have h3 := h 3 (by omega)
    have h4 := h 4 (by omega)
    rw [show (hZ t).length = 5 from rfl] at h0 h1 h2 h3 h4
    unfold gHd
    rw [h0, h1, h2, h3, h4]
    rfl
  · apply bl_ext
    unfold gNm
    rw [show (ctA (ctR s)).data.toList = nLine nm from b1]
    unfold Lib.trimPrefix Lib.hasPrefix nLine
    rw [if_pos (by simp [List.isPrefixOf])]
    rfl
  · exact gL_lines ls 7 _ (by omega) hns b2

end Gt
end Go.Proofs.YtlgolnddhfadeabGreatDoor

/- The program's GetTicket. -/
namespace Go.Proofs.YtlgolnddhfadeabGreatDoor
namespace Gt
open Go.ChangeShapes Go.WideShapes Go.ChangeAt Go.RowKit
open Pk (own_at own_ge own_below own_form info_of new_below join_below heap_new lt_of kept cell_at heap_old frozen_at)
open Tk (Lg Hd Legs lgV tkV tkB okB putT putS p2V)
set_option linter.unusedSimpArgs false
set_option linter.unusedVariables false

theorem clone_val (s : ByteArray) (w : World) (hs : s.size ≤ 1048576) :
    Calls Tryz.prog 131 #[.string s] w fun e w' => e = .returned (.string s) ∧ Below w.heap.size w w' := by
  have HC : Hid (∀ W, _) := fun W => Tryz.stringslite_Clone s W (by omega)
  go_enter Tryz.func131, Tryz.ntmps131
  go_wp2_with fail
  refine (HC.out _).mono ?_
  rintro e w1 ⟨rfl, L1⟩
  go_wp2
  go_ret
  exact ⟨rfl, L1⟩

theorem gNm_size (s : ByteArray) : (gNm s).size ≤ s.size := by
  have e : ∀ l : List UInt8, (⟨l.toArray⟩ : ByteArray).size = l.length := fun l => by simp [ByteArray.size]
  obtain ⟨-, c2, -⟩ := ct_size s
  obtain ⟨d1, -, -⟩ := ct_size (ctR s)
  have hl : (ctA (ctR s)).data.toList.length = (ctA (ctR s)).size := Array.length_toList
  unfold gNm
  rw [e]
  unfold Lib.trimPrefix
  split
  · rw [List.length_drop]
    omega
  · omega

theorem gL_length : ∀ n r, (gL n r).length ≤ n
  | 0, _ => Nat.le_refl _
  | n + 1, r => by
    rw [gL]
    split
    · simp
    · have := gL_length n (ctR r)
      rw [List.length_cons]
      omega

set_option maxRecDepth 100000 in
set_option maxHeartbeats 4000000 in
theorem implGet_val (s : ByteArray) (w : World) (hs : s.size ≤ 1048576) (M : ML w) (Tn : Num.Tens w) :
    Calls Tryz.prog 90 #[.string s] w fun e w' => GetEnd s w.heap.size e w' ∧ Below w.heap.size w w' := by
  have N0 := new_below w (.cells #[.int .i64 0, .string ⟨#[]⟩, .int .i64 0, .int .i64 0, .int .i64 0, .int .i64 0, .slice none 0 0] 53)
  have m0 := heap_new w (.cells #[.int .i64 0, .string ⟨#[]⟩, .int .i64 0, .int .i64 0, .int .i64 0, .int .i64 0, .slice none 0 0] 53)
  have HGV : Hid (∀ W, ML W → _) := fun W h => guess_val s W hs h
  have HUN : Hid (∀ t nm ls, Good s t nm ls → gHd s = t ∧ gNm s = nm ∧ gLs s = ls) := fun t nm ls h => guess_good h
  have hnz : (gNm s).size ≤ 1048576 := Nat.le_trans (gNm_size s) hs
  have hl7 : (gLs s).length ≤ 7 := gL_length 7 _
  have HPV : Hid (∀ W (a : Option Addr) (lc : Nat), Legs W a (gLs s) → Num.Tens W → _) := fun W a lc h1 h2 => Tk.implPut_val (gHd s) (gNm s) a (gLs s) lc W (by unfold maxLen; omega) (by omega) h1 h2
  have HCL : Hid (∀ W, _) := fun W => clone_val (gNm s) W hnz
  generalize gHd s = t at *
  generalize gNm s = nm at *
  generalize gLs s = ls at *
  go_enter Tryz.func90, Tryz.ntmps90
  go_wp2_with fail
  generalize w.alloc (.cells #[.int .i64 0, .string ⟨#[]⟩, .int .i64 0, .int .i64 0, .int .i64 0, .int .i64 0, .slice none 0 0] 53) = w0 at *
  refine (HGV.out _ (M.on N0)).mono ?_
  rintro e w1 ⟨⟨a, lc, rfl, O1⟩, L1⟩
  have m1 := kept L1 (lt_of m0) m0
  have K1 := join_below N0 L1
  have NT := new_below w1 (.cells #[.int .i64 t.id, .string nm, .int .i64 t.cl, .int .i64 t.pr, .int .i64 t.fi, .int .i64 t.la, .slice a ls.length lc] 53)
  have mT := heap_new w1 (.cells #[.int .i64 t.id, .string nm, .int .i64 t.cl, .int .i64 t.pr, .int .i64 t.fi, .int .i64 t.la, .slice a ls.length lc] 53)
  have m2 := kept NT (lt_of m1) m1
  have K2 := join_below K1 NT
  have O2 := own_below O1 NT (Nat.le_refl _)
  have O3 := own_base O2 (show w.heap.size ≤ w0.heap.size from N0.size)
  have hTR : w1.heap.size ≠ w.heap.size := by have := lt_of m1; omega
  have hTge : w.heap.size ≤ w1.heap.size := by have := lt_of m1; omega
  obtain ⟨a2, lc2, e2, I2⟩ := own_legs O3
  simp only [Value.slice.injEq, true_and] at e2
  obtain ⟨rfl, rfl⟩ := e2
  clear N0 m0 L1 m1 K1 NT O1 O2 HGV
  unfold Tk.tkV at HPV
  have t0 : (w1.alloc (.cells #[.int .i64 t.id, .string nm, .int .i64 t.cl, .int .i64 t.pr, .int .i64 t.fi, .int .i64 t.la, .slice a ls.length lc] 53)).cell? ⟨w1.heap.size, 0, none⟩ = some (.int .i64 t.id) := cell_at mT 0
  have t1 : (w1.alloc (.cells #[.int .i64 t.id, .string nm, .int .i64 t.cl, .int .i64 t.pr, .int .i64 t.fi, .int .i64 t.la, .slice a ls.length lc] 53)).cell? ⟨w1.heap.size, 1, none⟩ = some (.string nm) := cell_at mT 1
  have t2 : (w1.alloc (.cells #[.int .i64 t.id, .string nm, .int .i64 t.cl, .int .i64 t.pr, .int .i64 t.fi, .int .i64 t.la, .slice a ls.length lc] 53)).cell? ⟨w1.heap.size, 2, none⟩ = some (.int .i64 t.cl) := cell_at mT 2
  have t3 : (w1.alloc (.cells #[.int .i64 t.id, .string nm, .int .i64 t.cl, .int .i64 t.pr, .int .i64 t.fi, .int .i64 t.la, .slice a ls.length lc] 53)).cell? ⟨w1.heap.size, 3, none⟩ = some (.int .i64 t.pr) := cell_at mT 3
  have t4 : (w1.alloc (.cells #[.int .i64 t.id, .string nm, .int .i64 t.cl, .int .i64 t.pr, .int .i64 t.fi, .int .i64 t.la, .slice a ls.length lc] 53)).cell? ⟨w1.heap.size, 4, none⟩ = some (.int .i64 t.fi) := cell_at mT 4
  have t5 : (w1.alloc (.cells #[.int .i64 t.id, .string nm, .int .i64 t.cl, .int .i64 t.pr, .int .i64 t.fi, .int .i64 t.la, .slice a ls.length lc] 53)).cell? ⟨w1.heap.size, 5, none⟩ = some (.int .i64 t.la) := cell_at mT 5
  have t6 : (w1.alloc (.cells #[.int .i64 t.id, .string nm, .int .i64 t.cl, .int .i64 t.pr, .int .i64 t.fi, .int .i64 t.la, .slice a ls.length lc] 53)).cell? ⟨w1.heap.size, 6, none⟩ = some (.slice a ls.length lc) := cell_at mT 6
  go_wp2_with fail
  generalize w1.alloc (.cells #[.int .i64 t.id, .string nm, .int .i64 t.cl, .int .i64 t.pr, .int .i64 t.fi, .int .i64 t.la, .slice a ls.length lc] 53) = w2 at *
  generalize w1.heap.size = T at *
  have HPU : Hid (∀ _ : Unit, _) := fun _ => HPV.out w2 a lc I2 (Tn.on K2)
  by_cases hok : okB t nm ls = true
  · by_cases hpt : putT t nm ls ls.length = s
    · rw [Tk.putS_yes t nm ls hok, hpt, hok] at HPU
      have hg : Good s t nm ls := ⟨hok, hpt⟩
      have HG : Hid (Good s t nm ls) := hg
      refine (HPU.out ()).mono ?_
      rintro e w3 ⟨rfl, L3⟩
      have m3 := kept L3 (lt_of m2) m2
      have mT3 := kept L3 (lt_of mT) mT
      have O4 := own_below O3 L3 (Nat.le_refl _)
      have K3 := join_below K2 L3
      clear HPU HPV m2 mT O3 I2 K2 L3 hg hok hpt t0 t1 t2 t3 t4 t5 t6
      have n1 : w3.cell? ⟨T, 1, none⟩ = some (.string nm) := cell_at mT3 1
      go_wp2_with fail
      refine (HCL.out _).mono ?_
      rintro e w4 ⟨rfl, L4⟩
      have m4 := kept L4 (lt_of m3) m3
      have mT4 := kept L4 (lt_of mT3) mT3
      have O5 := own_below O4 L4 (Nat.le_refl _)
      have K4 := join_below K3 L4
      have mT5 := Tk.h_set (i := 1) mT4 (.string nm)
      have m5 := Tk.h_other (i := 1) m4 (Ne.symm hTR) (.string nm)
      have f1 : w4.frozen? ⟨T, 1, none⟩ = false := frozen_at mT4 1
      have n2 : w4.cell? ⟨T, 1, none⟩ = some (.string nm) := cell_at mT4 1
      have aT : (Value.slice a ls.length lc).ownBlock ≠ some T := Pk.own_ne' O5 mT4 (by decide)
      have aR : (Value.slice a ls.length lc).ownBlock ≠ some w.heap.size := Pk.own_ne' O5 m4 (by decide)
      have O6 : (w4.setCell ⟨T, 1, none⟩ (.string nm)).ownsRow w.heap.size 114 6 (.slice a ls.length lc) ls.length (lcells ls) := own_offv O5 aT _
      have K5 := K4.setCell (p := ⟨T, 1, none⟩) (by show w.heap.size ≤ T; exact hTge) (.string nm)
      clear m3 mT3 O4 K3 L4 HCL n1
      have b0 : (w4.setCell ⟨T, 1, none⟩ (.string nm)).cell? ⟨T, 0, none⟩ = some (.int .i64 t.id) := cell_at mT5 0
      have b1 : (w4.setCell ⟨T, 1, none⟩ (.string nm)).cell? ⟨T, 1, none⟩ = some (.string nm) := cell_at mT5 1
      have b2 : (w4.setCell ⟨T, 1, none⟩ (.string nm)).cell? ⟨T, 2, none⟩ = some (.int .i64 t.cl) := cell_at mT5 2
      have b3 : (w4.setCell ⟨T, 1, none⟩ (.string nm)).cell? ⟨T, 3, none⟩ = some (.int .i64 t.pr) := cell_at mT5 3
      have b4 : (w4.setCell ⟨T, 1, none⟩ (.string nm)).cell? ⟨T, 4, none⟩ = some (.int .i64 t.fi) := cell_at mT5 4
      have b5 : (w4.setCell ⟨T, 1, none⟩ (.string nm)).cell? ⟨T, 5, none⟩ = some (.int .i64 t.la) := cell_at mT5 5
      have b6 : (w4.setCell ⟨T, 1, none⟩ (.string nm)).cell? ⟨T, 6, none⟩ = some (.slice a ls.length lc) := cell_at mT5 6
      have a0 : (w4.setCell ⟨T, 1, none⟩ (.string nm)).cell? ⟨w.heap.size, 0, none⟩ = some (.int .i64 0) := cell_at m5 0
      have a1 : (w4.setCell ⟨T, 1, none⟩ (.string nm)).cell? ⟨w.heap.size, 1, none⟩ = some (.string ⟨#[]⟩) := cell_at m5 1
      have a2 : (w4.setCell ⟨T, 1, none⟩ (.string nm)).cell? ⟨w.heap.size, 2, none⟩ = some (.int .i64 0) := cell_at m5 2
      have a3 : (w4.setCell ⟨T, 1, none⟩ (.string nm)).cell? ⟨w.heap.size, 3, none⟩ = some (.int .i64 0) := cell_at m5 3
      have a4 : (w4.setCell ⟨T, 1, none⟩ (.string nm)).cell? ⟨w.heap.size, 4, none⟩ = some (.int .i64 0) := cell_at m5 4
      have a5 : (w4.setCell ⟨T, 1, none⟩ (.string nm)).cell? ⟨w.heap.size, 5, none⟩ = some (.int .i64 0) := cell_at m5 5
      have a6 : (w4.setCell ⟨T, 1, none⟩ (.string nm)).cell? ⟨w.heap.size, 6, none⟩ = some (.slice none 0 0) := cell_at m5 6
      have r0 : (w4.setCell ⟨T, 1, none⟩ (.string nm)).frozen? ⟨w.heap.size, 0, none⟩ = false := frozen_at m5 0
      have r1 : (w4.setCell ⟨T, 1, none⟩ (.string nm)).frozen? ⟨w.heap.size, 1, none⟩ = false := frozen_at m5 1
      have r2 : (w4.setCell ⟨T, 1, none⟩ (.string nm)).frozen? ⟨w.heap.size, 2, none⟩ = false := frozen_at m5 2
      have r3 : (w4.setCell ⟨T, 1, none⟩ (.string nm)).frozen? ⟨w.heap.size, 3, none⟩ = false := frozen_at m5 3
      have r4 : (w4.setCell ⟨T, 1, none⟩ (.string nm)).frozen? ⟨w.heap.size, 4, none⟩ = false := frozen_at m5 4
      have r5 : (w4.setCell ⟨T, 1, none⟩ (.string nm)).frozen? ⟨w.heap.size, 5, none⟩ = false := frozen_at m5 5
      have r6 : (w4.setCell ⟨T, 1, none⟩ (.string nm)).frozen? ⟨w.heap.size, 6, none⟩ = false := frozen_at m5 6
      go_wp2
      refine bodyPost_ret (v := .tuple #[tkV t nm a ls.length lc, .bool true]) (by simp [results, Tryz.results90, go_sem, a0, a1, a2, a3, a4, a5, a6]) rfl ?_
      refine ⟨Or.inl ⟨t, nm, ls, a, lc, HG.out, rfl, ?_⟩, ?_⟩
      · exact own_offv (own_offv (own_offv (own_offv (own_offv (own_offv (own_offv O6 aR _) aR _) aR _) aR _) aR _) aR _) aR _
      · (repeat' (first | apply Below.setCell | exact K4)) <;> first | (simp; done) | (simp; omega)
    · rw [Tk.putS_yes t nm ls hok, hok] at HPU
      have HNG : Hid (∀ t2 nm2 ls2, ¬ Good s t2 nm2 ls2) := fun t2 nm2 ls2 h => by obtain ⟨rfl, rfl, rfl⟩ := HUN.out t2 nm2 ls2 h; exact hpt h.2
      generalize putT t nm ls ls.length = pt at *
      have z1 : ¬ pt.toList = s.toList := fun e => hpt (Go.WideShapes.bytes_inj (by rw [← ByteArray.toList_eq, ← ByteArray.toList_eq]; exact e))
      have z2 : (pt.toList == s.toList) = false := beq_eq_false_iff_ne.2 z1
      refine (HPU.out ()).mono ?_
      rintro e w3 ⟨rfl, L3⟩
      have m3 := kept L3 (lt_of m2) m2
      have K3 := join_below K2 L3
      have a0 : w3.cell? ⟨w.heap.size, 0, none⟩ = some (.int .i64 0) := cell_at m3 0
      have a1 : w3.cell? ⟨w.heap.size, 1, none⟩ = some (.string ⟨#[]⟩) := cell_at m3 1
      have a2 : w3.cell? ⟨w.heap.size, 2, none⟩ = some (.int .i64 0) := cell_at m3 2
      have a3 : w3.cell? ⟨w.heap.size, 3, none⟩ = some (.int .i64 0) := cell_at m3 3
      have a4 : w3.cell? ⟨w.heap.size, 4, none⟩ = some (.int .i64 0) := cell_at m3 4
      have a5 : w3.cell? ⟨w.heap.size, 5, none⟩ = some (.int .i64 0) := cell_at m3 5
      have a6 : w3.cell? ⟨w.heap.size, 6, none⟩ = some (.slice none 0 0) := cell_at m3 6
      have r0 : w3.frozen? ⟨w.heap.size, 0, none⟩ = false := frozen_at m3 0
      have r1 : w3.frozen? ⟨w.heap.size, 1, none⟩ = false := frozen_at m3 1
      have r2 : w3.frozen? ⟨w.heap.size, 2, none⟩ = false := frozen_at m3 2
      have r3 : w3.frozen? ⟨w.heap.size, 3, none⟩ = false := frozen_at m3 3
      have r4 : w3.frozen? ⟨w.heap.size, 4, none⟩ = false := frozen_at m3 4
      have r5 : w3.frozen? ⟨w.heap.size, 5, none⟩ = false := frozen_at m3 5
      have r6 : w3.frozen? ⟨w.heap.size, 6, none⟩ = false := frozen_at m3 6
      go_wp2
      refine bodyPost_ret (v := .tuple #[tkV ⟨0, 0, 0, 0, 0⟩ ⟨#[]⟩ none 0 0, .bool false]) (by simp [results, Tryz.results90, go_sem, a0, a1, a2, a3, a4, a5, a6]) rfl ?_
      refine ⟨Or.inr ⟨HNG.out, rfl⟩, ?_⟩
      (repeat' (first | apply Below.setCell | exact K3)) <;> first | (simp; done) | (simp; omega)
  · have hok8 : okB t nm ls = false := Bool.eq_false_iff.2 hok
    rw [Tk.putS_no t nm ls hok8, hok8] at HPU
    have HNG : Hid (∀ t2 nm2 ls2, ¬ Good s t2 nm2 ls2) := fun t2 nm2 ls2 h => by obtain ⟨rfl, rfl, rfl⟩ := HUN.out t2 nm2 ls2 h; exact hok h.1
    refine (HPU.out ()).mono ?_
    rintro e w3 ⟨rfl, L3⟩
    have m3 := kept L3 (lt_of m2) m2
    have K3 := join_below K2 L3
    have a0 : w3.cell? ⟨w.heap.size, 0, none⟩ = some (.int .i64 0) := cell_at m3 0
    have a1 : w3.cell? ⟨w.heap.size, 1, none⟩ = some (.string ⟨#[]⟩) := cell_at m3 1
    have a2 : w3.cell? ⟨w.heap.size, 2, none⟩ = some (.int .i64 0) := cell_at m3 2
    have a3 : w3.cell? ⟨w.heap.size, 3, none⟩ = some (.int .i64 0) := cell_at m3 3
    have a4 : w3.cell? ⟨w.heap.size, 4, none⟩ = some (.int .i64 0) := cell_at m3 4
    have a5 : w3.cell? ⟨w.heap.size, 5, none⟩ = some (.int .i64 0) := cell_at m3 5
    have a6 : w3.cell? ⟨w.heap.size, 6, none⟩ = some (.slice none 0 0) := cell_at m3 6
    have r0 : w3.frozen? ⟨w.heap.size, 0, none⟩ = false := frozen_at m3 0
    have r1 : w3.frozen? ⟨w.heap.size, 1, none⟩ = false := frozen_at m3 1
    have r2 : w3.frozen? ⟨w.heap.size, 2, none⟩ = false := frozen_at m3 2
    have r3 : w3.frozen? ⟨w.heap.size, 3, none⟩ = false := frozen_at m3 3
    have r4 : w3.frozen? ⟨w.heap.size, 4, none⟩ = false := frozen_at m3 4
    have r5 : w3.frozen? ⟨w.heap.size, 5, none⟩ = false := frozen_at m3 5
    have r6 : w3.frozen? ⟨w.heap.size, 6, none⟩ = false := frozen_at m3 6
    go_wp2
    refine bodyPost_ret (v := .tuple #[tkV ⟨0, 0, 0, 0, 0⟩ ⟨#[]⟩ none 0 0, .bool false]) (by simp [results, Tryz.results90, go_sem, a0, a1, a2, a3, a4, a5, a6]) rfl ?_
    refine ⟨Or.inr ⟨HNG.out, rfl⟩, ?_⟩
    (repeat' (first | apply Below.setCell | exact K3)) <;> first | (simp; done) | (simp; omega)

end Gt
end Go.Proofs.YtlgolnddhfadeabGreatDoor

/- Contracts of the laws' own helpers over legs that a function has been given or has made: marked, held against the marks. -/
namespace Go.Proofs.YtlgolnddhfadeabGreatDoor
namespace Tk
open Go.ChangeShapes Go.WideShapes Go.ChangeAt Go.RowKit
open Pk (new_below join_below cell_at heap_new frozen_at lt_of kept heap_old Drawn info_of Room)
set_option linter.unusedSimpArgs false
set_option linter.unusedVariables false

/-- All but the blocks from lo up to hi is as it was. -/
structure Band (lo hi : Nat) (w w' : World) : Prop where
  os : w'.os = w.os
  tape : w'.tape = w.tape
  output : w'.output = w.output
  size : w'.heap.size = w.heap.size
  block : ∀ b, b < lo ∨ hi ≤ b → w'.heap[b]? = w.heap[b]?

theorem Band.refl (lo hi : Nat) (w : World) : Band lo hi w w := ⟨rfl, rfl, rfl, rfl, fun _ _ => rfl⟩

theorem Band.trans {lo hi : Nat} {a b c : World} (h : Band lo hi a b) (k : Band lo hi b c) : Band lo hi a c :=
  ⟨k.os.trans h.os, k.tape.trans h.tape, k.output.trans h.output, k.size.trans h.size, fun i hi => (k.block i hi).trans (h.block i hi)⟩

theorem Band.set {lo hi : Nat} {a w : World} (h : Band lo hi a w) {g i : Nat} (h1 : lo ≤ g) (h2 : g < hi) (u : Value) : Band lo hi a (w.setCell ⟨g, i, none⟩ u) := by
  have L := (Below.refl 0 w).setCell (p := ⟨g, i, none⟩) (Nat.zero_le _) u
  refine ⟨L.os.trans h.os, L.tape.trans h.tape, L.output.trans h.output, by rw [World.size_setCell]; exact h.size, fun b hb => ?_⟩
  rw [Below.heap_setCell w ⟨g, i, none⟩ u b (by show b ≠ g; omega)]
  exact h.block b hb

theorem Band.below {lo hi : Nat} {w w' : World} (h : Band lo hi w w') : Below lo w w' := ⟨h.os, h.tape, h.output, Nat.le_of_eq h.size.symm, fun k hk => h.block k (Or.inl hk)⟩

theorem Legs.band {lo hi : Nat} {w w1 : World} {a : Option Addr} {ps : List Lg} (h : Legs w a ps) (L : Band lo hi w w1) (ha : ∀ b o, a = some ⟨b, o, none⟩ → ps ≠ [] → b < lo ∨ hi ≤ b) : Legs w1 a ps := by
  rcases h with h | ⟨b, o, rfl, hlt, hc⟩
  · exact Or.inl h
  · by_cases hz : ps = []
    · exact Or.inl hz
    · have hb := L.block b (ha b o rfl hz)
      exact Or.inr ⟨b, o, rfl, by rw [L.size]; exact hlt, fun i hi => by rw [World.cell?_of_block (a := ⟨b, o + i * 6, none⟩) hb, World.cell?_of_block (a := ⟨b, o + i * 6 + 1, none⟩) hb, World.cell?_of_block (a := ⟨b, o + i * 6 + 2, none⟩) hb, World.cell?_of_block (a := ⟨b, o + i * 6 + 3, none⟩) hb, World.cell?_of_block (a := ⟨b, o + i * 6 + 4, none⟩) hb, World.cell?_of_block (a := ⟨b, o + i * 6 + 5, none⟩) hb]; exact hc i hi⟩

theorem Room.band {lo hi : Nat} {w w1 : World} {g m : Nat} (h : Room w g m) (L : Band lo hi w w1) (hg : g < lo ∨ hi ≤ g) : Room w1 g m := by
  intro j hj
  rw [World.cell?_of_block (a := ⟨g, j, none⟩) (L.block g hg), World.frozen?_of_block (a := ⟨g, j, none⟩) (L.block g hg)]
  exact h j hj

/-- The marks of n legs in block g. -/
def Marked (w : World) (g n : Nat) : Prop := ∀ i, i < n → w.cell? ⟨g, i * 6, none⟩ = some (.int .i64 (1 + 6 * (i : Int))) ∧ w.cell? ⟨g, i * 6 + 1, none⟩ = some (.int .i64 (1 + 6 * (i : Int) + 1)) ∧ w.cell? ⟨g, i * 6 + 2, none⟩ = some (.int .i64 (1 + 6 * (i : Int) + 2)) ∧ w.cell? ⟨g, i * 6 + 3, none⟩ = some (.int .i64 (1 + 6 * (i : Int) + 3)) ∧ w.cell? ⟨g, i * 6 + 4, none⟩ = some (.int .i64 (1 + 6 * (i : Int) + 4)) ∧ w.cell? ⟨g, i * 6 + 5, none⟩ = some (.int .i64 (1 + 6 * (i : Int) + 5))

theorem Marked.on {w w1 : World} {g n B : Nat} (h : Marked w g n) (L : Below B w w1) (hg : g < B) : Marked w1 g n := by
  intro i hi
  rw [L.cell (p := ⟨g, i * 6, none⟩) hg, L.cell (p := ⟨g, i * 6 + 1, none⟩) hg, L.cell (p := ⟨g, i * 6 + 2, none⟩) hg, L.cell (p := ⟨g, i * 6 + 3, none⟩) hg, L.cell (p := ⟨g, i * 6 + 4, none⟩) hg, L.cell (p := ⟨g, i * 6 + 5, none⟩) hg]
  exact h i hi

theorem Marked.step {w : World} {g n k : Nat} (h : Marked w g k) (R : Room w g (n * 6)) (hk : k < n) : Marked ((((((w.setCell ⟨g, k * 6, none⟩ (.int .i64 (1 + 6 * (k : Int)))).setCell ⟨g, k * 6 + 1, none⟩ (.int .i64 (1 + 6 * (k : Int) + 1))).setCell ⟨g, k * 6 + 2, none⟩ (.int .i64 (1 + 6 * (k : Int) + 2))).setCell ⟨g, k * 6 + 3, none⟩ (.int .i64 (1 + 6 * (k : Int) + 3))).setCell ⟨g, k * 6 + 4, none⟩ (.int .i64 (1 + 6 * (k : Int) + 4))).setCell ⟨g, k * 6 + 5, none⟩ (.int .i64 (1 + 6 * (k : Int) + 5))) g (k + 1) := by
  intro i hi
  by_cases e : i = k
  · subst e
    obtain ⟨⟨v0, e0⟩, -⟩ := R (i * 6) (by omega)
    obtain ⟨⟨v1, e1⟩, -⟩ := R (i * 6 + 1) (by omega)
    obtain ⟨⟨v2, e2⟩, -⟩ := R (i * 6 + 2) (by omega)
    obtain ⟨⟨v3, e3⟩, -⟩ := R (i * 6 + 3) (by omega)
    obtain ⟨⟨v4, e4⟩, -⟩ := R (i * 6 + 4) (by omega)
    obtain ⟨⟨v5, e5⟩, -⟩ := R (i * 6 + 5) (by omega)
    rw [set_cell (set_cell (set_cell (set_cell (set_cell (set_cell e0))))), set_cell (set_cell (set_cell (set_cell (set_cell (set_cell e1))))), set_cell (set_cell (set_cell (set_cell (set_cell (set_cell e2))))), set_cell (set_cell (set_cell (set_cell (set_cell (set_cell e3))))), set_cell (set_cell (set_cell (set_cell (set_cell (set_cell e4))))), set_cell (set_cell (set_cell (set_cell (set_cell (set_cell e5)))))]
    simp
  · obtain ⟨e0, e1, e2, e3, e4, e5⟩ := h i (by omega)
    rw [set_cell (set_cell (set_cell (set_cell (set_cell (set_cell e0))))), set_cell (set_cell (set_cell (set_cell (set_cell (set_cell e1))))), set_cell (set_cell (set_cell (set_cell (set_cell (set_cell e2))))), set_cell (set_cell (set_cell (set_cell (set_cell (set_cell e3))))), set_cell (set_cell (set_cell (set_cell (set_cell (set_cell e4))))), set_cell (set_cell (set_cell (set_cell (set_cell (set_cell e5)))))]
    rw [if_neg (by omega), if_neg (by omega), if_neg (by omega), if_neg (by omega), if_neg (by omega), if_neg (by omega), if_neg (by omega), if_neg (by omega), if_neg (by omega), if_neg (by omega), if_neg (by omega), if_neg (by omega), if_neg (by omega), if_neg (by omega), if_neg (by omega), if_neg (by omega), if_neg (by omega), if_neg (by omega), if_neg (by omega), if_neg (by omega), if_neg (by omega), if_neg (by omega), if_neg (by omega), if_neg (by omega), if_neg (by omega), if_neg (by omega), if_neg (by omega), if_neg (by omega), if_neg (by omega), if_neg (by omega), if_neg (by omega), if_neg (by omega), if_neg (by omega), if_neg (by omega), if_neg (by omega), if_neg (by omega)]
    exact ⟨rfl, rfl, rfl, rfl, rfl, rfl⟩

end Tk
end Go.Proofs.YtlgolnddhfadeabGreatDoor

/- A ticket that a function has made, marked and held against the marks. -/
namespace Go.Proofs.YtlgolnddhfadeabGreatDoor
namespace Gt
open Go.ChangeShapes Go.WideShapes Go.ChangeAt Go.RowKit
open Pk (own_at own_ge own_below own_form new_below join_below heap_new lt_of kept cell_at heap_old frozen_at Room)
open Tk (Lg Hd Legs tkV tkB Marked Band)
set_option linter.unusedSimpArgs false
set_option linter.unusedVariables false

/-- All blocks that were there, but one, are as they were. -/
structure But (g : Nat) (w w' : World) : Prop where
  os : w'.os = w.os
  tape : w'.tape = w.tape
  output : w'.output = w.output
  size : w.heap.size ≤ w'.heap.size
  block : ∀ b, b < w.heap.size → b ≠ g → w'.heap[b]? = w.heap[b]?

theorem But.below {g B : Nat} {a w w' : World} (h : But g w w') (L : Below B a w) (hB : B ≤ w.heap.size) (hg : B ≤ g) : Below B a w' :=
  ⟨h.os.trans L.os, h.tape.trans L.tape, h.output.trans L.output, Nat.le_trans L.size h.size, fun k hk => (h.block k (Nat.lt_of_lt_of_le hk hB) (by omega)).trans (L.block k hk)⟩

theorem But.keep {g b : Nat} {w w' : World} {x : Obj} (h : But g w w') (m : w.heap[b]? = some x) (hne : b ≠ g) : w'.heap[b]? = some x := (h.block b (lt_of m) hne).trans m

theorem But.own {g : Nat} {w w' : World} {base e z n : Nat} {v : Value} {xs : List Value} (h : But g w w') (O : w.ownsRow base e z v n xs) (hne : v.ownBlock ≠ some g) : w'.ownsRow base e z v n xs := by
  obtain ⟨hl, h2⟩ := O
  refine ⟨hl, ?_⟩
  rcases h2 with h2 | ⟨g', cap', cur, hv, hg, hh, h1, h3, h4, h5⟩
  · exact Or.inl h2
  · subst hv
    have hne2 : g' ≠ g := fun e => hne (by rw [e]; rfl)
    exact Or.inr ⟨g', cap', cur, rfl, hg, h.keep hh hne2, h1, h3, h4, h5⟩

end Gt
end Go.Proofs.YtlgolnddhfadeabGreatDoor

/- What GetTicket answers, of the program and of its model, is one thing. -/
namespace Go.Proofs.YtlgolnddhfadeabGreatDoor
namespace Gt
open Go.ChangeShapes Go.WideShapes Go.ChangeAt Go.RowKit
open Pk (own_at own_ge own_below own_form new_below join_below heap_new lt_of kept cell_at heap_old frozen_at Room)
open Tk (Lg Hd Legs tkV tkB Marked okB_parts)
set_option linter.unusedSimpArgs false
set_option linter.unusedVariables false

/-- An answer of GetTicket, written out. -/
def GetIs (t : Hd) (nm : ByteArray) (ls : List Lg) (ok : Bool) (base : Nat) (e : Ending) (w : World) : Prop :=
  ∃ a cap, e = .returned (.tuple #[tkV t nm a ls.length cap, .bool ok]) ∧ w.ownsRow base 114 6 (.slice a ls.length cap) ls.length (lcells ls)

theorem get_one (s : ByteArray) : ∃ t nm ls ok, ls.length ≤ 6 ∧ ∀ base e w, GetEnd s base e w → GetIs t nm ls ok base e w := by
  by_cases h : ∃ t nm ls, Good s t nm ls
  · obtain ⟨t, nm, ls, hg⟩ := h
    refine ⟨t, nm, ls, true, (okB_parts t nm ls hg.1).2.2.1.2, ?_⟩
    rintro base e w (⟨t', nm', ls', a, cap, hg', rfl, O⟩ | ⟨hn, -⟩)
    · obtain ⟨rfl, rfl, rfl⟩ := good_one hg hg'
      exact ⟨a, cap, rfl, O⟩
    · exact absurd hg (hn t nm ls)
  · refine ⟨⟨0, 0, 0, 0, 0⟩, ⟨#[]⟩, [], false, by simp, ?_⟩
    rintro base e w (⟨t', nm', ls', a, cap, hg', rfl, O⟩ | ⟨-, rfl⟩)
    · exact absurd ⟨t', nm', ls', hg'⟩ h
    · exact ⟨none, 0, rfl, ⟨rfl, Or.inl ⟨rfl, rfl⟩⟩⟩

theorem specGet_is {s : ByteArray} {t : Hd} {nm : ByteArray} {ls : List Lg} {ok : Bool} (hs : s.size ≤ 1048576) (H : ∀ base e w, GetEnd s base e w → GetIs t nm ls ok base e w) (w : World) :
    Calls Tryz.prog 42 #[.string s] w fun e w' => GetIs t nm ls ok w.heap.size e w' ∧ Below w.heap.size w w' :=
  (specGet_val s w hs (fun _ _ _ h => shape h)).mono fun e w' h => ⟨H _ _ _ h.1, h.2⟩

theorem implGet_is {s : ByteArray} {t : Hd} {nm : ByteArray} {ls : List Lg} {ok : Bool} (hs : s.size ≤ 1048576) (H : ∀ base e w, GetEnd s base e w → GetIs t nm ls ok base e w) (w : World) (M : ML w) (Tn : Num.Tens w) :
    Calls Tryz.prog 90 #[.string s] w fun e w' => GetIs t nm ls ok w.heap.size e w' ∧ Below w.heap.size w w' :=
  (implGet_val s w hs M Tn).mono fun e w' h => ⟨H _ _ _ h.1, h.2⟩

theorem ml_of {w : World} (h : w.ShapedOpen Tryz.prog) : ML w :=
  cell_of_shapedOpen_int (zero := #[.int .i64 0]) (t := 3) h (of_decide_eq_true (by kernel_rfl)) (by kernel_rfl) rfl (by kernel_rfl) (by kernel_rfl) Tryz.underlying3

/-- The block of a row of legs, where there are legs. -/
theorem legs_blk {w : World} {base : Nat} {a : Option Addr} {ls : List Lg} {cap : Nat} (O : w.ownsRow base 114 6 (.slice a ls.length cap) ls.length (lcells ls)) (hb : base ≤ w.heap.size) :
    ∃ g, base ≤ g ∧ g ≠ w.heap.size ∧ (ls.length = 0 ∨ (a = some ⟨g, 0, none⟩ ∧ Room w g (ls.length * 6) ∧ g < w.heap.size)) ∧ ((Value.slice a ls.length cap).ownBlock = some g ∨ w.heap.size < g) := by
  by_cases h0 : ls.length = 0
  · exact ⟨w.heap.size + 1, by omega, by omega, Or.inl h0, Or.inr (by omega)⟩
  · obtain ⟨g, cp, e, h1, h2, h3, h4⟩ := own_cell O (by omega)
    simp only [Value.slice.injEq, true_and] at e
    obtain ⟨rfl, rfl⟩ := e
    refine ⟨g, h1, by omega, Or.inr ⟨rfl, fun j hj => ⟨?_, h4 j⟩, h2⟩, Or.inl rfl⟩
    have hx : j < (lcells ls).length := by rw [lcells_length]; omega
    exact ⟨_, h3 j _ (List.getElem?_eq_getElem hx)⟩

end Gt
end Go.Proofs.YtlgolnddhfadeabGreatDoor

/- What Read answers. -/
namespace Go.Proofs.YtlgolnddhfadeabGreatDoor
namespace Re
open Go.ChangeShapes Go.WideShapes Go.ChangeAt Go.RowKit
open Pk (own_at own_ge own_below own_form new_below join_below heap_new lt_of kept cell_at heap_old frozen_at Room)
open Tk (Lg Hd Legs tkV tkB)
open Gt (GetEnd GetIs ML lcells)
open Fr (fN fR fS fP fC)
open Num (verV pv mv)
set_option linter.unusedSimpArgs false
set_option linter.unusedVariables false

/-- The code that is told. -/
def rC (p q g o i : Int) (s : ByteArray) (ok : Bool) : Nat := if fC s ≠ 0 ∨ fN s ≠ i then 1 else if verV p q g o (fR s) (fS s) (fP s) = false then 2 else if ok = false then 3 else 0

/-- The ticket that is told. -/
def rT (c : Nat) (t : Hd) : Hd := if c = 0 then t else ⟨0, 0, 0, 0, 0⟩
def rN (c : Nat) (nm : ByteArray) : ByteArray := if c = 0 then nm else ⟨#[]⟩
def rL (c : Nat) (ls : List Lg) : List Lg := if c = 0 then ls else []

/-- An answer of Read, written out. -/
def ReadIs (t : Hd) (nm : ByteArray) (ls : List Lg) (c : Nat) (base : Nat) (e : Ending) (w : World) : Prop :=
  ∃ a cap, e = .returned (.tuple #[tkV t nm a ls.length cap, .int .i64 (c : Nat)]) ∧ w.ownsRow base 114 6 (.slice a ls.length cap) ls.length (lcells ls)

theorem r_cases (p q g o i : Int) (s : ByteArray) (ok : Bool) : (fC s ≠ 0 ∧ rC p q g o i s ok = 1) ∨ (fC s = 0 ∧ fN s ≠ i ∧ rC p q g o i s ok = 1) ∨ (fC s = 0 ∧ fN s = i ∧ verV p q g o (fR s) (fS s) (fP s) = false ∧ rC p q g o i s ok = 2) ∨ (fC s = 0 ∧ fN s = i ∧ verV p q g o (fR s) (fS s) (fP s) = true ∧ ok = false ∧ rC p q g o i s ok = 3) ∨ (fC s = 0 ∧ fN s = i ∧ verV p q g o (fR s) (fS s) (fP s) = true ∧ ok = true ∧ rC p q g o i s ok = 0) := by
  by_cases h1 : fC s = 0
  · by_cases h2 : fN s = i
    · cases h3 : verV p q g o (fR s) (fS s) (fP s)
      · exact Or.inr (Or.inr (Or.inl ⟨h1, h2, rfl, by unfold rC; rw [if_neg (by simp [h1, h2]), if_pos h3]⟩))
      · cases ok
        · exact Or.inr (Or.inr (Or.inr (Or.inl ⟨h1, h2, rfl, rfl, by unfold rC; rw [if_neg (by simp [h1, h2]), if_neg (by rw [h3]; simp), if_pos rfl]⟩)))
        · exact Or.inr (Or.inr (Or.inr (Or.inr ⟨h1, h2, rfl, rfl, by unfold rC; rw [if_neg (by simp [h1, h2]), if_neg (by rw [h3]; simp), if_neg (by simp)]⟩)))
    · exact Or.inr (Or.inl ⟨h1, h2, by unfold rC; rw [if_pos (Or.inr h2)]⟩)
  · exact Or.inl ⟨h1, by unfold rC; rw [if_pos (Or.inl h1)]⟩

theorem zero_own (w : World) (base : Nat) : w.ownsRow base 114 6 (.slice none ([] : List Lg).length 0) ([] : List Lg).length (lcells []) := ⟨rfl, Or.inl ⟨rfl, rfl⟩⟩

/-- A refusal. -/
theorem read_no {t : Hd} {nm : ByteArray} {ls : List Lg} {c : Nat} {base : Nat} {e : Ending} {w : World} (hc : c ≠ 0) (he : e = .returned (.tuple #[tkV ⟨0, 0, 0, 0, 0⟩ ⟨#[]⟩ none 0 0, .int .i64 (c : Nat)])) : ReadIs (rT c t) (rN c nm) (rL c ls) c base e w := by
  unfold rT rN rL
  rw [if_neg hc, if_neg hc, if_neg hc]
  exact ⟨none, 0, he, zero_own w base⟩

theorem read_yes {t : Hd} {nm : ByteArray} {ls : List Lg} {base : Nat} {e : Ending} {w : World} {a : Option Addr} {cap : Nat} (he : e = .returned (.tuple #[tkV t nm a ls.length cap, .int .i64 (0 : Nat)])) (O : w.ownsRow base 114 6 (.slice a ls.length cap) ls.length (lcells ls)) : ReadIs (rT 0 t) (rN 0 nm) (rL 0 ls) 0 base e w := ⟨a, cap, he, O⟩

theorem rL_len {c : Nat} {ls : List Lg} (h : ls.length ≤ 6) : (rL c ls).length ≤ 6 := by
  unfold rL
  split
  · exact h
  · simp

end Re
end Go.Proofs.YtlgolnddhfadeabGreatDoor

/- Contracts of four digits, of the program and of its model. -/
namespace Go.Proofs.YtlgolnddhfadeabGreatDoor
namespace Fr
open Go.ChangeShapes Go.WideShapes Go.ChangeAt Go.RowKit
set_option linter.unusedSimpArgs false
set_option linter.unusedVariables false

theorem pow_10 (k n : Nat) (hk : k ≤ 4) (h : n < 10 ^ k) : n < 10000 := Nat.lt_of_lt_of_le h (Nat.pow_le_pow_right (by omega) hk)

set_option maxHeartbeats 1000000 in
theorem implCut_val (r : ByteArray) (w : World) :
    Calls Tryz.prog 155 #[.string r] w fun e w' => e = .returned (.tuple #[.int .i64 (cutN r : Nat), .string (cutR r), .bool (cutB r)]) ∧ Num.Drawn w w' := by
  by_cases h4 : 4 ≤ r.size
  · have h4I : ¬ (r.size : Int) < 4 := by omega
    have h4J : (4 : Int) ≤ (r.size : Int) := by omega
    obtain ⟨N, hN⟩ : ∃ N, cutN r = N := ⟨_, rfl⟩
    obtain ⟨R, hR⟩ : ∃ R, cutR r = R := ⟨_, rfl⟩
    obtain ⟨B, hB⟩ : ∃ B, cutB r = B := ⟨_, rfl⟩
    rw [hN, hR, hB]
    have HN : Hid (cutN r = N) := hN
    have HR : Hid (cutR r = R) := hR
    have HBB : Hid (cutB r = B) := hB
    clear hN hR hB
    go_enter Tryz.func155, Tryz.ntmps155
    go_wp2
    go_loopw [5, 10] (fun n i wr => ∃ k m : Nat, k ≤ 4 ∧ i = .int .i64 k ∧ n = .int .i64 m ∧ Hid (dg r k = some m) ∧ m < 10000 ∧ Num.Drawn w wr) (fun _ i _ => 4 - (intOf i).toNat)
    case atStart => exact ⟨0, 0, by omega, rfl, rfl, rfl, by omega, Num.Drawn.refl _⟩
    case round =>
      obtain ⟨k, m, hk, rfl, rfl, HD, hm, DR⟩ := hrel
      by_cases hkn : k < 4
      · have hks : k < r.size := by omega
        have hb := r[k].toNat_lt
        have HA : Hid (_) := dg_at r k m hks HD.out
        have HP := dg_lt r (k + 1)
        by_cases hlo : 48 ≤ r[k].toNat
        · by_cases hhi : r[k].toNat ≤ 57
          · have e : dg r (k + 1) = some (10 * m + (r[k].toNat - 48)) := by rw [HA.out, if_pos ⟨hlo, hhi⟩]
            have hq := pow_10 (k + 1) _ (by omega) (HP _ e)
            have HE : Hid (_) := e
            have d1 : ¬ (r[k].toNat : Int) < 48 := by omega
            have d2 : ¬ (57 : Int) < (r[k].toNat : Int) := by omega
            have d3 : IntKind.u8.wrap ((r[k].toNat : Int) - 48) = ((r[k].toNat - 48 : Nat) : Int) := by rw [IntKind.wrap_u8]; omega
            have d4 : IntKind.i64.wrap ((r[k].toNat - 48 : Nat) : Int) = ((r[k].toNat - 48 : Nat) : Int) := by rw [IntKind.wrap_i64]; omega
            clear HP e
            obtain ⟨q, hq2⟩ : ∃ q, r[k].toNat - 48 = q := ⟨_, rfl⟩
            rw [hq2] at d3 d4 hq HE
            clear HA
            go_wp2
            go_roundw
            case rel => exact ⟨k + 1, 10 * m + q, by omega, by go_num, by go_num, HE, hq, DR⟩
            case measure => simp [intOf]; omega
          · have e : dg r (k + 1) = none := by rw [HA.out, if_neg (by omega)]
            obtain ⟨e1, e2, e3⟩ := cut_no (r := r) (Or.inr (dg_none r (k + 1) 4 e (by omega)))
            have d1 : ¬ (r[k].toNat : Int) < 48 := by omega
            have d2 : (57 : Int) < (r[k].toNat : Int) := by omega
            clear HP e HA HD
            have HQ : Hid (N = 0 ∧ R = ⟨#[]⟩ ∧ B = false) := ⟨by rw [← HN.out, e2], by rw [← HR.out, e3], by rw [← HBB.out, e1]⟩
            clear e1 e2 e3
            go_wp2
            go_ret3
            exact ⟨by rw [HQ.out.1, HQ.out.2.1, HQ.out.2.2]; rfl, DR⟩
        · have e : dg r (k + 1) = none := by rw [HA.out, if_neg (by omega)]
          obtain ⟨e1, e2, e3⟩ := cut_no (r := r) (Or.inr (dg_none r (k + 1) 4 e (by omega)))
          have d1 : (r[k].toNat : Int) < 48 := by omega
          clear HP e HA HD
          have HQ : Hid (N = 0 ∧ R = ⟨#[]⟩ ∧ B = false) := ⟨by rw [← HN.out, e2], by rw [← HR.out, e3], by rw [← HBB.out, e1]⟩
          clear e1 e2 e3
          go_wp2
          go_ret3
          exact ⟨by rw [HQ.out.1, HQ.out.2.1, HQ.out.2.2]; rfl, DR⟩
      · obtain rfl : k = 4 := by omega
        obtain ⟨e1, e2, e3⟩ := cut_yes h4 HD.out
        have HQ : Hid (N = m ∧ R = r.extract 4 r.size ∧ B = true) := ⟨by rw [← HN.out, e2], by rw [← HR.out, e3], by rw [← HBB.out, e1]⟩
        clear HD e1 e2 e3
        go_wp2
        go_quiet (fail)
        go_wp2
        go_ret3
        exact ⟨by rw [HQ.out.1, HQ.out.2.1, HQ.out.2.2]; rfl, DR.more _⟩
  · have h4I : (r.size : Int) < 4 := by omega
    obtain ⟨e1, e2, e3⟩ := cut_no (r := r) (Or.inl h4)
    rw [e1, e2, e3]
    go_enter Tryz.func155, Tryz.ntmps155
    go_wp2
    go_ret3
    exact ⟨rfl, Num.Drawn.refl _⟩

set_option maxHeartbeats 1000000 in
theorem specDig_val (t : ByteArray) (w : World) (h4 : t.size = 4) :
    Calls Tryz.prog 73 #[.string t] w fun e w' => e = .returned (.int .i64 (digI t)) ∧ w' = w := by
  obtain ⟨X, hX⟩ : ∃ X, digI t = X := ⟨_, rfl⟩
  rw [hX]
  have HX : Hid (digI t = X) := hX
  clear hX
  go_enter Tryz.func73, Tryz.ntmps73
  go_wp2
  go_loop [3, 4] (fun n i => ∃ k m : Nat, k ≤ 4 ∧ i = .int .i64 k ∧ n = .int .i64 m ∧ Hid (dg t k = some m) ∧ m < 10000) (fun _ i => 4 - (intOf i).toNat)
  case atStart => exact ⟨0, 0, by omega, rfl, rfl, rfl, by omega⟩
  case round =>
    obtain ⟨k, m, hk, rfl, rfl, HD, hm⟩ := hrel
    by_cases hkn : k < 4
    · have hks : k < t.size := by omega
      have hb := t[k].toNat_lt
      have HA : Hid (_) := dg_at t k m hks HD.out
      have HP := dg_lt t (k + 1)
      by_cases hin : 48 ≤ t[k].toNat ∧ t[k].toNat ≤ 57
      · have e : dg t (k + 1) = some (10 * m + (t[k].toNat - 48)) := by rw [HA.out, if_pos hin]
        have hq := pow_10 (k + 1) _ (by omega) (HP _ e)
        have HE : Hid (_) := e
        have HI : Hid (∀ W : World, _) := fun W => Pk.in_is (t[k].toNat : Int) 48 57 true (decide_eq_true (by omega)) W
        have HQ : Hid (((10 * m + (t[k].toNat - 48) : Nat) : Int) = 10 * (m : Int) + (t[k].toNat : Int) - 48) := by show _ = _; omega
        clear HP e HA
        go_wp2_with fail
        refine (HI.out _).mono ?_
        rintro e w1 ⟨rfl, rfl⟩
        go_wp2
        go_round
        case rel => exact ⟨k + 1, 10 * m + (t[k].toNat - 48), by omega, by go_num, by rw [HQ.out], HE, hq⟩
        case measure => simp [intOf]; omega
      · have e : dg t (k + 1) = none := by rw [HA.out, if_neg hin]
        have e1 := digI_none (dg_none t (k + 1) 4 e (by omega))
        have HI : Hid (∀ W : World, _) := fun W => Pk.in_is (t[k].toNat : Int) 48 57 false (decide_eq_false (by omega)) W
        have HQ : Hid (X = -1) := by show X = -1; rw [← HX.out, e1]
        clear HP e HA HD e1
        go_wp2_with fail
        refine (HI.out _).mono ?_
        rintro e w1 ⟨rfl, rfl⟩
        go_wp2
        go_ret
        exact ⟨by rw [HQ.out]; rfl, rfl⟩
    · obtain rfl : k = 4 := by omega
      have HQ : Hid (X = (m : Int)) := by show X = _; rw [← HX.out, digI_some HD.out]
      clear HD
      go_wp2
      go_ret
      exact ⟨by rw [HQ.out]; rfl, rfl⟩

end Fr
end Go.Proofs.YtlgolnddhfadeabGreatDoor

/- The contract of the program's joinParts. -/
namespace Go.Proofs.YtlgolnddhfadeabGreatDoor
namespace Fr
open Go.ChangeShapes Go.WideShapes Go.ChangeAt Go.RowKit
open Pk (new_below join_below cell_at heap_new frozen_at lt_of kept heap_old)
set_option linter.unusedSimpArgs false
set_option linter.unusedVariables false

/-- An issuer, a mark and a text as a result. -/
abbrev j3 (n r s : Int) (p : ByteArray) : Value := .tuple #[.int .i64 n, .agg #[.int .i64 r, .int .i64 s], .string p]

/-- Three parts in a row. -/
abbrev parts (n r s : Int) (p : ByteArray) : Array Value := #[.iface 174 (.int .i64 n), .iface 175 (.agg #[.int .i64 r, .int .i64 s]), .iface 176 (.string p)]

/-- How far the parts are joined. -/
def Far (n r s : Int) (p : ByteArray) (m k : Nat) (n' r' s' : Int) (p' : ByteArray) : Prop :=
  (k = 0 ∧ n' = 0 ∧ r' = 0 ∧ s' = 0 ∧ p' = ⟨#[]⟩) ∨ (k = 1 ∧ n' = n ∧ r' = 0 ∧ s' = 0 ∧ p' = ⟨#[]⟩) ∨ (k = 2 ∧ n' = n ∧ r' = r ∧ s' = s ∧ p' = ⟨#[]⟩) ∨ (k = 3 ∧ n' = n ∧ r' = r ∧ s' = s ∧ p' = p)

theorem set_two (w : World) (P : Nat) (a b c d : Value) (t : TypeId) (h : w.heap[P]? = some (.cells #[a, b] t (0, 0))) : ((w.setCell ⟨P, 0, none⟩ c).setCell ⟨P, 1, none⟩ d).heap[P]? = some (.cells #[c, d] t (0, 0)) := by
  unfold World.setCell
  simp [Array.getElem?_modify, h]

theorem ta_yes1 (n : Int) (w : World) : (Instr.typeAssert (.iface 174 (.int .i64 n)) 178 174 true).run Tryz.prog w = .ok (.tuple #[.int .i64 n, .bool true]) w := by kernel_rfl

theorem ta_no1 (v : Value) (w : World) : (Instr.typeAssert (.iface 175 v) 178 174 true).run Tryz.prog w = .ok (.tuple #[.int .i64 0, .bool false]) w := by kernel_rfl

theorem ta_yes2 (v : Value) (w : World) : (Instr.typeAssert (.iface 175 v) 178 175 true).run Tryz.prog w = .ok (.tuple #[v, .bool true]) w := by kernel_rfl

theorem ta_no2 (v : Value) (w : World) : (Instr.typeAssert (.iface 176 v) 178 174 true).run Tryz.prog w = .ok (.tuple #[.int .i64 0, .bool false]) w := by kernel_rfl

theorem ta_no3 (v : Value) (w : World) : (Instr.typeAssert (.iface 176 v) 178 175 true).run Tryz.prog w = .ok (.tuple #[.agg #[.int .i64 0, .int .i64 0], .bool false]) w := by kernel_rfl

theorem ta_yes3 (v : Value) (w : World) : (Instr.typeAssert (.iface 176 v) 178 176 true).run Tryz.prog w = .ok (.tuple #[v, .bool true]) w := by kernel_rfl

set_option maxRecDepth 100000 in
set_option maxHeartbeats 4000000 in
theorem join_val (n r s : Int) (p : ByteArray) (m g cp : Nat) (a : Option Addr) (w : World) (hm : (m = 0 ∧ a = none ∧ cp = 0) ∨ (m = 3 ∧ a = some ⟨g, 0, none⟩ ∧ g < w.heap.size ∧ w.heap[g]? = some (.cells (parts n r s p) 178 (0, 0)))) :
    Calls Tryz.prog 124 #[.slice a m cp] w fun e w' => (∃ n' r' s' p', e = .returned (j3 n' r' s' p') ∧ Far n r s p m m n' r' s' p') ∧ Below w.heap.size w w' := by
  have N := new_below w (.cells #[.int .i64 0, .int .i64 0] 72)
  have m0 := heap_new w (.cells #[.int .i64 0, .int .i64 0] 72)
  have HM : Hid (_) := hm
  have hm3 : m ≤ 3 := by omega
  have y1 := ta_yes1 n
  have y2 := ta_yes2 (.agg #[.int .i64 r, .int .i64 s])
  have y3 := ta_yes3 (.string p)
  have x1 := ta_no1 (.agg #[.int .i64 r, .int .i64 s])
  have x2 := ta_no2 (.string p)
  have x3 := ta_no3 (.string p)
  go_enter Tryz.func124, Tryz.ntmps124
  go_wp2
  generalize w.alloc (.cells #[.int .i64 0, .int .i64 0] 72) = W at *
  go_loopw [2, 4, 12] (fun t2 t4 i wr => ∃ (k : Nat) (n' r' s' : Int) (p' : ByteArray), k ≤ m ∧ i = .int .i64 k ∧ t2 = .int .i64 n' ∧ t4 = .string p' ∧ wr.heap[w.heap.size]? = some (.cells #[.int .i64 r', .int .i64 s'] 72 (0, 0)) ∧ Below w.heap.size w wr ∧ Hid (Far n r s p m k n' r' s' p')) (fun _ _ i _ => m - (intOf i).toNat)
  case atStart => exact ⟨0, 0, 0, 0, ⟨#[]⟩, by omega, rfl, rfl, rfl, m0, N, Or.inl ⟨rfl, rfl, rfl, rfl, rfl⟩⟩
  case round =>
    clear m0 N
    obtain ⟨k, n', r', s', p', hk, rfl, rfl, rfl, mr, LR, HF⟩ := hrel
    by_cases hkn : k < m
    · obtain ⟨rfl, rfl, hg, hh⟩ : m = 3 ∧ a = some ⟨g, 0, none⟩ ∧ g < w.heap.size ∧ w.heap[g]? = some (.cells (parts n r s p) 178 (0, 0)) := by
        rcases HM.out with h | h
        · omega
        · exact h
      have hh2 : wr.heap[g]? = some (.cells (parts n r s p) 178 (0, 0)) := by rw [LR.block g hg]; exact hh
      have c0 : wr.cell? ⟨g, 0, none⟩ = some (.iface 174 (.int .i64 n)) := cell_at hh2 0
      have c1 : wr.cell? ⟨g, 1, none⟩ = some (.iface 175 (.agg #[.int .i64 r, .int .i64 s])) := cell_at hh2 1
      have c2 : wr.cell? ⟨g, 2, none⟩ = some (.iface 176 (.string p)) := cell_at hh2 2
      clear hh hh2 hm
      rcases HF.out with ⟨rfl, rfl, rfl, rfl, rfl⟩ | ⟨rfl, rfl, rfl, rfl, rfl⟩ | ⟨rfl, rfl, rfl, rfl, rfl⟩ | ⟨rfl, -⟩
      · go_wp2
        go_roundw
        case rel => exact ⟨1, n, 0, 0, ⟨#[]⟩, by omega, rfl, rfl, rfl, mr, LR, Or.inr (Or.inl ⟨rfl, rfl, rfl, rfl, rfl⟩)⟩
        case measure => simp [intOf]
      · have mr2 := heap_old mr (.cells #[.int .i64 r, .int .i64 s] 175)
        have d0 := cell_at mr2 0
        have d1 := cell_at mr2 1
        have f0 := frozen_at mr2 0
        have f1 := frozen_at mr2 1
        have HS : Hid (_) := set_two _ w.heap.size _ _ (.int .i64 r) (.int .i64 s) _ mr2
        have HL : Hid (Below w.heap.size w (((wr.alloc (.cells #[.int .i64 r, .int .i64 s] 175)).setCell ⟨w.heap.size, 0, none⟩ (.int .i64 r)).setCell ⟨w.heap.size, 1, none⟩ (.int .i64 s))) := ((LR.alloc LR.size _).setCell (p := ⟨w.heap.size, 0, none⟩) (Nat.le_refl _) _).setCell (p := ⟨w.heap.size, 1, none⟩) (Nat.le_refl _) _
        simp at d0 d1
        go_wp2
        go_roundw
        case rel => exact ⟨2, n', r, s, ⟨#[]⟩, by omega, rfl, rfl, rfl, HS.out, HL.out, Or.inr (Or.inr (Or.inl ⟨rfl, rfl, rfl, rfl, rfl⟩))⟩
        case measure => simp [intOf]
      · go_wp2
        go_roundw
        case rel => exact ⟨3, n', r', s', p, by omega, rfl, rfl, rfl, mr, LR, Or.inr (Or.inr (Or.inr ⟨rfl, rfl, rfl, rfl, rfl⟩))⟩
        case measure => simp [intOf]
      · omega
    · obtain rfl : k = m := by omega
      have d0 : wr.cell? ⟨w.heap.size, 0, none⟩ = some (.int .i64 r') := cell_at mr 0
      have d1 : wr.cell? ⟨w.heap.size, 1, none⟩ = some (.int .i64 s') := cell_at mr 1
      have f0 := frozen_at mr 0
      have f1 := frozen_at mr 1
      have HS : Hid (_) := set_two _ w.heap.size _ _ (.int .i64 r') (.int .i64 s') _ mr
      have HL : Hid (Below w.heap.size w ((wr.setCell ⟨w.heap.size, 0, none⟩ (.int .i64 r')).setCell ⟨w.heap.size, 1, none⟩ (.int .i64 s'))) := (LR.setCell (p := ⟨w.heap.size, 0, none⟩) (Nat.le_refl _) _).setCell (p := ⟨w.heap.size, 1, none⟩) (Nat.le_refl _) _
      clear mr LR hm
      go_wp2
      go_region
      all_goals
        go_wp2
        have mE := HS.out
        have HLD := HL.out.drew
        generalize (wr.setCell ⟨w.heap.size, 0, none⟩ (.int .i64 r')).setCell ⟨w.heap.size, 1, none⟩ (.int .i64 s') = WE at *
        have q0 : WE.drew.cell? ⟨w.heap.size, 0, none⟩ = some (.int .i64 r') := cell_at (w := WE.drew) mE 0
        have q1 : WE.drew.cell? ⟨w.heap.size, 1, none⟩ = some (.int .i64 s') := cell_at (w := WE.drew) mE 1
        refine bodyPost_ret (v := j3 n' r' s' p') (by simp [results, Tryz.results124, go_sem, q0, q1]) rfl ?_
        exact ⟨⟨n', r', s', p', rfl, HF.out⟩, HLD⟩

end Fr
end Go.Proofs.YtlgolnddhfadeabGreatDoor

/- The contracts of the program's refuseIf: it answers, or it panics with its fault. -/
namespace Go.Proofs.YtlgolnddhfadeabGreatDoor
namespace Pk
open Go.ChangeShapes Go.WideShapes Go.ChangeAt Go.RowKit
set_option linter.unusedSimpArgs false
set_option linter.unusedVariables false

/-- The panic with the fault k. -/
abbrev fault (k : Int) : Ending := .panicked [{ v := .iface 191 (.int .i64 k), recovered := false }]

theorem refuse_no (k : Int) (w : World) :
    Calls Tryz.prog 194 #[.bool false, .int .i64 k] w fun e w' => e = .returned (.tuple #[]) ∧ w' = w := by
  go_enter Tryz.func194, Tryz.ntmps194
  go_wp2
  exact ⟨rfl, _, results_none rfl _ _ _, rfl, rfl⟩

theorem refuse_yes (k : Int) (w : World) :
    Calls Tryz.prog 194 #[.bool true, .int .i64 k] w fun e w' => e = fault k ∧ w' = w := by
  go_enter Tryz.func194, Tryz.ntmps194
  go_wp2
  exact ⟨rfl, rfl, rfl⟩

end Pk
end Go.Proofs.YtlgolnddhfadeabGreatDoor

/- The contracts of the program's reader of bits: it answers, or it panics with its fault. -/
namespace Go.Proofs.YtlgolnddhfadeabGreatDoor
namespace Pk
open Go.ChangeShapes Go.WideShapes Go.ChangeAt Go.RowKit
open Math (bitAt lowAt topAt symAt symLen)
set_option linter.unusedSimpArgs false
set_option linter.unusedVariables false

/-- The program's reader at block c stands behind a bits; what it has made is v. -/
def RdI (c : Nat) (s : ByteArray) (a : Nat) (v : Value) (w : World) : Prop := w.heap[c]? = some (.cells #[.string s, .int .i64 (a : Int), v] 194)

theorem RdI.drewN {c : Nat} {s : ByteArray} {a : Nat} {v : Value} {w : World} (h : RdI c s a v w) (n : Nat) : RdI c s a v (w.drewN n) := h

set_option maxRecDepth 100000 in
set_option maxHeartbeats 1000000 in
theorem bitI_ok (B c : Nat) (s : ByteArray) (a : Nat) (v : Value) (w : World) (hs : s.size ≤ 100000) (hB : B ≤ c) (ha : a < 8 * s.size) (H : RdI c s a v w) :
    Calls Tryz.prog 195 #[.pointer (some ⟨c, 0, none⟩)] w fun e w' => e = .returned (.int .i64 (bitAt s a : Nat)) ∧ RdI c s (a + 1) v w' ∧ Mv c w w' ∧ Below B w w' := by
  have m : w.heap[c]? = some (.cells #[.string s, .int .i64 (a : Int), v] 194) := H
  have f1 := frozen_at m 1
  have c0 : w.cell? ⟨c, 0, none⟩ = some (.string s) := cell_at m 0
  have c1 : w.cell? ⟨c, 1, none⟩ = some (.int .i64 (a : Int)) := cell_at m 1
  have hi : a / 8 < s.size := by omega
  have HB : Hid (_) := Math.bitAt_in s a hi
  have hq : (a : Int) / 8 = ((a / 8 : Nat) : Int) := by omega
  have hr : (a : Int) % 8 = ((a % 8 : Nat) : Int) := by omega
  have hr8 : a % 8 < 8 := by omega
  have ht : Int.tmod (a : Int) 8 = ((a % 8 : Nat) : Int) := by rw [Int.tmod_eq_emod_of_nonneg (by omega)]; omega
  have htd : Int.tdiv (a : Int) 8 = ((a / 8 : Nat) : Int) := by rw [Int.tdiv_eq_ediv_of_nonneg (by omega)]; omega
  have hne : ¬ (a : Int) = (s.size : Int) * 8 := by omega
  have hneb : ((a : Int) == (s.size : Int) * 8) = false := beq_eq_false_iff_ne.2 hne
  have HRF : Hid (∀ W, _) := fun W => refuse_no 1 W
  have hw8 : IntKind.i64.wrap ((s.size : Int) * 8) = (s.size : Int) * 8 := wrap_is _ (by omega)
  have HW : Hid (∀ (w1 : World), w1.heap[c]? = some (.cells #[.string s, .int .i64 (a : Int), v] 194) → RdI c s (a + 1) v (w1.setCell ⟨c, 1, none⟩ (.int .i64 ((a : Int) + 1)))) := fun w1 m1 => hp_set (w := w1) (i := 1) m1 (.int .i64 ((a : Int) + 1))
  have hbt := s[a / 8].toNat_lt
  have hand := Math.and_one_i64 (s[a / 8].toNat / 2 ^ (a % 8)) (by have : s[a / 8].toNat / 2 ^ (a % 8) ≤ s[a / 8].toNat := Nat.div_le_self _ _; omega)
  have hil : ((a / 8 : Nat) : Int) < (s.size : Int) := by omega
  have hdl : s[a / 8].toNat / 2 ^ (a % 8) ≤ s[a / 8].toNat := Nat.div_le_self _ _
  have hdv := bit_quo s[a / 8].toNat (a % 8)
  have hdv2 : ((s[a / 8].toNat : Nat) : Int) / 2 ^ (a % 8) = ((s[a / 8].toNat / 2 ^ (a % 8) : Nat) : Int) := by rw [Int.natCast_ediv]; simp
  rw [HB.out]
  have HM : Hid (_) := m
  clear m HB
  generalize a / 8 = i at *
  generalize a % 8 = r at *
  generalize s[i].toNat / 2 ^ r = Y at *
  have hi0 : (0 : Int) ≤ (i : Int) := by omega
  have hw1 : IntKind.i64.wrap (i : Int) = i := wrap_is _ (by omega)
  have hw2 : IntKind.i64.wrap (r : Int) = r := wrap_is _ (by omega)
  have hw5 : IntKind.i64.wrap (s[i].toNat : Int) = s[i].toNat := wrap_is _ (by omega)
  have hr0 : (0 : Int) ≤ (r : Int) := by omega
  have hr64 : (r : Int) < 64 := by omega
  have hrt : ((r : Int)).toNat = r := by omega
  go_enter Tryz.func195, Tryz.ntmps195
  go_wp2
  go_quiet ((go_at_call 194; exact Calls.quiet_of_same (HRF.out _)))
  have m9 : (w.drewN nq).heap[c]? = some (.cells #[.string s, .int .i64 (a : Int), v] 194) := HM.out
  have M9 : Mv c w (w.drewN nq) := (Mv.refl c w).drewN nq
  have L9 : Below B w (w.drewN nq) := below_drewN (Below.refl B w) nq
  clear c0 c1 f1 HM H
  generalize w.drewN nq = w9 at m9 M9 L9 ⊢
  have c0 : w9.cell? ⟨c, 0, none⟩ = some (.string s) := cell_at m9 0
  have c1 : w9.cell? ⟨c, 1, none⟩ = some (.int .i64 (a : Int)) := cell_at m9 1
  have f1 := frozen_at m9 1
  have HM : Hid (_) := m9
  clear m9
  go_wp2_with fail
  go_quiet (fail)
  go_wp2
  go_ret
  exact ⟨rfl, HW.out _ HM.out, (M9.drewN _).trans (Mv.set c 1 _ _), (below_drewN L9 _).setCell hB _⟩

set_option maxRecDepth 100000 in
set_option maxHeartbeats 1000000 in
theorem bitI_cut (B c : Nat) (s : ByteArray) (v : Value) (w : World) (hs : s.size ≤ 100000) (hB : B ≤ c) (H : RdI c s (8 * s.size) v w) :
    Calls Tryz.prog 195 #[.pointer (some ⟨c, 0, none⟩)] w fun e w' => e = fault 1 ∧ Mv c w w' ∧ Below B w w' := by
  have m : w.heap[c]? = some (.cells #[.string s, .int .i64 ((8 * s.size : Nat) : Int), v] 194) := H
  have c0 : w.cell? ⟨c, 0, none⟩ = some (.string s) := cell_at m 0
  have c1 : w.cell? ⟨c, 1, none⟩ = some (.int .i64 ((8 * s.size : Nat) : Int)) := cell_at m 1
  have e8 : ((8 * s.size : Nat) : Int) = (s.size : Int) * 8 := by omega
  rw [e8] at c1
  have hneb : ((s.size : Int) * 8 == (s.size : Int) * 8) = true := by simp
  have HRF : Hid (∀ W, _) := fun W => refuse_yes 1 W
  have hw8 : IntKind.i64.wrap ((s.size : Int) * 8) = (s.size : Int) * 8 := wrap_is _ (by omega)
  clear e8
  go_enter Tryz.func195, Tryz.ntmps195
  go_wp2
  refine wp_region_held_drew (S := (fun w' => w'.cell? ⟨c, 0, none⟩ = some (.string s) ∧ w'.cell? ⟨c, 1, none⟩ = some (.int .i64 ((s.size : Int) * 8)))) (by kernel_rfl) ?_ (fun hHeld => ?_)
  · exact ⟨c0, c1⟩
  refine wpAnyH_take (i := 0) (oi := { dst := some 4, op := Op.move (Operand.tmp 0), type := 202, pos := "l03_pack.go:313", after := #[], guard := none }) (v := ?_) rfl (by kernel_rfl) (by kernel_rfl) (by kernel_rfl) (fun _ _ _ h => h) (Or.inl ⟨by rfl, ?_⟩) (by assumption) ?_
  rotate_left 1
  · (intro wS hSw; (try dsimp only at hSw); go_simp; try (with_reducible rfl))
  (try simp only [Act.put, List.setIfInBounds_toArray, List.set_cons_zero, List.set_cons_succ])
  refine wpAnyH_take (i := 1) (oi := { dst := some 5, op := Op.nilCheck (Operand.tmp 4), type := 0, pos := "l03_pack.go:313", after := #[{ on := 0, ground := Ground.data }], guard := none }) (v := ?_) rfl (by kernel_rfl) (by kernel_rfl) (by kernel_rfl) (fun _ _ _ h => h) (Or.inl ⟨by rfl, ?_⟩) (by assumption) ?_
  rotate_left 1
  · (intro wS hSw; (try dsimp only at hSw); go_simp; try (with_reducible rfl))
  (try simp only [Act.put, List.setIfInBounds_toArray, List.set_cons_zero, List.set_cons_succ])
  refine wpAnyH_take (i := 2) (oi := { dst := some 6, op := Op.fieldAddr 194 (Operand.tmp 5) 1, type := 0, pos := "l03_pack.go:313", after := #[{ on := 1, ground := Ground.data }], guard := none }) (v := ?_) rfl (by kernel_rfl) (by kernel_rfl) (by kernel_rfl) (fun _ _ _ h => h) (Or.inl ⟨by rfl, ?_⟩) (by assumption) ?_
  rotate_left 1
  · (intro wS hSw; (try dsimp only at hSw); go_simp; try (with_reducible rfl))
  (try simp only [Act.put, List.setIfInBounds_toArray, List.set_cons_zero, List.set_cons_succ])
  refine wpAnyH_take (i := 3) (oi := { dst := some 7, op := Op.load 3 (Operand.tmp 6), type := 3, pos := "l03_pack.go:313", after := #[{ on := 2, ground := Ground.data }], guard := none }) (v := ?_) rfl (by kernel_rfl) (by kernel_rfl) (by kernel_rfl) (fun _ _ _ h => h) (Or.inl ⟨by rfl, ?_⟩) (by assumption) ?_
  rotate_left 1
  · (intro wS hSw; (try dsimp only at hSw); go_simp; try (with_reducible rfl))
  (try simp only [Act.put, List.setIfInBounds_toArray, List.set_cons_zero, List.set_cons_succ])
  refine wpAnyH_take (i := 4) (oi := { dst := some 8, op := Op.move (Operand.tmp 0), type := 202, pos := "l03_pack.go:313", after := #[], guard := none }) (v := ?_) rfl (by kernel_rfl) (by kernel_rfl) (by kernel_rfl) (fun _ _ _ h => h) (Or.inl ⟨by rfl, ?_⟩) (by assumption) ?_
  rotate_left 1
  · (intro wS hSw; (try dsimp only at hSw); go_simp; try (with_reducible rfl))
  (try simp only [Act.put, List.setIfInBounds_toArray, List.set_cons_zero, List.set_cons_succ])
  refine wpAnyH_take (i := 5) (oi := { dst := some 9, op := Op.nilCheck (Operand.tmp 8), type := 0, pos := "l03_pack.go:313", after := #[{ on := 4, ground := Ground.data }], guard := none }) (v := ?_) rfl (by kernel_rfl) (by kernel_rfl) (by kernel_rfl) (fun _ _ _ h => h) (Or.inl ⟨by rfl, ?_⟩) (by assumption) ?_
  rotate_left 1
  · (intro wS hSw; (try dsimp only at hSw); go_simp; try (with_reducible rfl))
  (try simp only [Act.put, List.setIfInBounds_toArray, List.set_cons_zero, List.set_cons_succ])
  refine wpAnyH_take (i := 6) (oi := { dst := some 10, op := Op.fieldAddr 194 (Operand.tmp 9) 0, type := 0, pos := "l03_pack.go:313", after := #[{ on := 5, ground := Ground.data }], guard := none }) (v := ?_) rfl (by kernel_rfl) (by kernel_rfl) (by kernel_rfl) (fun _ _ _ h => h) (Or.inl ⟨by rfl, ?_⟩) (by assumption) ?_
  rotate_left 1
  · (intro wS hSw; (try dsimp only at hSw); go_simp; try (with_reducible rfl))
  (try simp only [Act.put, List.setIfInBounds_toArray, List.set_cons_zero, List.set_cons_succ])
  refine wpAnyH_take (i := 7) (oi := { dst := some 11, op := Op.load 9 (Operand.tmp 10), type := 9, pos := "l03_pack.go:313", after := #[{ on := 6, ground := Ground.data }], guard := none }) (v := ?_) rfl (by kernel_rfl) (by kernel_rfl) (by kernel_rfl) (fun _ _ _ h => h) (Or.inl ⟨by rfl, ?_⟩) (by assumption) ?_
  rotate_left 1
  · (intro wS hSw; (try dsimp only at hSw); go_simp; try (with_reducible rfl))
  (try simp only [Act.put, List.setIfInBounds_toArray, List.set_cons_zero, List.set_cons_succ])
  refine wpAnyH_take (i := 8) (oi := { dst := some 12, op := Op.call { callee := Callee.builtin Builtin.len, args := #[Operand.tmp 11], argTypes := #[9] }, type := 3, pos := "l03_pack.go:313", after := #[{ on := 7, ground := Ground.data }], guard := none }) (v := ?_) rfl (by kernel_rfl) (by kernel_rfl) (by kernel_rfl) (fun _ _ _ h => h) (Or.inl ⟨by rfl, ?_⟩) (by assumption) ?_
  rotate_left 1
  · (intro wS hSw; (try dsimp only at hSw); go_simp; try (with_reducible rfl))
  (try simp only [Act.put, List.setIfInBounds_toArray, List.set_cons_zero, List.set_cons_succ])
  refine wpAnyH_take (i := 9) (oi := { dst := some 13, op := Op.binOp BinOp.mul 3 (Operand.tmp 12) (Operand.const (Value.int IntKind.i64 8)) 3, type := 3, pos := "l03_pack.go:313", after := #[{ on := 8, ground := Ground.data }], guard := none }) (v := ?_) rfl (by kernel_rfl) (by kernel_rfl) (by kernel_rfl) (fun _ _ _ h => h) (Or.inl ⟨by rfl, ?_⟩) (by assumption) ?_
  rotate_left 1
  · (intro wS hSw; (try dsimp only at hSw); go_simp; try (with_reducible rfl))
  (try simp only [Act.put, List.setIfInBounds_toArray, List.set_cons_zero, List.set_cons_succ])
  refine wpAnyH_take (i := 10) (oi := { dst := some 14, op := Op.binOp BinOp.eql 3 (Operand.tmp 7) (Operand.tmp 13) 3, type := 4, pos := "l03_pack.go:313", after := #[{ on := 3, ground := Ground.data }, { on := 9, ground := Ground.data }], guard := none }) (v := ?_) rfl (by kernel_rfl) (by kernel_rfl) (by kernel_rfl) (fun _ _ _ h => h) (Or.inl ⟨by rfl, ?_⟩) (by assumption) ?_
  rotate_left 1
  · (intro wS hSw; (try dsimp only at hSw); go_simp; try (with_reducible rfl))
  (try simp only [Act.put, List.setIfInBounds_toArray, List.set_cons_zero, List.set_cons_succ])
  refine wpAnyH_ready (rs := [11]) (by kernel_rfl) (by simp) ?_
  refine AllReadyH.cons (o := { dst := some 15, op := Op.call { callee := Callee.value (Operand.func 194), args := #[Operand.tmp 14, Operand.const (Value.int IntKind.i64 1)], argTypes := #[4, 3] }, type := 0, pos := "l03_pack.go:313", after := #[{ on := 10, ground := Ground.data }], guard := none }) rfl (fun K hK => ?_) AllReadyH.nil
  go_simp
  refine (HRF.out _).mono ?_
  rintro e x1 ⟨rfl, hx1⟩
  subst hx1
  exact ⟨rfl, rfl, ⟨rfl, fun _ _ => rfl⟩, (Below.refl _ _).drew⟩

end Pk
end Go.Proofs.YtlgolnddhfadeabGreatDoor

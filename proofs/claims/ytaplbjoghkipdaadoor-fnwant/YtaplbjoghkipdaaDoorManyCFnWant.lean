/- Texts laid into one, in their order: CurWw, CurSpl, LgWantI, LgWantS, GtSplit, NumRead, GtNums, TkPut2, GtLegs, GtShape, SqRow, GtMl, WnCut, WnRow, WnPure, CurWl, WnGuess, WnImpl, WnSplit, LgSame. -/
import Derived.Test.YtaplbjoghkipdaaDoorManyBFnWant
import Derived.Test.YtaplbjoghkipdaaDoorCurDec
import Derived.Deep.CutBlock
import Derived.Laws.CopyOwn
import Derived.Laws.Tables
import Derived.Laws.Rows
import Derived.Deep.WholeRow
import Derived.Test.YtaplbjoghkipdaaDoorManyAFnWant
import Derived.Deep.RegionHeld3
import Derived.Deep.Cut
import Derived.Test.YtaplbjoghkipdaaDoorPkRow
import Derived.Test.YtaplbjoghkipdaaDoorNumDec
import Derived.BigRegion
import Derived.Laws.MakeOwn
import Derived.Test.YtaplbjoghkipdaaDoorShelf
import Derived.Test.YtaplbjoghkipdaaDoorTnRides
import Derived.Test.YtaplbjoghkipdaaDoorCurNum
import Derived.Deep.RegionLaw
import Derived.Deep.AppendLies
/- The draw of a want. -/
namespace Go.Proofs.YtaplbjoghkipdaaDoor
namespace Rd
open Go.ChangeShapes Go.WideShapes Go.ChangeAt Go.RowKit
open Pk (new_below join_below cell_at heap_new frozen_at lt_of kept heap_old info_of own_form)
open Cur (Is Moved below_any once_any pickInt_any Kb rowOf_new)
open Tn (Tr St Trains Stops Nums)
open Wn (Wh wnV wnB)
set_option linter.unusedSimpArgs false
set_option linter.unusedVariables false

/-- A want in a box, within bounds; its rides lie in a block of their own. -/
def WnS (base : Nat) (wr : World) (B : Nat) : Prop := ∃ (h : Wh) (s : ByteArray) (rs : List Ri) (ra : Option Addr) (rc : Nat), wr.heap[B]? = some (wnB h s ra rs.length rc 26) ∧ s.size ≤ 10 ∧ rs.length ≤ 7 ∧ RideAt wr base ra rc rs

theorem WnS.kb {base c B : Nat} {w w1 : World} (h : WnS base w B) (K : Kb c w w1) (hc : c < base) (hB : B ≠ c) : WnS base w1 B := by
  obtain ⟨h9, s, rs, ra, rc, k1, k2, k3, k4⟩ := h
  exact ⟨h9, s, rs, ra, rc, K.at hB k1, k2, k3, k4.kb K hc⟩

theorem WnS.lt9 {base B : Nat} {wr : World} (h : WnS base wr B) : ∃ o, wr.heap[B]? = some o := by
  obtain ⟨h9, s, rs, ra, rc, k1, k2, k3, k4⟩ := h
  exact ⟨_, k1⟩

/-- A train stored cell by cell into a block of zero cells, all but the cursor's block kept. -/
theorem tr_set {W0 : World} {a : Option Addr} {n cap c X : Nat} {w9 w8 : World} {x0 x1 x2 x3 x4 : Value} {ty : TypeId} (z : w8.heap[X]? = some (.cells #[x0, x1, x2, x3, x4] ty)) (C8 : Is W0 a n cap c w8) (K : Kb c w9 w8) (hX : X ≠ c) (hW : W0.heap.size ≤ X) (hw : w9.heap.size ≤ X) (b0 b1 b2 b3 b4 : Value) :
    (((((w8.setCell ⟨X, 0, none⟩ b0).setCell ⟨X, 1, none⟩ b1).setCell ⟨X, 2, none⟩ b2).setCell ⟨X, 3, none⟩ b3).setCell ⟨X, 4, none⟩ b4).heap[X]? = some (.cells #[b0, b1, b2, b3, b4] ty) ∧ Is W0 a n cap c (((((w8.setCell ⟨X, 0, none⟩ b0).setCell ⟨X, 1, none⟩ b1).setCell ⟨X, 2, none⟩ b2).setCell ⟨X, 3, none⟩ b3).setCell ⟨X, 4, none⟩ b4) ∧ Kb c w9 (((((w8.setCell ⟨X, 0, none⟩ b0).setCell ⟨X, 1, none⟩ b1).setCell ⟨X, 2, none⟩ b2).setCell ⟨X, 3, none⟩ b3).setCell ⟨X, 4, none⟩ b4) := by
  refine ⟨?_, ((((C8.set X _ _ hX hW).set X _ _ hX hW).set X _ _ hX hW).set X _ _ hX hW).set X _ _ hX hW, ((((Kb.set K X _ _ hw).set X _ _ hw).set X _ _ hw).set X _ _ hw).set X _ _ hw⟩
  have h := h_set (h_set (h_set (h_set (h_set z (i := 0) b0) (i := 1) b1) (i := 2) b2) (i := 3) b3) (i := 4) b4
  exact h

/-- Cells of old blocks but the cursor's and one more are kept. -/
def Kq (c B : Nat) (w w1 : World) : Prop := ∀ p : Addr, p.block ≠ c → p.block ≠ B → p.block < w.heap.size → w1.cell? p = w.cell? p

theorem Kq.of {c B : Nat} {w w1 : World} (K : Kb c w w1) : Kq c B w w1 := fun p h1 _ h3 => kb_cell K h1 h3

theorem Kq.set {c B : Nat} {w w1 : World} (h : Kq c B w w1) (i : Nat) (v : Value) : Kq c B w (w1.setCell ⟨B, i, none⟩ v) := fun p h1 h2 h3 => (World.cell?_of_block (Below.heap_setCell w1 ⟨B, i, none⟩ v p.block h2)).trans (h p h1 h2 h3)

theorem wr64 {x : Int} (h0 : -1000000 ≤ x) (h1 : x ≤ 1000000) : wrap64 x = x ∧ IntKind.i64.wrap x = x :=
  ⟨by unfold wrap64; omega, by rw [IntKind.wrap_i64]; omega⟩

theorem stop_cell {v : World} {bi oi : Nat} {l : List St} (S : Stops v (some ⟨bi, oi, none⟩) l) {j : Nat} (hj : j < l.length) : v.cell? ⟨bi, oi + j * 3, none⟩ = some (.int .i64 l[j].st) := by
  obtain ⟨bq, oq, e9, -, s0, -, -⟩ := S.at j hj
  simp only [Option.some.injEq, Addr.mk.injEq, and_true] at e9
  obtain ⟨rfl, rfl⟩ := e9
  exact s0

theorem rideAt_want {w : World} {base B rc : Nat} {a : Option Addr} {l : List Ri} {cs : Array Value} (h : RideAt w base a rc l) (hB : w.heap[B]? = some (.cells cs 26)) (i : Nat) (v : Value) : RideAt (w.setCell ⟨B, i, none⟩ v) base a rc l :=
  h.keep (by rw [World.size_setCell]; exact Nat.le_refl _) (fun g cs' f hg => by
    have hne : g ≠ B := by
      rintro rfl
      rw [hB] at hg
      simp at hg
    exact Below.heap_setCell w ⟨B, i, none⟩ v g hne)

theorem WnS.set_num {base B i : Nat} {wr : World} (h : WnS base wr B) (v : Int) (hi : i = 0 ∨ i = 1 ∨ i = 2 ∨ i = 4) : WnS base (wr.setCell ⟨B, i, none⟩ (.int .i64 v)) B := by
  obtain ⟨⟨k0, k1, k2, k4, k5⟩, s, rs, ra, rc, x, hs, hr, R⟩ := h
  have R2 := rideAt_want R x i (.int .i64 v)
  have x2 := h_set x (i := i) (.int .i64 v)
  rcases hi with rfl | rfl | rfl | rfl
  · exact ⟨⟨v, k1, k2, k4, k5⟩, s, rs, ra, rc, x2, hs, hr, R2⟩
  · exact ⟨⟨k0, v, k2, k4, k5⟩, s, rs, ra, rc, x2, hs, hr, R2⟩
  · exact ⟨⟨k0, k1, v, k4, k5⟩, s, rs, ra, rc, x2, hs, hr, R2⟩
  · exact ⟨⟨k0, k1, k2, v, k5⟩, s, rs, ra, rc, x2, hs, hr, R2⟩

theorem WnS.set_name {base B : Nat} {wr : World} (h : WnS base wr B) (s' : ByteArray) (hs' : s'.size ≤ 10) : WnS base (wr.setCell ⟨B, 3, none⟩ (.string s')) B := by
  obtain ⟨⟨k0, k1, k2, k4, k5⟩, s, rs, ra, rc, x, hs, hr, R⟩ := h
  exact ⟨⟨k0, k1, k2, k4, k5⟩, s', rs, ra, rc, h_set x (i := 3) (.string s'), hs', hr, rideAt_want R x 3 _⟩

theorem WnS.set_rides {base B : Nat} {wr : World} (h : WnS base wr B) (rs : List Ri) (ra : Option Addr) (rc : Nat) (hr : rs.length ≤ 7) (R : RideAt wr base ra rc rs) : WnS base (wr.setCell ⟨B, 6, none⟩ (.slice ra rs.length rc)) B := by
  obtain ⟨⟨k0, k1, k2, k4, k5⟩, s, rs', ra', rc', x, hs, hr', R'⟩ := h
  exact ⟨⟨k0, k1, k2, k4, k5⟩, s, rs, ra, rc, h_set x (i := 6) (.slice ra rs.length rc), hs, hr, rideAt_want R x 6 _⟩

/-- What stands while a want is drawn: the want in its box, the cursor, the office, the result. -/
structure WI (W0 : World) (a : Option Addr) (n cap c : Nat) (w : World) (B : Nat) (OB RB : Obj) (wr : World) : Prop where
  s : WnS w.heap.size wr B
  i : Is W0 a n cap c wr
  k : Kb c w wr
  o : wr.heap[w.heap.size]? = some OB
  r : wr.heap[w.heap.size + 1]? = some RB

theorem WI.kb {W0 : World} {a : Option Addr} {n cap c : Nat} {w : World} {B : Nat} {OB RB : Obj} {wr w2 : World} (h : WI W0 a n cap c w B OB RB wr) (K : Kb c wr w2) (C : Is W0 a n cap c w2) (hc : c < w.heap.size) (hB : w.heap.size + 1 < B) : WI W0 a n cap c w B OB RB w2 :=
  ⟨h.s.kb K hc (by omega), C, h.k.trans K, K.at (by omega) h.o, K.at (by omega) h.r⟩

theorem WI.set {W0 : World} {a : Option Addr} {n cap c : Nat} {w : World} {B : Nat} {OB RB : Obj} {wr : World} (h : WI W0 a n cap c w B OB RB wr) (i : Nat) (v : Value) (S : WnS w.heap.size (wr.setCell ⟨B, i, none⟩ v) B) (hc : c < w.heap.size) (hB : w.heap.size + 1 < B) (hW : W0.heap.size ≤ w.heap.size) : WI W0 a n cap c w B OB RB (wr.setCell ⟨B, i, none⟩ v) :=
  ⟨S, h.i.set B i v (by omega) (by omega), h.k.set B i v (by omega), Tn.h_other h.o (by omega) v, Tn.h_other h.r (by omega) v⟩

/-- A row of cells written into the result's box. -/
theorem isRow {W0 : World} {a : Option Addr} {n cap c : Nat} {w : World} (C : Is W0 a n cap c w) (g : Nat) (cs : Array Value) (hg : g ≠ c) (hW : W0.heap.size ≤ g) : Is W0 a n cap c (w.setRow g cs) := by
  have hk : ∀ i, (w.setRow g cs).cell? ⟨c, i, none⟩ = w.cell? ⟨c, i, none⟩ := fun i => cell_setRow_other w g cs ⟨c, i, none⟩ (Ne.symm hg)
  have hf : ∀ i, (w.setRow g cs).frozen? ⟨c, i, none⟩ = w.frozen? ⟨c, i, none⟩ := fun i => World.frozen?_of_block (setRow_other w g c cs (Ne.symm hg))
  refine ⟨below_setRow C.below hW cs, C.ge, by rw [setRow_size]; exact C.lt, C.len, C.code, ?_, ?_, ?_, ?_, ?_⟩
  · rw [hk]; exact C.cb
  · obtain ⟨i, h1, h2⟩ := C.ci
    exact ⟨i, h1, by rw [hk]; exact h2⟩
  · obtain ⟨h0, h2⟩ := C.ch
    exact ⟨h0, by rw [hk]; exact h2⟩
  · rw [hf]; exact C.fi
  · rw [hf]; exact C.fh

theorem put7 {W0 : World} {a : Option Addr} {n cap c : Nat} {w W : World} {B : Nat} {OB : Obj} {cs : Array Value} (h : WI W0 a n cap c w B OB (.cells cs 26) W) (hc : c < w.heap.size) (hW : W0.heap.size ≤ w.heap.size) {ra : Option Addr} {rc : Nat} {rs : List Ri} (R : RideAt W w.heap.size ra rc rs) (vs : Array Value) :
    RideAt (W.setRow (w.heap.size + 1) vs) w.heap.size ra rc rs ∧ Is W0 a n cap c (W.setRow (w.heap.size + 1) vs) ∧ Kb c w (W.setRow (w.heap.size + 1) vs) := by
  refine ⟨R.keep (by rw [setRow_size]; exact Nat.le_refl _) (fun g cs' f hg => ?_), isRow h.i _ _ (by omega) (by omega), ⟨by rw [setRow_size]; exact h.k.size, fun k hk hk2 => by rw [setRow_other _ _ _ _ (by omega)]; exact h.k.block k hk hk2⟩⟩
  have hne : g ≠ w.heap.size + 1 := by
    rintro rfl
    rw [h.r] at hg
    simp at hg
  exact setRow_other W _ g vs hne

set_option maxRecDepth 100000 in
set_option maxHeartbeats 8000000 in
theorem want9_any {W0 : World} {a : Option Addr} {n cap c : Nat} {w : World} (C : Is W0 a n cap c w) (ls : List Tr) (a2 a3 : Option Addr) (c2 n3 c3 : Nat) (t9 : Int) (ht0 : 0 ≤ t9) (ht5 : t9 ≤ 5) (HT : ls = [] ∨ (ls.length ≤ 40 ∧ (∀ i (hi : i < ls.length), 2 ≤ ls[i].l.length ∧ ls[i].l.length ≤ 20) ∧ TrC w c a2 ls)) :
    Calls Tryd.prog 26 #[.pointer (some ⟨c, 0, none⟩), .agg #[.slice a2 ls.length c2, .slice a3 n3 c3, .slice none 0 0, .slice none 0 0, .slice none 0 0, .int .i64 t9]] w fun e w' => (∃ (h : Wh) (s : ByteArray) (rs : List Ri) (ra : Option Addr) (rc : Nat), e = .returned (wnV h s ra rs.length rc) ∧ s.size ≤ 10 ∧ rs.length ≤ 7 ∧ RideAt w' w.heap.size ra rc rs) ∧ Is W0 a n cap c w' ∧ Kb c w w' := by
  have hcw := C.lt
  have hW0 : W0.heap.size ≤ w.heap.size := C.below.size
  have HTT : Hid (ls = [] ∨ (ls.length ≤ 40 ∧ (∀ i (hi : i < ls.length), 2 ≤ ls[i].l.length ∧ ls[i].l.length ≤ 20) ∧ TrC w c a2 ls)) := HT
  have C0 := (C.alloc (.cells #[.slice a2 ls.length c2, .slice a3 n3 c3, .slice none 0 0, .slice none 0 0, .slice none 0 0, .int .i64 t9] 60)).alloc (.cells #[.int .i64 0, .int .i64 0, .int .i64 0, .string ⟨#[]⟩, .int .i64 0, .int .i64 0, .slice none 0 0] 26)
  have K0 : Kb c w ((w.alloc (.cells #[.slice a2 ls.length c2, .slice a3 n3 c3, .slice none 0 0, .slice none 0 0, .slice none 0 0, .int .i64 t9] 60)).alloc (.cells #[.int .i64 0, .int .i64 0, .int .i64 0, .string ⟨#[]⟩, .int .i64 0, .int .i64 0, .slice none 0 0] 26)) := ((Kb.refl c w).alloc _).alloc _
  have o0 := heap_old (heap_new w (.cells #[.slice a2 ls.length c2, .slice a3 n3 c3, .slice none 0 0, .slice none 0 0, .slice none 0 0, .int .i64 t9] 60)) (.cells #[.int .i64 0, .int .i64 0, .int .i64 0, .string ⟨#[]⟩, .int .i64 0, .int .i64 0, .slice none 0 0] 26)
  have r0 := heap_new (w.alloc (.cells #[.slice a2 ls.length c2, .slice a3 n3 c3, .slice none 0 0, .slice none 0 0, .slice none 0 0, .int .i64 t9] 60)) (.cells #[.int .i64 0, .int .i64 0, .int .i64 0, .string ⟨#[]⟩, .int .i64 0, .int .i64 0, .slice none 0 0] 26)
  have e0 : (w.alloc (.cells #[.slice a2 ls.length c2, .slice a3 n3 c3, .slice none 0 0, .slice none 0 0, .slice none 0 0, .int .i64 t9] 60)).heap.size = w.heap.size + 1 := Array.size_push ..
  rw [e0] at r0
  have C1 := C0.alloc (.cells #[.int .i64 0, .int .i64 0, .int .i64 0, .int .i64 0, .int .i64 1, .int .i64 1, .int .i64 2, .int .i64 3] 3)
  have K1 := K0.alloc (.cells #[.int .i64 0, .int .i64 0, .int .i64 0, .int .i64 0, .int .i64 1, .int .i64 1, .int .i64 2, .int .i64 3] 3)
  have o1 := heap_old o0 (.cells #[.int .i64 0, .int .i64 0, .int .i64 0, .int .i64 0, .int .i64 1, .int .i64 1, .int .i64 2, .int .i64 3] 3)
  have r1 := heap_old r0 (.cells #[.int .i64 0, .int .i64 0, .int .i64 0, .int .i64 0, .int .i64 1, .int .i64 1, .int .i64 2, .int .i64 3] 3)
  have RW : Cur.RowOf (fun _ => True) (((w.alloc (.cells #[.slice a2 ls.length c2, .slice a3 n3 c3, .slice none 0 0, .slice none 0 0, .slice none 0 0, .int .i64 t9] 60)).alloc (.cells #[.int .i64 0, .int .i64 0, .int .i64 0, .string ⟨#[]⟩, .int .i64 0, .int .i64 0, .slice none 0 0] 26)).alloc (.cells #[.int .i64 0, .int .i64 0, .int .i64 0, .int .i64 0, .int .i64 1, .int .i64 1, .int .i64 2, .int .i64 3] 3)) ((w.alloc (.cells #[.slice a2 ls.length c2, .slice a3 n3 c3, .slice none 0 0, .slice none 0 0, .slice none 0 0, .int .i64 t9] 60)).alloc (.cells #[.int .i64 0, .int .i64 0, .int .i64 0, .string ⟨#[]⟩, .int .i64 0, .int .i64 0, .slice none 0 0] 26)).heap.size 8 := rowOf_new (fun _ => True) ((w.alloc (.cells #[.slice a2 ls.length c2, .slice a3 n3 c3, .slice none 0 0, .slice none 0 0, .slice none 0 0, .int .i64 t9] 60)).alloc (.cells #[.int .i64 0, .int .i64 0, .int .i64 0, .string ⟨#[]⟩, .int .i64 0, .int .i64 0, .slice none 0 0] 26)) [0, 0, 0, 0, 1, 1, 2, 3] 3 (fun z _ => trivial)
  have e1 : ((w.alloc (.cells #[.slice a2 ls.length c2, .slice a3 n3 c3, .slice none 0 0, .slice none 0 0, .slice none 0 0, .int .i64 t9] 60)).alloc (.cells #[.int .i64 0, .int .i64 0, .int .i64 0, .string ⟨#[]⟩, .int .i64 0, .int .i64 0, .slice none 0 0] 26)).heap.size = w.heap.size + 1 + 1 := (Array.size_push ..).trans (congrArg (· + 1) e0)
  rw [e1] at RW
  have hc1 : w.heap.size + 1 + 1 ≠ c := by omega
  have HPK : Hid (∀ _ : Unit, _) := fun _ => pickInt_any C1 (fun _ => True) (w.heap.size + 1 + 1) 8 8 hc1 (by omega) (by omega) RW
  have hoc : w.heap.size ≠ c := by omega
  have hrc : w.heap.size + 1 ≠ c := by omega
  clear C0 K0 o0 r0 e0 e1 RW hc1 HT
  go_enter Tryd.func26, Tryd.ntmps26
  go_wp2_with fail
  refine (HPK.out ()).mono ?_
  generalize (((w.alloc (.cells #[.slice a2 ls.length c2, .slice a3 n3 c3, .slice none 0 0, .slice none 0 0, .slice none 0 0, .int .i64 t9] 60)).alloc (.cells #[.int .i64 0, .int .i64 0, .int .i64 0, .string ⟨#[]⟩, .int .i64 0, .int .i64 0, .slice none 0 0] 26)).alloc (.cells #[.int .i64 0, .int .i64 0, .int .i64 0, .int .i64 0, .int .i64 1, .int .i64 1, .int .i64 2, .int .i64 3] 3)) = v1 at *
  rintro e w1 ⟨⟨kd, rfl, -⟩, C2, M⟩
  have K2 := K1.trans (Kb.moved M)
  have o2 := (Kb.moved M).at hoc o1
  have r2 := (Kb.moved M).at hrc r1
  clear HPK C1 K1 o1 r1 M C
  go_wp2_with fail
  refine (below_any C2 _).mono ?_
  rintro e w2 ⟨⟨rq, rfl, hrq0, hrq1⟩, C3, M⟩
  have hrq2 := hrq1 (by omega)
  have K3 := K2.trans (Kb.moved M)
  have o3 := (Kb.moved M).at hoc o2
  have r3 := (Kb.moved M).at hrc r2
  clear C2 K2 o2 r2 M hrq1
  go_wp2_with fail
  refine (below_any C3 _).mono ?_
  rintro e w3 ⟨⟨od, rfl, hod0, hod1⟩, C4, M⟩
  have hod2 := hod1 (by omega)
  have K4 := K3.trans (Kb.moved M)
  have o4 := (Kb.moved M).at hoc o3
  have r4 := (Kb.moved M).at hrc r3
  clear C3 K3 o3 r3 M hod1
  have C5 := C4.alloc (.cells #[.string ⟨#[65]⟩, .string ⟨#[66, 32, 67]⟩, .string ⟨#[]⟩] 9)
  have K5 := K4.alloc (.cells #[.string ⟨#[65]⟩, .string ⟨#[66, 32, 67]⟩, .string ⟨#[]⟩] 9)
  have o5 := heap_old o4 (.cells #[.string ⟨#[65]⟩, .string ⟨#[66, 32, 67]⟩, .string ⟨#[]⟩] 9)
  have r5 := heap_old r4 (.cells #[.string ⟨#[65]⟩, .string ⟨#[66, 32, 67]⟩, .string ⟨#[]⟩] 9)
  have RS : Cur.RowOfS (fun z => z.size ≤ 10) (w3.alloc (.cells #[.string ⟨#[65]⟩, .string ⟨#[66, 32, 67]⟩, .string ⟨#[]⟩] 9)) w3.heap.size 3 := Cur.rowOfS_new (fun z => z.size ≤ 10) w3 [⟨#[65]⟩, ⟨#[66, 32, 67]⟩, ⟨#[]⟩] 9 (by intro z hz; simp at hz; rcases hz with rfl | rfl | rfl <;> decide)
  have hc3 : w3.heap.size ≠ c := by have := C4.lt; omega
  have HPS : Hid (∀ _ : Unit, _) := fun _ => Cur.pick_any C5 (fun z => z.size ≤ 10) w3.heap.size 3 3 hc3 (by omega) (by omega) RS
  clear C4 K4 o4 r4 RS hc3
  go_wp2_with fail
  refine (HPS.out ()).mono ?_
  generalize w3.alloc (.cells #[.string ⟨#[65]⟩, .string ⟨#[66, 32, 67]⟩, .string ⟨#[]⟩] 9) = v3 at *
  rintro e w5 ⟨⟨nm, rfl, hnm⟩, C6, M⟩
  have K6 := K5.trans (Kb.moved M)
  have o6 := (Kb.moved M).at hoc o5
  have r6 := (Kb.moved M).at hrc r5
  clear HPS C5 K5 o5 r5 M
  go_wp2_with fail
  refine (below_any C6 _).mono ?_
  rintro e w6 ⟨⟨cl, rfl, hcl0, hcl1⟩, C7, M⟩
  have hcl2 := hcl1 (by omega)
  have K7 := K6.trans (Kb.moved M)
  have o7 := (Kb.moved M).at hoc o6
  have r7 := (Kb.moved M).at hrc r6
  clear C6 K6 o6 r6 M hcl1
  go_wp2_with fail
  refine (below_any C7 _).mono ?_
  rintro e w7 ⟨⟨cd, rfl, hcd0, hcd1⟩, C8, M⟩
  have hcd2 := hcd1 (by omega)
  have K8 := K7.trans (Kb.moved M)
  have o8 := (Kb.moved M).at hoc o7
  have r8 := (Kb.moved M).at hrc r7
  clear C7 K7 o7 r7 M hcd1
  have x9 := heap_new w7 (.cells #[.int .i64 kd, .int .i64 (1 + rq), .int .i64 (1 + od), .string nm, .int .i64 (1 + cl), .int .i64 cd, .slice none 0 0] 26)
  have C9 := C8.alloc (.cells #[.int .i64 kd, .int .i64 (1 + rq), .int .i64 (1 + od), .string nm, .int .i64 (1 + cl), .int .i64 cd, .slice none 0 0] 26)
  have K9 := K8.alloc (.cells #[.int .i64 kd, .int .i64 (1 + rq), .int .i64 (1 + od), .string nm, .int .i64 (1 + cl), .int .i64 cd, .slice none 0 0] 26)
  have o9 := heap_old o8 (.cells #[.int .i64 kd, .int .i64 (1 + rq), .int .i64 (1 + od), .string nm, .int .i64 (1 + cl), .int .i64 cd, .slice none 0 0] 26)
  have r9 := heap_old r8 (.cells #[.int .i64 kd, .int .i64 (1 + rq), .int .i64 (1 + od), .string nm, .int .i64 (1 + cl), .int .i64 cd, .slice none 0 0] 26)
  have hxc : w7.heap.size ≠ c := by have := C8.lt; omega
  have hwx : w.heap.size ≤ w7.heap.size := K8.size
  have hwx2 : w.heap.size + 1 < w7.heap.size := lt_of r8
  have S9 : WnS w.heap.size (w7.alloc (.cells #[.int .i64 kd, .int .i64 (1 + rq), .int .i64 (1 + od), .string nm, .int .i64 (1 + cl), .int .i64 cd, .slice none 0 0] 26)) w7.heap.size := ⟨⟨kd, 1 + rq, 1 + od, 1 + cl, cd⟩, nm, [], none, 0, x9, hnm, by simp, RideAt.zero _ _⟩
  clear C8 K8 o8 r8 x9 hrq0 hrq2 hod0 hod2 hcl0 hcl2 hcd0 hcd2 hnm
  go_upto_region 2 with fail
  generalize w7.alloc (.cells #[.int .i64 kd, .int .i64 (1 + rq), .int .i64 (1 + od), .string nm, .int .i64 (1 + cl), .int .i64 cd, .slice none 0 0] 26) = w9 at *
  generalize w7.heap.size = BW at *
  have q0 : w9.cell? ⟨w.heap.size, 0, none⟩ = some (.slice a2 ls.length c2) := cell_at o9 0
  go_upto_if 31 with fail
  go_cut [6] from 7 (fun s6 wc => s6 = s6 ∧ WI W0 a n cap c w BW (.cells #[.slice a2 ls.length c2, .slice a3 n3 c3, .slice none 0 0, .slice none 0 0, .slice none 0 0, .int .i64 t9] 60) (.cells #[.int .i64 0, .int .i64 0, .int .i64 0, .string ⟨#[]⟩, .int .i64 0, .int .i64 0, .slice none 0 0] 26) wc)
  case first =>
    rcases Classical.em (ls = []) with rfl | hne
    · go_wp2
      go_meet
      case rel => exact ⟨by first | trivial | rfl, ⟨S9, C9, K9, o9, r9⟩⟩
    · have hl1 : 1 ≤ ls.length := List.length_pos_iff.2 hne
      obtain ⟨hl4, hl5, TRw⟩ : ls.length ≤ 40 ∧ (∀ i (hi : i < ls.length), 2 ≤ ls[i].l.length ∧ ls[i].l.length ≤ 20) ∧ TrC w c a2 ls := by
        rcases HTT.out with h | h
        · exact absurd h hne
        · exact h
      have hq1 : decide ((0 : Int) < (ls.length : Int)) = true := decide_eq_true (by omega)
      have hq2 : decide (0 < ls.length) = true := decide_eq_true (by omega)
      obtain ⟨tb, to', rfl, tb1, tb2, tb3⟩ := id TRw
      have HTW : Hid (ls.length ≤ 40 ∧ (∀ i (hi : i < ls.length), 2 ≤ ls[i].l.length ∧ ls[i].l.length ≤ 20) ∧ TrC w c (some ⟨tb, to', none⟩) ls) := ⟨hl4, hl5, TRw⟩
      have htl : tb < w.heap.size := tb2
      have hol : w.heap.size < w9.heap.size := lt_of o9
      have CD : Is W0 a n cap c w9.drew := C9.drewN 1
      have hN9 : w9.heap.size ≠ c := by have := C9.lt; omega
      have H90 : (w9.alloc (.cells #[.int .i64 0, .int .i64 0, .int .i64 0, .int .i64 0, .slice none 0 0] 72)).drew.heap[w9.heap.size]? = some (.cells #[.int .i64 0, .int .i64 0, .int .i64 0, .int .i64 0, .slice none 0 0] 72) := heap_new w9 (.cells #[.int .i64 0, .int .i64 0, .int .i64 0, .int .i64 0, .slice none 0 0] 72)
      have CDA : Is W0 a n cap c (w9.alloc (.cells #[.int .i64 0, .int .i64 0, .int .i64 0, .int .i64 0, .slice none 0 0] 72)).drew := (C9.alloc _).drewN 1
      have hBl : BW < w9.heap.size := (by obtain ⟨_, h⟩ := S9.lt9; exact lt_of h)
      have hin : (0 : Int) < (ls.length : Int) := by omega
      have HF0 : Hid (∀ v, Kb c w9 v → v.cell? ⟨w.heap.size, 0, none⟩ = some (.slice (some ⟨tb, to', none⟩) ls.length c2)) := fun v K => (kb_cell K (p := ⟨w.heap.size, 0, none⟩) hoc hol).trans q0
      have HW9 : Hid (WI W0 a n cap c w BW (.cells #[.slice (some ⟨tb, to', none⟩) ls.length c2, .slice a3 n3 c3, .slice none 0 0, .slice none 0 0, .slice none 0 0, .int .i64 t9] 60) (.cells #[.int .i64 0, .int .i64 0, .int .i64 0, .string ⟨#[]⟩, .int .i64 0, .int .i64 0, .slice none 0 0] 26) w9) := ⟨S9, C9, K9, o9, r9⟩
      clear HTT TRw hl4 hl5 S9 q0 o9 r9 hq1
      go_upto_region 3 with fail
      rw [hq2]
      go_cut [6] from 32 to 41 (fun v wc => ∃ (i X bi oi ci : Nat) (hi : i < ls.length), v = .pointer (some ⟨X, 0, none⟩) ∧ w.heap.size ≤ X ∧ X ≠ BW ∧ wc.heap[X]? = some (.cells #[.int .i64 ls[i].h.id, .int .i64 ls[i].h.dy, .int .i64 ls[i].h.co, .int .i64 ls[i].h.se, .slice (some ⟨bi, oi, none⟩) ls[i].l.length ci] 72) ∧ Is W0 a n cap c wc ∧ Kb c w9 wc ∧ bi ≠ c ∧ bi < w.heap.size ∧ Stops w (some ⟨bi, oi, none⟩) ls[i].l)
      case first =>
        refine wp_region_held_drew (S := (fun w' => Kb c w9 w')) (by kernel_rfl) ?_ (fun hHeld => ?_)
        · exact (Kb.refl c w9).drew
        refine wpAnyH_take (i := 0) (v := .pointer (some ⟨w.heap.size, 0, none⟩)) rfl (by kernel_rfl) (by kernel_rfl) (by kernel_rfl) (fun _ _ _ h => h) (Or.inl ⟨by kernel_rfl, fun w hSw => by first | (go_simp; done) | (dsimp only at hSw; obtain ⟨hS0⟩ := hSw; go_simp; done) | rfl⟩) (by assumption) ?_
        simp only [Act.put, List.getElem_toArray, List.getElem_cons_succ, List.getElem_cons_zero, List.setIfInBounds_toArray, List.set_cons_succ, List.set_cons_zero]
        refine wpAnyH_take (i := 1) (v := .slice (some ⟨tb, to', none⟩) ls.length c2) rfl (by kernel_rfl) (by kernel_rfl) (by kernel_rfl) (fun _ _ _ h => h) (Or.inl ⟨by kernel_rfl, fun w hSw => by first | (have z0 := HF0.out _ hSw; go_simp; done) | (go_simp; done) | (dsimp only at hSw; obtain ⟨hS0⟩ := hSw; go_simp; done) | rfl⟩) (by assumption) ?_
        simp only [Act.put, List.getElem_toArray, List.getElem_cons_succ, List.getElem_cons_zero, List.setIfInBounds_toArray, List.set_cons_succ, List.set_cons_zero]
        refine wpAnyH_take (i := 2) (v := .pointer (some ⟨c, 0, none⟩)) rfl (by kernel_rfl) (by kernel_rfl) (by kernel_rfl) (fun _ _ _ h => h) (Or.inl ⟨by kernel_rfl, fun w hSw => by first | (go_simp; done) | (dsimp only at hSw; obtain ⟨hS0⟩ := hSw; go_simp; done) | rfl⟩) (by assumption) ?_
        simp only [Act.put, List.getElem_toArray, List.getElem_cons_succ, List.getElem_cons_zero, List.setIfInBounds_toArray, List.set_cons_succ, List.set_cons_zero]
        refine wpAnyH_take (i := 3) (v := .pointer (some ⟨w.heap.size, 0, none⟩)) rfl (by kernel_rfl) (by kernel_rfl) (by kernel_rfl) (fun _ _ _ h => h) (Or.inl ⟨by kernel_rfl, fun w hSw => by first | (go_simp; done) | (dsimp only at hSw; obtain ⟨hS0⟩ := hSw; go_simp; done) | rfl⟩) (by assumption) ?_
        simp only [Act.put, List.getElem_toArray, List.getElem_cons_succ, List.getElem_cons_zero, List.setIfInBounds_toArray, List.set_cons_succ, List.set_cons_zero]
        refine wpAnyH_take (i := 4) (v := .slice (some ⟨tb, to', none⟩) ls.length c2) rfl (by kernel_rfl) (by kernel_rfl) (by kernel_rfl) (fun _ _ _ h => h) (Or.inl ⟨by kernel_rfl, fun w hSw => by first | (have z0 := HF0.out _ hSw; go_simp; done) | (go_simp; done) | (dsimp only at hSw; obtain ⟨hS0⟩ := hSw; go_simp; done) | rfl⟩) (by assumption) ?_
        simp only [Act.put, List.getElem_toArray, List.getElem_cons_succ, List.getElem_cons_zero, List.setIfInBounds_toArray, List.set_cons_succ, List.set_cons_zero]
        refine wpAnyH_take (i := 5) (v := .int .i64 ls.length) rfl (by kernel_rfl) (by kernel_rfl) (by kernel_rfl) (fun _ _ _ h => h) (Or.inl ⟨by kernel_rfl, fun w hSw => by first | (go_simp; done) | (dsimp only at hSw; obtain ⟨hS0⟩ := hSw; go_simp; done) | rfl⟩) (by assumption) ?_
        simp only [Act.put, List.getElem_toArray, List.getElem_cons_succ, List.getElem_cons_zero, List.setIfInBounds_toArray, List.set_cons_succ, List.set_cons_zero]
        refine wpAnyH_ready (rs := [6, 9]) (by kernel_rfl) (by simp) ?_
        refine AllReadyH.cons rfl (fun K hK => ?_) (AllReadyH.cons rfl (fun K hK => ?_) (AllReadyH.nil))
        · go_simp
          go_wp2_with (go_loud (go_at_call 28; (first | (with_reducible refine (below_any CD _).mono ?_) | (with_reducible refine (below_any CDA _).mono ?_)); rintro e w8 ⟨⟨d, rfl, hd0, hd1⟩, C8, M8⟩; have K98 : Kb c w9 w8 := Kb.trans hHeld (Kb.moved M8); (try (with_reducible (have z9 := Kb.at (Kb.moved M8) hN9 H90))); (try (have z90 : w8.cell? ⟨w9.heap.size, 0, none⟩ = some (.int .i64 0) := cell_at z9 0; have z91 : w8.cell? ⟨w9.heap.size, 1, none⟩ = some (.int .i64 0) := cell_at z9 1; have z92 : w8.cell? ⟨w9.heap.size, 2, none⟩ = some (.int .i64 0) := cell_at z9 2; have z93 : w8.cell? ⟨w9.heap.size, 3, none⟩ = some (.int .i64 0) := cell_at z9 3; have z94 : w8.cell? ⟨w9.heap.size, 4, none⟩ = some (.slice none 0 0) := cell_at z9 4; have f90 : ∀ j, w8.frozen? ⟨w9.heap.size, j, none⟩ = false := fun j => frozen_at z9 _)); have hd2 := hd1 hin; obtain ⟨i, rfl⟩ : ∃ m : Nat, d = m := ⟨d.toNat, by omega⟩; have hi3 : i < ls.length := (by omega); obtain ⟨⟨n0, n1, n2, n3⟩, bi, oi, ci, bi1, bi2, n4, S⟩ := tb3 i hi3; skip))
          refine hK.out _ _ ?_ (fun hHeld2 => ?_)
          · first | exact hHeld | exact hHeld.trans (Kb.moved M8) | exact hHeld.alloc _ | exact (hHeld.alloc _).drew | exact Kb.alloc K98 _ | exact ((((Kb.set K98 _ _ _ (Nat.le_refl _)).set _ _ _ (Nat.le_refl _)).set _ _ _ (Nat.le_refl _)).set _ _ _ (Nat.le_refl _)).set _ _ _ (Nat.le_refl _) | trivial
          clear hK K hHeld
          have hHeld := hHeld2
          clear hHeld2
          refine wpAnyH_take (i := 7) (v := .pointer (some ⟨tb, to' + i * 5, none⟩)) rfl (by kernel_rfl) (by kernel_rfl) (by kernel_rfl) (fun _ _ _ h => h) (Or.inl ⟨by kernel_rfl, fun w hSw => by first | (go_simp; done) | (dsimp only at hSw; obtain ⟨hS0⟩ := hSw; go_simp; done) | rfl⟩) (by assumption) ?_
          simp only [Act.put, List.getElem_toArray, List.getElem_cons_succ, List.getElem_cons_zero, List.setIfInBounds_toArray, List.set_cons_succ, List.set_cons_zero]
          refine wpAnyH_take (i := 8) (v := .agg #[.int .i64 ls[i].h.id, .int .i64 ls[i].h.dy, .int .i64 ls[i].h.co, .int .i64 ls[i].h.se, .slice (some ⟨bi, oi, none⟩) ls[i].l.length ci]) rfl (by kernel_rfl) (by kernel_rfl) (by kernel_rfl) (fun _ _ _ h => h) (Or.inl ⟨by kernel_rfl, fun w hSw => by first | (have hk := Kb.trans K9 (show Kb c w9 _ from hSw); have z0 := (kb_cell hk (p := ⟨tb, to' + i * 5, none⟩) tb1 htl).trans n0; have z1 := (kb_cell hk (p := ⟨tb, to' + i * 5 + 1, none⟩) tb1 htl).trans n1; have z2 := (kb_cell hk (p := ⟨tb, to' + i * 5 + 2, none⟩) tb1 htl).trans n2; have z3 := (kb_cell hk (p := ⟨tb, to' + i * 5 + 3, none⟩) tb1 htl).trans n3; have z4 := (kb_cell hk (p := ⟨tb, to' + i * 5 + 4, none⟩) tb1 htl).trans n4; go_simp; done) | (go_simp; done) | (dsimp only at hSw; obtain ⟨hS0⟩ := hSw; go_simp; done) | rfl⟩) (by assumption) ?_
          simp only [Act.put, List.getElem_toArray, List.getElem_cons_succ, List.getElem_cons_zero, List.setIfInBounds_toArray, List.set_cons_succ, List.set_cons_zero]
          refine wpAnyH_ready (rs := [9]) (by kernel_rfl) (by simp) ?_
          refine AllReadyH.cons rfl (fun K hK => ?_) (AllReadyH.nil)
          go_simp
          refine hK.out _ _ ?_ (fun hHeld2 => ?_)
          · first | exact hHeld | exact hHeld.trans (Kb.moved M8) | exact hHeld.alloc _ | exact (hHeld.alloc _).drew | exact Kb.alloc K98 _ | exact ((((Kb.set K98 _ _ _ (Nat.le_refl _)).set _ _ _ (Nat.le_refl _)).set _ _ _ (Nat.le_refl _)).set _ _ _ (Nat.le_refl _)).set _ _ _ (Nat.le_refl _) | trivial
          clear hK K hHeld
          have hHeld := hHeld2
          clear hHeld2
          refine wpAnyH_ready (rs := [10]) (by kernel_rfl) (by simp) ?_
          refine AllReadyH.cons rfl (fun K hK => ?_) AllReadyH.nil
          go_simp
          refine hK.out _ _ ?_ (fun hHeld2 => ?_)
          · first | exact hHeld | exact hHeld.trans (Kb.moved M8) | exact hHeld.alloc _ | exact (hHeld.alloc _).drew | exact Kb.alloc K98 _ | exact ((((Kb.set K98 _ _ _ (Nat.le_refl _)).set _ _ _ (Nat.le_refl _)).set _ _ _ (Nat.le_refl _)).set _ _ _ (Nat.le_refl _)).set _ _ _ (Nat.le_refl _) | trivial
          clear hK K hHeld
          have hHeld := hHeld2
          clear hHeld2
          refine wpAnyH_done (by kernel_rfl) ?_ _
          have hXW : w.heap.size ≤ w8.heap.size := (K9.trans K98).size
          have hXB : w8.heap.size ≠ BW := by have := K98.size; omega
          have hXB9 : w9.heap.size ≠ BW := by omega
          have hW9 : W0.heap.size ≤ w9.heap.size := Nat.le_trans hW0 K9.size
          clear hHeld tb3 HF0
          go_wp2
          go_meet
          case rel =>
            first
              | (have hz := tr_set z9 C8 K98 hN9 hW9 (Nat.le_refl _); exact ⟨i, w9.heap.size, bi, oi, ci, hi3, rfl, K9.size, hXB9, (hz _ _ _ _ _).1, (hz _ _ _ _ _).2.1, (hz _ _ _ _ _).2.2, bi1, bi2, S⟩)
              | ((fail_if_success have hz := z9); exact ⟨i, w8.heap.size, bi, oi, ci, hi3, rfl, hXW, hXB, heap_new w8 _, C8.alloc _, Kb.alloc K98 _, bi1, bi2, S⟩)
              | fail "neither end"
        · go_simp
          refine hK.out _ _ ?_ (fun hHeld2 => ?_)
          · first | exact hHeld | exact hHeld.trans (Kb.moved M8) | exact hHeld.alloc _ | exact (hHeld.alloc _).drew | exact Kb.alloc K98 _ | exact ((((Kb.set K98 _ _ _ (Nat.le_refl _)).set _ _ _ (Nat.le_refl _)).set _ _ _ (Nat.le_refl _)).set _ _ _ (Nat.le_refl _)).set _ _ _ (Nat.le_refl _) | trivial
          clear hK K hHeld
          have hHeld := hHeld2
          clear hHeld2
          refine wpAnyH_ready (rs := [6]) (by kernel_rfl) (by simp) ?_
          refine AllReadyH.cons rfl (fun K hK => ?_) (AllReadyH.nil)
          go_simp
          go_wp2_with (go_loud (go_at_call 28; (first | (with_reducible refine (below_any CD _).mono ?_) | (with_reducible refine (below_any CDA _).mono ?_)); rintro e w8 ⟨⟨d, rfl, hd0, hd1⟩, C8, M8⟩; have K98 : Kb c w9 w8 := Kb.trans hHeld (Kb.moved M8); (try (with_reducible (have z9 := Kb.at (Kb.moved M8) hN9 H90))); (try (have z90 : w8.cell? ⟨w9.heap.size, 0, none⟩ = some (.int .i64 0) := cell_at z9 0; have z91 : w8.cell? ⟨w9.heap.size, 1, none⟩ = some (.int .i64 0) := cell_at z9 1; have z92 : w8.cell? ⟨w9.heap.size, 2, none⟩ = some (.int .i64 0) := cell_at z9 2; have z93 : w8.cell? ⟨w9.heap.size, 3, none⟩ = some (.int .i64 0) := cell_at z9 3; have z94 : w8.cell? ⟨w9.heap.size, 4, none⟩ = some (.slice none 0 0) := cell_at z9 4; have f90 : ∀ j, w8.frozen? ⟨w9.heap.size, j, none⟩ = false := fun j => frozen_at z9 _)); have hd2 := hd1 hin; obtain ⟨i, rfl⟩ : ∃ m : Nat, d = m := ⟨d.toNat, by omega⟩; have hi3 : i < ls.length := (by omega); obtain ⟨⟨n0, n1, n2, n3⟩, bi, oi, ci, bi1, bi2, n4, S⟩ := tb3 i hi3; skip))
          refine hK.out _ _ ?_ (fun hHeld2 => ?_)
          · first | exact hHeld | exact hHeld.trans (Kb.moved M8) | exact hHeld.alloc _ | exact (hHeld.alloc _).drew | exact Kb.alloc K98 _ | exact ((((Kb.set K98 _ _ _ (Nat.le_refl _)).set _ _ _ (Nat.le_refl _)).set _ _ _ (Nat.le_refl _)).set _ _ _ (Nat.le_refl _)).set _ _ _ (Nat.le_refl _) | trivial
          clear hK K hHeld
          have hHeld := hHeld2
          clear hHeld2
          refine wpAnyH_take (i := 7) (v := .pointer (some ⟨tb, to' + i * 5, none⟩)) rfl (by kernel_rfl) (by kernel_rfl) (by kernel_rfl) (fun _ _ _ h => h) (Or.inl ⟨by kernel_rfl, fun w hSw => by first | (go_simp; done) | (dsimp only at hSw; obtain ⟨hS0⟩ := hSw; go_simp; done) | rfl⟩) (by assumption) ?_
          simp only [Act.put, List.getElem_toArray, List.getElem_cons_succ, List.getElem_cons_zero, List.setIfInBounds_toArray, List.set_cons_succ, List.set_cons_zero]
          refine wpAnyH_take (i := 8) (v := .agg #[.int .i64 ls[i].h.id, .int .i64 ls[i].h.dy, .int .i64 ls[i].h.co, .int .i64 ls[i].h.se, .slice (some ⟨bi, oi, none⟩) ls[i].l.length ci]) rfl (by kernel_rfl) (by kernel_rfl) (by kernel_rfl) (fun _ _ _ h => h) (Or.inl ⟨by kernel_rfl, fun w hSw => by first | (have hk := Kb.trans K9 (show Kb c w9 _ from hSw); have z0 := (kb_cell hk (p := ⟨tb, to' + i * 5, none⟩) tb1 htl).trans n0; have z1 := (kb_cell hk (p := ⟨tb, to' + i * 5 + 1, none⟩) tb1 htl).trans n1; have z2 := (kb_cell hk (p := ⟨tb, to' + i * 5 + 2, none⟩) tb1 htl).trans n2; have z3 := (kb_cell hk (p := ⟨tb, to' + i * 5 + 3, none⟩) tb1 htl).trans n3; have z4 := (kb_cell hk (p := ⟨tb, to' + i * 5 + 4, none⟩) tb1 htl).trans n4; go_simp; done) | (go_simp; done) | (dsimp only at hSw; obtain ⟨hS0⟩ := hSw; go_simp; done) | rfl⟩) (by assumption) ?_
          simp only [Act.put, List.getElem_toArray, List.getElem_cons_succ, List.getElem_cons_zero, List.setIfInBounds_toArray, List.set_cons_succ, List.set_cons_zero]
          refine wpAnyH_ready (rs := [10]) (by kernel_rfl) (by simp) ?_
          refine AllReadyH.cons rfl (fun K hK => ?_) AllReadyH.nil
          go_simp
          refine hK.out _ _ ?_ (fun hHeld2 => ?_)
          · first | exact hHeld | exact hHeld.trans (Kb.moved M8) | exact hHeld.alloc _ | exact (hHeld.alloc _).drew | exact Kb.alloc K98 _ | exact ((((Kb.set K98 _ _ _ (Nat.le_refl _)).set _ _ _ (Nat.le_refl _)).set _ _ _ (Nat.le_refl _)).set _ _ _ (Nat.le_refl _)).set _ _ _ (Nat.le_refl _) | trivial
          clear hK K hHeld
          have hHeld := hHeld2
          clear hHeld2
          refine wpAnyH_done (by kernel_rfl) ?_ _
          have hXW : w.heap.size ≤ w8.heap.size := (K9.trans K98).size
          have hXB : w8.heap.size ≠ BW := by have := K98.size; omega
          have hXB9 : w9.heap.size ≠ BW := by omega
          have hW9 : W0.heap.size ≤ w9.heap.size := Nat.le_trans hW0 K9.size
          clear hHeld tb3 HF0
          go_wp2
          go_meet
          case rel =>
            first
              | (have hz := tr_set z9 C8 K98 hN9 hW9 (Nat.le_refl _); exact ⟨i, w9.heap.size, bi, oi, ci, hi3, rfl, K9.size, hXB9, (hz _ _ _ _ _).1, (hz _ _ _ _ _).2.1, (hz _ _ _ _ _).2.2, bi1, bi2, S⟩)
              | ((fail_if_success have hz := z9); exact ⟨i, w8.heap.size, bi, oi, ci, hi3, rfl, hXW, hXB, heap_new w8 _, C8.alloc _, Kb.alloc K98 _, bi1, bi2, S⟩)
              | fail "neither end"
      case rest =>
        obtain ⟨i, X, bi, oi, ci, hi, rfl, hX0, hXB, hXh, CC, KK, bi1, bi2, SS⟩ := hcut
        clear C9 hq2 HF0 hin CD CDA H90 hN9 htl tb1 tb2 tb3 hBl hne
        obtain ⟨hs2, hs3⟩ := HTW.out.2.1 i hi
        generalize ls[i] = t at *
        have hXc : X ≠ c := by omega
        have c4 : wc.cell? ⟨X, 4, none⟩ = some (.slice (some ⟨bi, oi, none⟩) t.l.length ci) := cell_at hXh 4
        obtain ⟨m1, hm1⟩ : ∃ z : Int, (t.l.length : Int) - 1 = z := ⟨_, rfl⟩
        have q1a : wrap64 ((t.l.length : Int) - 1) = m1 := by rw [← hm1]; unfold wrap64; omega
        have q1b : IntKind.i64.wrap ((t.l.length : Int) - 1) = m1 := by rw [← hm1, IntKind.wrap_i64]; omega
        go_wp2_with fail
        refine (below_any CC _).mono ?_
        rintro e w10 ⟨⟨A, rfl, hA0, hA1⟩, C10, M10⟩
        have hA2 := hA1 (by omega)
        obtain ⟨A, rfl⟩ : ∃ m : Nat, A = m := ⟨A.toNat, by omega⟩
        have K10 : Kb c w9 w10 := KK.trans (Kb.moved M10)
        have X10 := (Kb.moved M10).at hXc hXh
        have o10 := K10.at hoc HW9.out.o
        have q5 : w10.cell? ⟨w.heap.size, 5, none⟩ = some (.int .i64 t9) := cell_at o10 5
        have ho10 := lt_of o10
        have CD : Is W0 a n cap c w10.drew := C10.drewN 1
        have HF5 : Hid (∀ v, Kb c w10 v → v.cell? ⟨w.heap.size, 5, none⟩ = some (.int .i64 t9)) := fun v K => (kb_cell K (p := ⟨w.heap.size, 5, none⟩) hoc ho10).trans q5
        clear hA1 M10 CC KK hXh c4 q5 o10
        go_upto_region 5 with fail
        refine wp_region_held_drew (S := (fun w' => Kb c w10 w')) (by kernel_rfl) ?_ (fun hHeld => ?_)
        · exact (Kb.refl c w10).drew
        refine wpAnyH_take (i := 0) (v := .pointer (some ⟨w.heap.size, 5, none⟩)) rfl (by kernel_rfl) (by kernel_rfl) (by kernel_rfl) (fun _ _ _ h => h) (Or.inl ⟨by kernel_rfl, fun w hSw => by first | (go_simp; done) | (dsimp only at hSw; obtain ⟨hS0⟩ := hSw; go_simp; done) | rfl⟩) (by assumption) ?_
        simp only [Act.put, List.getElem_toArray, List.getElem_cons_succ, List.getElem_cons_zero, List.setIfInBounds_toArray, List.set_cons_succ, List.set_cons_zero]
        refine wpAnyH_take (i := 1) (v := .int .i64 t9) rfl (by kernel_rfl) (by kernel_rfl) (by kernel_rfl) (fun _ _ _ h => h) (Or.inl ⟨by kernel_rfl, fun w hSw => by first | (have z0 := HF5.out _ hSw; go_simp; done) | (go_simp; done) | (dsimp only at hSw; obtain ⟨hS0⟩ := hSw; go_simp; done) | rfl⟩) (by assumption) ?_
        simp only [Act.put, List.getElem_toArray, List.getElem_cons_succ, List.getElem_cons_zero, List.setIfInBounds_toArray, List.set_cons_succ, List.set_cons_zero]
        refine wpAnyH_take (i := 2) (v := .pointer (some ⟨c, 0, none⟩)) rfl (by kernel_rfl) (by kernel_rfl) (by kernel_rfl) (fun _ _ _ h => h) (Or.inl ⟨by kernel_rfl, fun w hSw => by first | (go_simp; done) | (dsimp only at hSw; obtain ⟨hS0⟩ := hSw; go_simp; done) | rfl⟩) (by assumption) ?_
        simp only [Act.put, List.getElem_toArray, List.getElem_cons_succ, List.getElem_cons_zero, List.setIfInBounds_toArray, List.set_cons_succ, List.set_cons_zero]
        refine wpAnyH_ready (rs := [3]) (by kernel_rfl) (by simp) ?_
        refine AllReadyH.cons rfl (fun K hK => ?_) AllReadyH.nil
        go_simp
        go_wp2_with (go_at_call 28; (with_reducible refine (below_any CD _).mono ?_); rintro e w8 ⟨⟨d, rfl, hd0, hd1⟩, C8, M8⟩; have K98 : Kb c w10 w8 := Kb.trans hHeld (Kb.moved M8))
        refine hK.out _ _ ?_ (fun hHeld2 => ?_)
        · first | exact hHeld | exact K98 | trivial
        clear hK K hHeld
        have hHeld := hHeld2
        clear hHeld2
        refine wpAnyH_take (i := 4) (v := .int .i64 (IntKind.i64.wrap (t9 + d))) rfl (by kernel_rfl) (by kernel_rfl) (by kernel_rfl) (fun _ _ _ h => h) (Or.inl ⟨by kernel_rfl, fun w hSw => by first | (go_simp; done) | (dsimp only at hSw; obtain ⟨hS0⟩ := hSw; go_simp; done) | rfl⟩) (by assumption) ?_
        simp only [Act.put, List.getElem_toArray, List.getElem_cons_succ, List.getElem_cons_zero, List.setIfInBounds_toArray, List.set_cons_succ, List.set_cons_zero]
        refine wpAnyH_ready (rs := [5]) (by kernel_rfl) (by simp) ?_
        refine AllReadyH.cons rfl (fun K hK => ?_) AllReadyH.nil
        go_simp
        refine hK.out _ _ ?_ (fun hHeld2 => ?_)
        · first | exact hHeld | exact K98 | trivial
        clear hK K hHeld
        have hHeld := hHeld2
        clear hHeld2
        refine wpAnyH_done (by kernel_rfl) ?_ _
        have K11 : Kb c w9 w8 := K10.trans K98
        have X11 := K98.at hXc X10
        obtain ⟨y, hy⟩ : ∃ z : Int, IntKind.i64.wrap (t9 + d) = z := ⟨_, rfl⟩
        rw [hy]
        clear hHeld HF5 CD C10 K10 X10 hy q1a q1b hd0 hd1 K98 M8 ho10 hA0
        generalize w8 = w11 at *
        go_wp2
        go_loopw [8, 9] (fun dv kv wr => ∃ (k : Nat) (y : Int), k ≤ 7 ∧ kv = .int .i64 k ∧ dv = .int .i64 y ∧ Is W0 a n cap c wr ∧ Kb c w9 wr ∧ wr.heap[X]? = some (.cells #[.int .i64 t.h.id, .int .i64 t.h.dy, .int .i64 t.h.co, .int .i64 t.h.se, .slice (some ⟨bi, oi, none⟩) t.l.length ci] 72)) (fun _ kv _ => 7 - (intOf kv).toNat)
        case atStart => exact ⟨0, _, by omega, rfl, rfl, C8, K11, X11⟩
        case round =>
          clear C8 K11 X11
          obtain ⟨k, y, hk, rfl, rfl, CR, KR, XR⟩ := hrel
          have x0 : wr.cell? ⟨X, 0, none⟩ = some (.int .i64 t.h.id) := cell_at XR 0
          have x1 : wr.cell? ⟨X, 1, none⟩ = some (.int .i64 t.h.dy) := cell_at XR 1
          have x2 : wr.cell? ⟨X, 2, none⟩ = some (.int .i64 t.h.co) := cell_at XR 2
          have x3 : wr.cell? ⟨X, 3, none⟩ = some (.int .i64 t.h.se) := cell_at XR 3
          have x4 : wr.cell? ⟨X, 4, none⟩ = some (.slice (some ⟨bi, oi, none⟩) t.l.length ci) := cell_at XR 4
          go_upto_region 7 with fail
          go_cut [59] from 52 to 63 (fun v wc => ∃ b : Bool, v = .bool b ∧ (b = true → k < 7) ∧ Is W0 a n cap c wc ∧ Kb c w9 wc ∧ wc.heap[X]? = some (.cells #[.int .i64 t.h.id, .int .i64 t.h.dy, .int .i64 t.h.co, .int .i64 t.h.se, .slice (some ⟨bi, oi, none⟩) t.l.length ci] 72))
          case first =>
            by_cases hk7 : k < 7
            · have ht : decide ((k : Int) < 7) = true := decide_eq_true (by omega)
              have HRU : Hid (∀ _ : Unit, _) := fun _ => Tn.specRuns_val t.h y (some ⟨bi, oi, none⟩) t.l ci wr (by unfold maxLen; omega) (stops_kb SS (K9.trans KR) bi1 bi2)
              go_wp2_with fail
              refine (HRU.out ()).mono ?_
              rintro e w12 ⟨rfl, L12⟩
              have C12 := CR.kept L12
              have K12 := KR.trans (Kb.of c L12)
              have X12 := (Kb.of c L12).at hXc XR
              go_wp2
              go_meet
              case rel => exact ⟨_, rfl, fun _ => hk7, C12, K12, X12⟩
            · have ht : decide ((k : Int) < 7) = false := decide_eq_false (by omega)
              go_wp2
              go_meet
              case rel => exact ⟨_, rfl, by simp, CR, KR, XR⟩
          case rest =>
            obtain ⟨b, rfl, hb, C12, K12, X12⟩ := hcut
            clear x0 x1 x2 x3 x4 CR KR XR
            cases b
            · clear hb hk
              have x0 : wc.cell? ⟨X, 0, none⟩ = some (.int .i64 t.h.id) := cell_at X12 0
              have x4 : wc.cell? ⟨X, 4, none⟩ = some (.slice (some ⟨bi, oi, none⟩) t.l.length ci) := cell_at X12 4
              have hXl := lt_of X12
              have hAl : A < t.l.length := by omega
              obtain ⟨zA, hzA⟩ : ∃ z, (t.l[A]'hAl).st = z := ⟨_, rfl⟩
              have hbl : bi < wc.heap.size := Nat.lt_of_lt_of_le bi2 (K9.trans K12).size
              have hbB : bi ≠ BW := by omega
              have HST : Hid (∀ v j, ∀ hj : j < t.l.length, Kq c BW wc v → v.cell? ⟨bi, oi + j * 3, none⟩ = some (.int .i64 t.l[j].st)) := fun v j hj K => (K ⟨bi, oi + j * 3, none⟩ bi1 hbB hbl).trans (stop_cell (stops_kb SS (K9.trans K12) bi1 bi2) hj)
              have HFX : Hid (∀ v, Kq c BW wc v → v.cell? ⟨X, 0, none⟩ = some (.int .i64 t.h.id) ∧ v.cell? ⟨X, 4, none⟩ = some (.slice (some ⟨bi, oi, none⟩) t.l.length ci) ∧ v.cell? ⟨bi, oi + A * 3, none⟩ = some (.int .i64 zA)) := fun v K => ⟨(K ⟨X, 0, none⟩ hXc hXB hXl).trans x0, (K ⟨X, 4, none⟩ hXc hXB hXl).trans x4, by rw [← hzA]; exact HST.out v A hAl K⟩
              obtain ⟨e1, he1⟩ : ∃ z : Int, (A : Int) + 1 = z := ⟨_, rfl⟩
              obtain ⟨r1, hr1⟩ : ∃ z : Int, m1 - (A : Int) = z := ⟨_, rfl⟩
              have hr0 : 0 < r1 := by omega
              have b1 : -1000000 ≤ (t.l.length : Int) - 1 ∧ (t.l.length : Int) - 1 ≤ 1000000 := by omega
              have b2 : -1000000 ≤ (A : Int) + 1 ∧ (A : Int) + 1 ≤ 1000000 := by omega
              have b3 : -1000000 ≤ m1 - (A : Int) ∧ m1 - (A : Int) ≤ 1000000 := by omega
              have q1a := (wr64 b1.1 b1.2).1.trans hm1
              have q1b := (wr64 b1.1 b1.2).2.trans hm1
              have q2a := (wr64 b2.1 b2.2).1.trans he1
              have q2b := (wr64 b2.1 b2.2).2.trans he1
              have q3a := (wr64 b3.1 b3.2).1.trans hr1
              have q3b := (wr64 b3.1 b3.2).2.trans hr1
              clear b1 b2 b3
              have CD : Is W0 a n cap c wc.drew := C12.drewN 1
              clear x0 x4 SS X12 C12 hzA
              go_upto_region 10 with fail
              refine wp_region_held_drew (S := (fun w' => Kq c BW wc w')) (by kernel_rfl) ?_ (fun hHeld => ?_)
              · exact Kq.of (Kb.refl c wc).drew
              refine wpAnyH_take (i := 0) (v := .pointer (some ⟨X, 0, none⟩)) rfl (by kernel_rfl) (by kernel_rfl) (by kernel_rfl) (fun _ _ _ h => h) (Or.inl ⟨by kernel_rfl, fun w hSw => by first | (go_simp; done) | (dsimp only at hSw; obtain ⟨hS0⟩ := hSw; go_simp; done) | rfl⟩) (by assumption) ?_
              simp only [Act.put, List.getElem_toArray, List.getElem_cons_succ, List.getElem_cons_zero, List.setIfInBounds_toArray, List.set_cons_succ, List.set_cons_zero]
              refine wpAnyH_take (i := 1) (v := .int .i64 t.h.id) rfl (by kernel_rfl) (by kernel_rfl) (by kernel_rfl) (fun _ _ _ h => h) (Or.inl ⟨by kernel_rfl, fun w hSw => by first | (obtain ⟨z0, z4, zs⟩ := HFX.out _ hSw; go_simp; done) | (go_simp; done) | (dsimp only at hSw; obtain ⟨hS0⟩ := hSw; go_simp; done) | rfl⟩) (by assumption) ?_
              simp only [Act.put, List.getElem_toArray, List.getElem_cons_succ, List.getElem_cons_zero, List.setIfInBounds_toArray, List.set_cons_succ, List.set_cons_zero]
              refine wpAnyH_take (i := 2) (v := .int .i64 y) rfl (by kernel_rfl) (by kernel_rfl) (by kernel_rfl) (fun _ _ _ h => h) (Or.inl ⟨by kernel_rfl, fun w hSw => by first | (go_simp; done) | (dsimp only at hSw; obtain ⟨hS0⟩ := hSw; go_simp; done) | rfl⟩) (by assumption) ?_
              simp only [Act.put, List.getElem_toArray, List.getElem_cons_succ, List.getElem_cons_zero, List.setIfInBounds_toArray, List.set_cons_succ, List.set_cons_zero]
              refine wpAnyH_take (i := 3) (v := .pointer (some ⟨X, 4, none⟩)) rfl (by kernel_rfl) (by kernel_rfl) (by kernel_rfl) (fun _ _ _ h => h) (Or.inl ⟨by kernel_rfl, fun w hSw => by first | (go_simp; done) | (dsimp only at hSw; obtain ⟨hS0⟩ := hSw; go_simp; done) | rfl⟩) (by assumption) ?_
              simp only [Act.put, List.getElem_toArray, List.getElem_cons_succ, List.getElem_cons_zero, List.setIfInBounds_toArray, List.set_cons_succ, List.set_cons_zero]
              refine wpAnyH_take (i := 4) (v := .slice (some ⟨bi, oi, none⟩) t.l.length ci) rfl (by kernel_rfl) (by kernel_rfl) (by kernel_rfl) (fun _ _ _ h => h) (Or.inl ⟨by kernel_rfl, fun w hSw => by first | (obtain ⟨z0, z4, zs⟩ := HFX.out _ hSw; go_simp; done) | (go_simp; done) | (dsimp only at hSw; obtain ⟨hS0⟩ := hSw; go_simp; done) | rfl⟩) (by assumption) ?_
              simp only [Act.put, List.getElem_toArray, List.getElem_cons_succ, List.getElem_cons_zero, List.setIfInBounds_toArray, List.set_cons_succ, List.set_cons_zero]
              refine wpAnyH_take (i := 5) (v := .int .i64 A) rfl (by kernel_rfl) (by kernel_rfl) (by kernel_rfl) (fun _ _ _ h => h) (Or.inl ⟨by kernel_rfl, fun w hSw => by first | (go_simp; done) | (dsimp only at hSw; obtain ⟨hS0⟩ := hSw; go_simp; done) | rfl⟩) (by assumption) ?_
              simp only [Act.put, List.getElem_toArray, List.getElem_cons_succ, List.getElem_cons_zero, List.setIfInBounds_toArray, List.set_cons_succ, List.set_cons_zero]
              refine wpAnyH_take (i := 6) (v := .pointer (some ⟨bi, oi + A * 3, none⟩)) rfl (by kernel_rfl) (by kernel_rfl) (by kernel_rfl) (fun _ _ _ h => h) (Or.inl ⟨by kernel_rfl, fun w hSw => by first | (go_simp; done) | (dsimp only at hSw; obtain ⟨hS0⟩ := hSw; go_simp; done) | rfl⟩) (by assumption) ?_
              simp only [Act.put, List.getElem_toArray, List.getElem_cons_succ, List.getElem_cons_zero, List.setIfInBounds_toArray, List.set_cons_succ, List.set_cons_zero]
              refine wpAnyH_take (i := 7) (v := .pointer (some ⟨bi, oi + A * 3, none⟩)) rfl (by kernel_rfl) (by kernel_rfl) (by kernel_rfl) (fun _ _ _ h => h) (Or.inl ⟨by kernel_rfl, fun w hSw => by first | (go_simp; done) | (dsimp only at hSw; obtain ⟨hS0⟩ := hSw; go_simp; done) | rfl⟩) (by assumption) ?_
              simp only [Act.put, List.getElem_toArray, List.getElem_cons_succ, List.getElem_cons_zero, List.setIfInBounds_toArray, List.set_cons_succ, List.set_cons_zero]
              refine wpAnyH_take (i := 8) (v := .int .i64 zA) rfl (by kernel_rfl) (by kernel_rfl) (by kernel_rfl) (fun _ _ _ h => h) (Or.inl ⟨by kernel_rfl, fun w hSw => by first | (obtain ⟨z0, z4, zs⟩ := HFX.out _ hSw; go_simp; done) | (go_simp; done) | (dsimp only at hSw; obtain ⟨hS0⟩ := hSw; go_simp; done) | rfl⟩) (by assumption) ?_
              simp only [Act.put, List.getElem_toArray, List.getElem_cons_succ, List.getElem_cons_zero, List.setIfInBounds_toArray, List.set_cons_succ, List.set_cons_zero]
              refine wpAnyH_take (i := 9) (v := .pointer (some ⟨X, 4, none⟩)) rfl (by kernel_rfl) (by kernel_rfl) (by kernel_rfl) (fun _ _ _ h => h) (Or.inl ⟨by kernel_rfl, fun w hSw => by first | (go_simp; done) | (dsimp only at hSw; obtain ⟨hS0⟩ := hSw; go_simp; done) | rfl⟩) (by assumption) ?_
              simp only [Act.put, List.getElem_toArray, List.getElem_cons_succ, List.getElem_cons_zero, List.setIfInBounds_toArray, List.set_cons_succ, List.set_cons_zero]
              refine wpAnyH_take (i := 10) (v := .slice (some ⟨bi, oi, none⟩) t.l.length ci) rfl (by kernel_rfl) (by kernel_rfl) (by kernel_rfl) (fun _ _ _ h => h) (Or.inl ⟨by kernel_rfl, fun w hSw => by first | (obtain ⟨z0, z4, zs⟩ := HFX.out _ hSw; go_simp; done) | (go_simp; done) | (dsimp only at hSw; obtain ⟨hS0⟩ := hSw; go_simp; done) | rfl⟩) (by assumption) ?_
              simp only [Act.put, List.getElem_toArray, List.getElem_cons_succ, List.getElem_cons_zero, List.setIfInBounds_toArray, List.set_cons_succ, List.set_cons_zero]
              refine wpAnyH_take (i := 11) (v := .int .i64 A) rfl (by kernel_rfl) (by kernel_rfl) (by kernel_rfl) (fun _ _ _ h => h) (Or.inl ⟨by kernel_rfl, fun w hSw => by first | (go_simp; done) | (dsimp only at hSw; obtain ⟨hS0⟩ := hSw; go_simp; done) | rfl⟩) (by assumption) ?_
              simp only [Act.put, List.getElem_toArray, List.getElem_cons_succ, List.getElem_cons_zero, List.setIfInBounds_toArray, List.set_cons_succ, List.set_cons_zero]
              refine wpAnyH_take (i := 12) (v := .int .i64 e1) rfl (by kernel_rfl) (by kernel_rfl) (by kernel_rfl) (fun _ _ _ h => h) (Or.inl ⟨by kernel_rfl, fun w hSw => by first | (rw [show (Value.int IntKind.i64 (e1)) = .int .i64 (IntKind.i64.wrap ((A : Int) + 1)) from by rw [q2b]]; go_simp; done) | (go_simp; done) | (dsimp only at hSw; obtain ⟨hS0⟩ := hSw; go_simp; done) | rfl⟩) (by assumption) ?_
              simp only [Act.put, List.getElem_toArray, List.getElem_cons_succ, List.getElem_cons_zero, List.setIfInBounds_toArray, List.set_cons_succ, List.set_cons_zero]
              refine wpAnyH_take (i := 13) (v := .pointer (some ⟨c, 0, none⟩)) rfl (by kernel_rfl) (by kernel_rfl) (by kernel_rfl) (fun _ _ _ h => h) (Or.inl ⟨by kernel_rfl, fun w hSw => by first | (go_simp; done) | (dsimp only at hSw; obtain ⟨hS0⟩ := hSw; go_simp; done) | rfl⟩) (by assumption) ?_
              simp only [Act.put, List.getElem_toArray, List.getElem_cons_succ, List.getElem_cons_zero, List.setIfInBounds_toArray, List.set_cons_succ, List.set_cons_zero]
              refine wpAnyH_take (i := 14) (v := .pointer (some ⟨X, 4, none⟩)) rfl (by kernel_rfl) (by kernel_rfl) (by kernel_rfl) (fun _ _ _ h => h) (Or.inl ⟨by kernel_rfl, fun w hSw => by first | (go_simp; done) | (dsimp only at hSw; obtain ⟨hS0⟩ := hSw; go_simp; done) | rfl⟩) (by assumption) ?_
              simp only [Act.put, List.getElem_toArray, List.getElem_cons_succ, List.getElem_cons_zero, List.setIfInBounds_toArray, List.set_cons_succ, List.set_cons_zero]
              refine wpAnyH_take (i := 15) (v := .slice (some ⟨bi, oi, none⟩) t.l.length ci) rfl (by kernel_rfl) (by kernel_rfl) (by kernel_rfl) (fun _ _ _ h => h) (Or.inl ⟨by kernel_rfl, fun w hSw => by first | (obtain ⟨z0, z4, zs⟩ := HFX.out _ hSw; go_simp; done) | (go_simp; done) | (dsimp only at hSw; obtain ⟨hS0⟩ := hSw; go_simp; done) | rfl⟩) (by assumption) ?_
              simp only [Act.put, List.getElem_toArray, List.getElem_cons_succ, List.getElem_cons_zero, List.setIfInBounds_toArray, List.set_cons_succ, List.set_cons_zero]
              refine wpAnyH_take (i := 16) (v := .int .i64 t.l.length) rfl (by kernel_rfl) (by kernel_rfl) (by kernel_rfl) (fun _ _ _ h => h) (Or.inl ⟨by kernel_rfl, fun w hSw => by first | (go_simp; done) | (dsimp only at hSw; obtain ⟨hS0⟩ := hSw; go_simp; done) | rfl⟩) (by assumption) ?_
              simp only [Act.put, List.getElem_toArray, List.getElem_cons_succ, List.getElem_cons_zero, List.setIfInBounds_toArray, List.set_cons_succ, List.set_cons_zero]
              refine wpAnyH_take (i := 17) (v := .int .i64 m1) rfl (by kernel_rfl) (by kernel_rfl) (by kernel_rfl) (fun _ _ _ h => h) (Or.inl ⟨by kernel_rfl, fun w hSw => by first | (rw [show (Value.int IntKind.i64 (m1)) = .int .i64 (IntKind.i64.wrap ((t.l.length : Int) - 1)) from by rw [q1b]]; go_simp; done) | (go_simp; done) | (dsimp only at hSw; obtain ⟨hS0⟩ := hSw; go_simp; done) | rfl⟩) (by assumption) ?_
              simp only [Act.put, List.getElem_toArray, List.getElem_cons_succ, List.getElem_cons_zero, List.setIfInBounds_toArray, List.set_cons_succ, List.set_cons_zero]
              refine wpAnyH_take (i := 18) (v := .int .i64 A) rfl (by kernel_rfl) (by kernel_rfl) (by kernel_rfl) (fun _ _ _ h => h) (Or.inl ⟨by kernel_rfl, fun w hSw => by first | (go_simp; done) | (dsimp only at hSw; obtain ⟨hS0⟩ := hSw; go_simp; done) | rfl⟩) (by assumption) ?_
              simp only [Act.put, List.getElem_toArray, List.getElem_cons_succ, List.getElem_cons_zero, List.setIfInBounds_toArray, List.set_cons_succ, List.set_cons_zero]
              refine wpAnyH_take (i := 19) (v := .int .i64 r1) rfl (by kernel_rfl) (by kernel_rfl) (by kernel_rfl) (fun _ _ _ h => h) (Or.inl ⟨by kernel_rfl, fun w hSw => by first | (rw [show (Value.int IntKind.i64 (r1)) = .int .i64 (IntKind.i64.wrap (m1 - (A : Int))) from by rw [q3b]]; go_simp; done) | (go_simp; done) | (dsimp only at hSw; obtain ⟨hS0⟩ := hSw; go_simp; done) | rfl⟩) (by assumption) ?_
              simp only [Act.put, List.getElem_toArray, List.getElem_cons_succ, List.getElem_cons_zero, List.setIfInBounds_toArray, List.set_cons_succ, List.set_cons_zero]
              refine wpAnyH_ready (rs := [20]) (by kernel_rfl) (by simp) ?_
              refine AllReadyH.cons rfl (fun K hK => ?_) AllReadyH.nil
              go_simp
              go_wp2_with (go_loud (go_at_call 28; (with_reducible refine (below_any CD _).mono ?_); rintro e w8 ⟨⟨d, rfl, hd0, hd1⟩, C8, M8⟩; have K98 : Kb c wc w8 := Kb.trans (Kb.refl c wc).drew (Kb.moved M8); clear q1a q1b q2a q2b q3a q3b; have hd2 := hd1 hr0; obtain ⟨j, hj⟩ : ∃ j : Nat, e1 + d = (j : Int) := ⟨(e1 + d).toNat, by omega⟩; have hjl : j < t.l.length := (by omega); have b4 : -1000000 ≤ e1 + d ∧ e1 + d ≤ 1000000 := (by omega); have q4a := (wr64 b4.1 b4.2).1.trans hj; have q4b := (wr64 b4.1 b4.2).2.trans hj; clear b4; obtain ⟨zj, hzj⟩ : ∃ z, (t.l[j]'hjl).st = z := ⟨_, rfl⟩; have HJ : Hid (∀ v, Kq c BW wc v → v.cell? ⟨bi, oi + j * 3, none⟩ = some (.int .i64 zj)) := (fun v K => (by rw [← hzj]; exact HST.out v j hjl K)); clear hzj; have WB := HW9.out.kb ((K12.trans K98).alloc (.cells #[.int .i64 t.h.id, .int .i64 y, .int .i64 zA, .int .i64 zj] 43)) (C8.alloc (.cells #[.int .i64 t.h.id, .int .i64 y, .int .i64 zA, .int .i64 zj] 43)) hcw hwx2; obtain ⟨h9, s9, rs9, ra9, rc9, x9, -, -, -⟩ := id WB.s; have zb : (w8.alloc (.cells #[.int .i64 t.h.id, .int .i64 y, .int .i64 zA, .int .i64 zj] 43)).cell? ⟨BW, 6, none⟩ = some (.slice ra9 rs9.length rc9) := cell_at x9 6; have fb : (w8.alloc (.cells #[.int .i64 t.h.id, .int .i64 y, .int .i64 zA, .int .i64 zj] 43)).frozen? ⟨BW, 6, none⟩ = false := frozen_at x9 6; clear x9))
              refine hK.out _ _ ?_ (fun hHeld2 => ?_)
              · first | exact hHeld | exact Kq.of K98 | exact Kq.of (K98.alloc _) | exact (Kq.of (K98.alloc _)).set _ _
              clear hK K hHeld
              have hHeld := hHeld2
              clear hHeld2
              refine wpAnyH_take (i := 21) (v := .int .i64 j) rfl (by kernel_rfl) (by kernel_rfl) (by kernel_rfl) (fun _ _ _ h => h) (Or.inl ⟨by kernel_rfl, fun w hSw => by first | (rw [show (Value.int IntKind.i64 ((j : Int))) = .int .i64 (IntKind.i64.wrap (e1 + d)) from by rw [q4b]]; go_simp; done) | (go_simp; done) | (dsimp only at hSw; obtain ⟨hS0⟩ := hSw; go_simp; done) | rfl⟩) (by assumption) ?_
              simp only [Act.put, List.getElem_toArray, List.getElem_cons_succ, List.getElem_cons_zero, List.setIfInBounds_toArray, List.set_cons_succ, List.set_cons_zero]
              refine wpAnyH_take (i := 22) (v := .pointer (some ⟨bi, oi + j * 3, none⟩)) rfl (by kernel_rfl) (by kernel_rfl) (by kernel_rfl) (fun _ _ _ h => h) (Or.inl ⟨by kernel_rfl, fun w hSw => by first | (go_simp; done) | (dsimp only at hSw; obtain ⟨hS0⟩ := hSw; go_simp; done) | rfl⟩) (by assumption) ?_
              simp only [Act.put, List.getElem_toArray, List.getElem_cons_succ, List.getElem_cons_zero, List.setIfInBounds_toArray, List.set_cons_succ, List.set_cons_zero]
              refine wpAnyH_take (i := 23) (v := .pointer (some ⟨bi, oi + j * 3, none⟩)) rfl (by kernel_rfl) (by kernel_rfl) (by kernel_rfl) (fun _ _ _ h => h) (Or.inl ⟨by kernel_rfl, fun w hSw => by first | (go_simp; done) | (dsimp only at hSw; obtain ⟨hS0⟩ := hSw; go_simp; done) | rfl⟩) (by assumption) ?_
              simp only [Act.put, List.getElem_toArray, List.getElem_cons_succ, List.getElem_cons_zero, List.setIfInBounds_toArray, List.set_cons_succ, List.set_cons_zero]
              refine wpAnyH_take (i := 24) (v := .int .i64 zj) rfl (by kernel_rfl) (by kernel_rfl) (by kernel_rfl) (fun _ _ _ h => h) (Or.inl ⟨by kernel_rfl, fun w hSw => by first | (have zj9 := HJ.out _ hSw; go_simp; done) | (go_simp; done) | (dsimp only at hSw; obtain ⟨hS0⟩ := hSw; go_simp; done) | rfl⟩) (by assumption) ?_
              simp only [Act.put, List.getElem_toArray, List.getElem_cons_succ, List.getElem_cons_zero, List.setIfInBounds_toArray, List.set_cons_succ, List.set_cons_zero]
              refine wpAnyH_take (i := 25) (v := .agg #[.int .i64 t.h.id, .int .i64 y, .int .i64 zA, .int .i64 zj]) rfl (by kernel_rfl) (by kernel_rfl) (by kernel_rfl) (fun _ _ _ h => h) (Or.inl ⟨by kernel_rfl, fun w hSw => by first | (go_simp; done) | (dsimp only at hSw; obtain ⟨hS0⟩ := hSw; go_simp; done) | rfl⟩) (by assumption) ?_
              simp only [Act.put, List.getElem_toArray, List.getElem_cons_succ, List.getElem_cons_zero, List.setIfInBounds_toArray, List.set_cons_succ, List.set_cons_zero]
              refine wpAnyH_ready (rs := [26]) (by kernel_rfl) (by simp) ?_
              refine AllReadyH.cons rfl (fun K hK => ?_) AllReadyH.nil
              go_simp
              refine hK.out _ _ ?_ (fun hHeld2 => ?_)
              · first | exact hHeld | exact Kq.of K98 | exact Kq.of (K98.alloc _) | exact (Kq.of (K98.alloc _)).set _ _
              clear hK K hHeld
              have hHeld := hHeld2
              clear hHeld2
              refine wpAnyH_take (i := 27) (v := .pointer (some ⟨BW, 6, none⟩)) rfl (by kernel_rfl) (by kernel_rfl) (by kernel_rfl) (fun _ _ _ h => h) (Or.inl ⟨by kernel_rfl, fun w hSw => by first | (go_simp; done) | (dsimp only at hSw; obtain ⟨hS0⟩ := hSw; go_simp; done) | rfl⟩) (by assumption) ?_
              simp only [Act.put, List.getElem_toArray, List.getElem_cons_succ, List.getElem_cons_zero, List.setIfInBounds_toArray, List.set_cons_succ, List.set_cons_zero]
              refine wpAnyH_ready (rs := [28]) (by kernel_rfl) (by simp) ?_
              refine AllReadyH.cons rfl (fun K hK => ?_) AllReadyH.nil
              go_simp
              refine hK.out _ _ ?_ (fun hHeld2 => ?_)
              · first | exact hHeld | exact Kq.of K98 | exact Kq.of (K98.alloc _) | exact (Kq.of (K98.alloc _)).set _ _
              clear hK K hHeld
              have hHeld := hHeld2
              clear hHeld2
              refine wpAnyH_done (by kernel_rfl) ?_ _
              have WZ : WI W0 a n cap c w BW (.cells #[.slice (some ⟨tb, to', none⟩) ls.length c2, .slice a3 n3 c3, .slice none 0 0, .slice none 0 0, .slice none 0 0, .int .i64 t9] 60) (.cells #[.int .i64 0, .int .i64 0, .int .i64 0, .string ⟨#[]⟩, .int .i64 0, .int .i64 0, .slice none 0 0] 26) ((w8.alloc (.cells #[.int .i64 t.h.id, .int .i64 y, .int .i64 zA, .int .i64 zj] 43)).setCell ⟨BW, 6, none⟩ (.slice (some ⟨w8.heap.size, 0, none⟩) 1 1)) := WB.set 6 _ (WB.s.set_rides [⟨t.h.id, y, zA, zj⟩] _ 1 (by simp) (ride_one (x := ⟨t.h.id, y, zA, zj⟩) ((HW9.out.k.trans (K12.trans K98)).size))) hcw hwx2 hW0
              clear hHeld HST HFX HJ q4a q4b WB zb fb K98 K12 CD M8 C8 HW9 hd0 hd1 hd2 hj hm1 he1 hr1 hr0 hA2 K9 hs2 hs3 bi1 bi2
              go_upto_region 11 with fail
              generalize (w8.alloc (.cells #[.int .i64 t.h.id, .int .i64 y, .int .i64 zA, .int .i64 zj] 43)).setCell ⟨BW, 6, none⟩ (.slice (some ⟨w8.heap.size, 0, none⟩) 1 1) = w14 at *
              go_wp2_with fail
              refine (once_any WZ.i _).mono ?_
              rintro e w15 ⟨⟨x, rfl⟩, C15, M15⟩
              have W15 := WZ.kb (Kb.moved M15) C15 hcw hwx2
              clear WZ M15 C15
              cases x
              · go_wp2
                go_meet
                case rel => exact ⟨by first | trivial | rfl, W15⟩
              · have o15 : w15.cell? ⟨w.heap.size, 0, none⟩ = some (.slice (some ⟨tb, to', none⟩) ls.length c2) := cell_at W15.o 0
                go_wp2_with fail
                refine (rides_any W15.i ls (some ⟨tb, to', none⟩) c2 hl1 HTW.out.1 HTW.out.2.1 (HTW.out.2.2.kb W15.k)).mono ?_
                rintro e w16 ⟨⟨rs, ra, rc, rfl, RA, -, hr6⟩, C16, K16⟩
                have W16 := W15.kb K16 C16 hcw hwx2
                obtain ⟨h9, s9, rs9, ra9, rc9, x9, -, -, -⟩ := id W16.s
                have zb : w16.cell? ⟨BW, 6, none⟩ = some (.slice ra9 rs9.length rc9) := cell_at x9 6
                have fb : w16.frozen? ⟨BW, 6, none⟩ = false := frozen_at x9 6
                have WZ := W16.set 6 _ (W16.s.set_rides rs ra rc (by omega) (RA.lower W15.k.size)) hcw hwx2 hW0
                clear x9 W15 RA K16 C16 o15 HTW
                go_wp2
                go_meet
                case rel => exact ⟨by first | trivial | rfl, WZ⟩
            · have hk7 := hb rfl
              go_wp2
              go_roundw
              case rel =>
                first
                  | exact ⟨k + 1, _, by omega, by go_num, rfl, C12, K12, X12⟩
                  | ((repeat apply Exists.intro); exact ⟨⟨k + 1, _, by omega, by go_num, rfl, C12, K12, X12⟩, rfl⟩)
                  | (refine ⟨_, ⟨k + 1, _, by omega, by go_num, rfl, C12, K12, X12⟩, rfl⟩)
                  | trace_state
              case measure => simp [intOf]; omega
  case rest =>
    obtain ⟨-, h5⟩ := hcut
    clear C9 K9 o9 r9 S9 q0 HTT
    obtain ⟨⟨k0, k1, k2, k4, k5⟩, s, rs, ra, rc, x, -, -, -⟩ := id h5.s
    have x_0 : wc.cell? ⟨BW, 0, none⟩ = some (.int .i64 k0) := cell_at x 0
    go_upto_if 101 with fail
    go_cut [6] from 7 (fun s6 wd => s6 = s6 ∧ WI W0 a n cap c w BW (.cells #[.slice a2 ls.length c2, .slice a3 n3 c3, .slice none 0 0, .slice none 0 0, .slice none 0 0, .int .i64 t9] 60) (.cells #[.int .i64 0, .int .i64 0, .int .i64 0, .string ⟨#[]⟩, .int .i64 0, .int .i64 0, .slice none 0 0] 26) wd)
    case first =>
      by_cases hk : k0 = 3
      · have hkb : decide (k0 = 3) = true := decide_eq_true hk
        have hkc : (k0 == 3) = true := by simp [hk]
        have x_2 : wc.cell? ⟨BW, 2, none⟩ = some (.int .i64 k2) := cell_at x 2
        have q5 : wc.cell? ⟨w.heap.size, 5, none⟩ = some (.int .i64 t9) := cell_at h5.o 5
        have ho5 := lt_of h5.o
        have hoB : w.heap.size ≠ BW := by omega
        have HF5 : Hid (∀ v, Kq c BW wc v → v.cell? ⟨w.heap.size, 5, none⟩ = some (.int .i64 t9)) := fun v K => (K ⟨w.heap.size, 5, none⟩ hoc hoB ho5).trans q5
        have CD : Is W0 a n cap c wc.drew := h5.i.drewN 1
        go_upto_region 14 with fail
        refine wp_region_held_drew (S := (fun w' => Kq c BW wc w')) (by kernel_rfl) ?_ (fun hHeld => ?_)
        · exact Kq.of (Kb.refl c wc).drew
        refine wpAnyH_take (i := 0) (v := .pointer (some ⟨w.heap.size, 5, none⟩)) rfl (by kernel_rfl) (by kernel_rfl) (by kernel_rfl) (fun _ _ _ h => h) (Or.inl ⟨by kernel_rfl, fun w hSw => by first | (go_simp; done) | (dsimp only at hSw; obtain ⟨hS0⟩ := hSw; go_simp; done) | rfl⟩) (by assumption) ?_
        simp only [Act.put, List.getElem_toArray, List.getElem_cons_succ, List.getElem_cons_zero, List.setIfInBounds_toArray, List.set_cons_succ, List.set_cons_zero]
        refine wpAnyH_take (i := 1) (v := .int .i64 t9) rfl (by kernel_rfl) (by kernel_rfl) (by kernel_rfl) (fun _ _ _ h => h) (Or.inl ⟨by kernel_rfl, fun w hSw => by first | (have z0 := HF5.out _ hSw; go_simp; done) | (go_simp; done) | (dsimp only at hSw; obtain ⟨hS0⟩ := hSw; go_simp; done) | rfl⟩) (by assumption) ?_
        simp only [Act.put, List.getElem_toArray, List.getElem_cons_succ, List.getElem_cons_zero, List.setIfInBounds_toArray, List.set_cons_succ, List.set_cons_zero]
        refine wpAnyH_take (i := 2) (v := .pointer (some ⟨c, 0, none⟩)) rfl (by kernel_rfl) (by kernel_rfl) (by kernel_rfl) (fun _ _ _ h => h) (Or.inl ⟨by kernel_rfl, fun w hSw => by first | (go_simp; done) | (dsimp only at hSw; obtain ⟨hS0⟩ := hSw; go_simp; done) | rfl⟩) (by assumption) ?_
        simp only [Act.put, List.getElem_toArray, List.getElem_cons_succ, List.getElem_cons_zero, List.setIfInBounds_toArray, List.set_cons_succ, List.set_cons_zero]
        refine wpAnyH_ready (rs := [3]) (by kernel_rfl) (by simp) ?_
        refine AllReadyH.cons rfl (fun K hK => ?_) AllReadyH.nil
        go_simp
        go_wp2_with (go_at_call 28; (with_reducible refine (below_any CD _).mono ?_); rintro e w8 ⟨⟨d, rfl, hd0, hd1⟩, C8, M8⟩; have K98 : Kb c wc w8 := Kb.trans (Kb.refl c wc).drew (Kb.moved M8); have W8 := h5.kb K98 C8 hcw hwx2; have y_2 : w8.cell? ⟨BW, 2, none⟩ = some (.int .i64 k2) := cell_at (Kb.at K98 hxc x) 2; have fy2 : w8.frozen? ⟨BW, 2, none⟩ = false := frozen_at (Kb.at K98 hxc x) 2)
        refine hK.out _ _ ?_ (fun hHeld2 => ?_)
        · first | exact hHeld | exact Kq.of K98 | exact (Kq.of K98).set _ _
        clear hK K hHeld
        have hHeld := hHeld2
        clear hHeld2
        refine wpAnyH_take (i := 4) (v := .int .i64 (IntKind.i64.wrap (t9 + d))) rfl (by kernel_rfl) (by kernel_rfl) (by kernel_rfl) (fun _ _ _ h => h) (Or.inl ⟨by kernel_rfl, fun w hSw => by first | (go_simp; done) | (dsimp only at hSw; obtain ⟨hS0⟩ := hSw; go_simp; done) | rfl⟩) (by assumption) ?_
        simp only [Act.put, List.getElem_toArray, List.getElem_cons_succ, List.getElem_cons_zero, List.setIfInBounds_toArray, List.set_cons_succ, List.set_cons_zero]
        refine wpAnyH_take (i := 5) (v := .pointer (some ⟨BW, 2, none⟩)) rfl (by kernel_rfl) (by kernel_rfl) (by kernel_rfl) (fun _ _ _ h => h) (Or.inl ⟨by kernel_rfl, fun w hSw => by first | (go_simp; done) | (dsimp only at hSw; obtain ⟨hS0⟩ := hSw; go_simp; done) | rfl⟩) (by assumption) ?_
        simp only [Act.put, List.getElem_toArray, List.getElem_cons_succ, List.getElem_cons_zero, List.setIfInBounds_toArray, List.set_cons_succ, List.set_cons_zero]
        refine wpAnyH_ready (rs := [6]) (by kernel_rfl) (by simp) ?_
        refine AllReadyH.cons rfl (fun K hK => ?_) AllReadyH.nil
        go_simp
        refine hK.out _ _ ?_ (fun hHeld2 => ?_)
        · first | exact hHeld | exact Kq.of K98 | exact (Kq.of K98).set _ _
        clear hK K hHeld
        have hHeld := hHeld2
        clear hHeld2
        refine wpAnyH_done (by kernel_rfl) ?_ _
        have WZ : WI W0 a n cap c w BW (.cells #[.slice a2 ls.length c2, .slice a3 n3 c3, .slice none 0 0, .slice none 0 0, .slice none 0 0, .int .i64 t9] 60) (.cells #[.int .i64 0, .int .i64 0, .int .i64 0, .string ⟨#[]⟩, .int .i64 0, .int .i64 0, .slice none 0 0] 26) (w8.setCell ⟨BW, 2, none⟩ (.int .i64 (IntKind.i64.wrap (t9 + d)))) := W8.set 2 _ (W8.s.set_num _ (by omega)) hcw hwx2 hW0
        clear hHeld HF5 CD K98 M8 C8
        go_wp2
        go_meet
        case rel => exact ⟨by first | trivial | rfl, WZ⟩
      · have hkb : decide (k0 = 3) = false := decide_eq_false hk
        have hkc : (k0 == 3) = false := by simp [hk]
        go_wp2
        go_meet
        case rel => exact ⟨by first | trivial | rfl, h5⟩
    case rest =>
      obtain ⟨-, h6⟩ := hcut
      clear x_0 x h5
      go_wp2_with fail
      refine (below_any h6.i _).mono ?_
      rintro e w20 ⟨⟨sv, rfl, -, -⟩, C20, M20⟩
      have h7 := h6.kb (Kb.moved M20) C20 hcw hwx2
      clear h6 C20 M20
      go_upto_block 2 with fail
      go_cut [6] from 7 (fun s6 wd => s6 = s6 ∧ WI W0 a n cap c w BW (.cells #[.slice a2 ls.length c2, .slice a3 n3 c3, .slice none 0 0, .slice none 0 0, .slice none 0 0, .int .i64 t9] 60) (.cells #[.int .i64 0, .int .i64 0, .int .i64 0, .string ⟨#[]⟩, .int .i64 0, .int .i64 0, .slice none 0 0] 26) wd)
      case first =>
        by_cases g0 : sv = 0
        · have gb0 : (sv == 0) = true := by simp [g0]
          have gd0 : decide (sv = 0) = true := decide_eq_true g0
          have C21 := h7.i.alloc (.cells #[.int .i64 (-1), .int .i64 4] 3)
          have h8 := h7.kb ((Kb.refl c w20).alloc (.cells #[.int .i64 (-1), .int .i64 4] 3)) C21 hcw hwx2
          have RW : Cur.RowOf (fun _ => True) (w20.alloc (.cells #[.int .i64 (-1), .int .i64 4] 3)) w20.heap.size 2 := rowOf_new (fun _ => True) w20 [-1, 4] 3 (fun z _ => trivial)
          have hc1 : w20.heap.size ≠ c := by have := h7.i.lt; omega
          have HPK : Hid (∀ _ : Unit, _) := fun _ => pickInt_any C21 (fun _ => True) w20.heap.size 2 2 hc1 (by omega) (by omega) RW
          clear h7 RW C21 hc1
          go_wp2_with fail
          refine (HPK.out ()).mono ?_
          rintro e w21 ⟨⟨kk, rfl, -⟩, C21, M21⟩
          have h9 := h8.kb (Kb.moved M21) C21 hcw hwx2
          clear HPK h8 M21 C21
          obtain ⟨⟨k0, k1, k2, k4, k5⟩, s, rs, ra, rc, x, -, -, -⟩ := id h9.s
          have x_0 : w21.cell? ⟨BW, 0, none⟩ = some (.int .i64 k0) := cell_at x 0
          have f_0 : w21.frozen? ⟨BW, 0, none⟩ = false := frozen_at x 0
          have h10 := h9.set 0 (.int .i64 kk) (h9.s.set_num kk (by omega)) hcw hwx2 hW0
          clear h9 x
          go_wp2
          go_meet
          case rel => exact ⟨by first | trivial | rfl, h10⟩
        have gb0 : (sv == 0) = false := by simp [g0]
        have gd0 : decide (sv = 0) = false := decide_eq_false g0
        by_cases g1 : sv = 1
        · have gb1 : (sv == 1) = true := by simp [g1]
          have gd1 : decide (sv = 1) = true := decide_eq_true g1
          have C21 := h7.i.alloc (.cells #[.int .i64 0, .int .i64 (-3)] 3)
          have h8 := h7.kb ((Kb.refl c w20).alloc (.cells #[.int .i64 0, .int .i64 (-3)] 3)) C21 hcw hwx2
          have RW : Cur.RowOf (fun _ => True) (w20.alloc (.cells #[.int .i64 0, .int .i64 (-3)] 3)) w20.heap.size 2 := rowOf_new (fun _ => True) w20 [0, -3] 3 (fun z _ => trivial)
          have hc1 : w20.heap.size ≠ c := by have := h7.i.lt; omega
          have HPK : Hid (∀ _ : Unit, _) := fun _ => pickInt_any C21 (fun _ => True) w20.heap.size 2 2 hc1 (by omega) (by omega) RW
          clear h7 RW C21 hc1
          go_wp2_with fail
          refine (HPK.out ()).mono ?_
          rintro e w21 ⟨⟨kk, rfl, -⟩, C21, M21⟩
          have h9 := h8.kb (Kb.moved M21) C21 hcw hwx2
          clear HPK h8 M21 C21
          obtain ⟨⟨k0, k1, k2, k4, k5⟩, s, rs, ra, rc, x, -, -, -⟩ := id h9.s
          have x_1 : w21.cell? ⟨BW, 1, none⟩ = some (.int .i64 k1) := cell_at x 1
          have f_1 : w21.frozen? ⟨BW, 1, none⟩ = false := frozen_at x 1
          have h10 := h9.set 1 (.int .i64 kk) (h9.s.set_num kk (by omega)) hcw hwx2 hW0
          clear h9 x
          go_wp2
          go_meet
          case rel => exact ⟨by first | trivial | rfl, h10⟩
        have gb1 : (sv == 1) = false := by simp [g1]
        have gd1 : decide (sv = 1) = false := decide_eq_false g1
        by_cases g2 : sv = 2
        · have gb2 : (sv == 2) = true := by simp [g2]
          have gd2 : decide (sv = 2) = true := decide_eq_true g2
          obtain ⟨⟨k0, k1, k2, k4, k5⟩, s, rs, ra, rc, x, -, -, -⟩ := id h7.s
          have x_3 : w20.cell? ⟨BW, 3, none⟩ = some (.string s) := cell_at x 3
          have f_3 : w20.frozen? ⟨BW, 3, none⟩ = false := frozen_at x 3
          have h10 := h7.set 3 (.string ⟨#[97, 10, 98]⟩) (h7.s.set_name _ (by decide)) hcw hwx2 hW0
          clear h7 x
          go_wp2
          go_meet
          case rel => exact ⟨by first | trivial | rfl, h10⟩
        have gb2 : (sv == 2) = false := by simp [g2]
        have gd2 : decide (sv = 2) = false := decide_eq_false g2
        by_cases g3 : sv = 3
        · have gb3 : (sv == 3) = true := by simp [g3]
          have gd3 : decide (sv = 3) = true := decide_eq_true g3
          obtain ⟨⟨k0, k1, k2, k4, k5⟩, s, rs, ra, rc, x, -, -, -⟩ := id h7.s
          have x_4 : w20.cell? ⟨BW, 4, none⟩ = some (.int .i64 k4) := cell_at x 4
          have f_4 : w20.frozen? ⟨BW, 4, none⟩ = false := frozen_at x 4
          have h10 := h7.set 4 (.int .i64 3) (h7.s.set_num 3 (by omega)) hcw hwx2 hW0
          clear h7 x
          go_wp2
          go_meet
          case rel => exact ⟨by first | trivial | rfl, h10⟩
        have gb3 : (sv == 3) = false := by simp [g3]
        have gd3 : decide (sv = 3) = false := decide_eq_false g3
        by_cases g4 : sv = 4
        · have gb4 : (sv == 4) = true := by simp [g4]
          have gd4 : decide (sv = 4) = true := decide_eq_true g4
          have h8 := h7.kb ((Kb.refl c w20).alloc (.cells #[] 43)) (h7.i.alloc (.cells #[] 43)) hcw hwx2
          obtain ⟨⟨k0, k1, k2, k4, k5⟩, s, rs, ra, rc, x, -, -, -⟩ := id h8.s
          have x_6 : (w20.alloc (.cells #[] 43)).cell? ⟨BW, 6, none⟩ = some (.slice ra rs.length rc) := cell_at x 6
          have f_6 : (w20.alloc (.cells #[] 43)).frozen? ⟨BW, 6, none⟩ = false := frozen_at x 6
          have h10 := h8.set 6 (.slice (some ⟨w20.heap.size, 0, none⟩) 0 0) (h8.s.set_rides [] (some ⟨w20.heap.size, 0, none⟩) 0 (by simp) (own_empty w20 w.heap.size _ _ h7.k.size)) hcw hwx2 hW0
          clear h8 h7 x
          go_wp2
          go_meet
          case rel => exact ⟨by first | trivial | rfl, h10⟩
        have gb4 : (sv == 4) = false := by simp [g4]
        have gd4 : decide (sv = 4) = false := decide_eq_false g4
        go_wp2
        go_meet
        case rel => exact ⟨by first | trivial | rfl, h7⟩
      case rest =>
        obtain ⟨-, hz⟩ := hcut
        clear h7
        obtain ⟨⟨k0, k1, k2, k4, k5⟩, s, rs, ra, rc, x, hs, hr, R⟩ := id hz.s
        have x_0 : wc.cell? ⟨BW, 0, none⟩ = some (.int .i64 k0) := cell_at x 0
        have x_1 : wc.cell? ⟨BW, 1, none⟩ = some (.int .i64 k1) := cell_at x 1
        have x_2 : wc.cell? ⟨BW, 2, none⟩ = some (.int .i64 k2) := cell_at x 2
        have x_3 : wc.cell? ⟨BW, 3, none⟩ = some (.string s) := cell_at x 3
        have x_4 : wc.cell? ⟨BW, 4, none⟩ = some (.int .i64 k4) := cell_at x 4
        have x_5 : wc.cell? ⟨BW, 5, none⟩ = some (.int .i64 k5) := cell_at x 5
        have x_6 : wc.cell? ⟨BW, 6, none⟩ = some (.slice ra rs.length rc) := cell_at x 6
        have HZ : Hid (_ ∧ _ ∧ _) := put7 hz hcw hW0 R #[.int .i64 k0, .int .i64 k1, .int .i64 k2, .string s, .int .i64 k4, .int .i64 k5, .slice ra rs.length rc]
        have hR := hz.r
        have hR9 : (wc.setRow (w.heap.size + 1) #[.int .i64 k0, .int .i64 k1, .int .i64 k2, .string s, .int .i64 k4, .int .i64 k5, .slice ra rs.length rc]).heap[w.heap.size + 1]? = some (.cells #[.int .i64 k0, .int .i64 k1, .int .i64 k2, .string s, .int .i64 k4, .int .i64 k5, .slice ra rs.length rc] 26 (0, 0)) := setRow_heap wc _ _ #[.int .i64 k0, .int .i64 k1, .int .i64 k2, .string s, .int .i64 k4, .int .i64 k5, .slice ra rs.length rc] _ _ hR
        have z_0 : (wc.setRow (w.heap.size + 1) #[.int .i64 k0, .int .i64 k1, .int .i64 k2, .string s, .int .i64 k4, .int .i64 k5, .slice ra rs.length rc]).cell? ⟨w.heap.size + 1, 0, none⟩ = some (.int .i64 k0) := cell_at hR9 0
        have z_1 : (wc.setRow (w.heap.size + 1) #[.int .i64 k0, .int .i64 k1, .int .i64 k2, .string s, .int .i64 k4, .int .i64 k5, .slice ra rs.length rc]).cell? ⟨w.heap.size + 1, 1, none⟩ = some (.int .i64 k1) := cell_at hR9 1
        have z_2 : (wc.setRow (w.heap.size + 1) #[.int .i64 k0, .int .i64 k1, .int .i64 k2, .string s, .int .i64 k4, .int .i64 k5, .slice ra rs.length rc]).cell? ⟨w.heap.size + 1, 2, none⟩ = some (.int .i64 k2) := cell_at hR9 2
        have z_3 : (wc.setRow (w.heap.size + 1) #[.int .i64 k0, .int .i64 k1, .int .i64 k2, .string s, .int .i64 k4, .int .i64 k5, .slice ra rs.length rc]).cell? ⟨w.heap.size + 1, 3, none⟩ = some (.string s) := cell_at hR9 3
        have z_4 : (wc.setRow (w.heap.size + 1) #[.int .i64 k0, .int .i64 k1, .int .i64 k2, .string s, .int .i64 k4, .int .i64 k5, .slice ra rs.length rc]).cell? ⟨w.heap.size + 1, 4, none⟩ = some (.int .i64 k4) := cell_at hR9 4
        have z_5 : (wc.setRow (w.heap.size + 1) #[.int .i64 k0, .int .i64 k1, .int .i64 k2, .string s, .int .i64 k4, .int .i64 k5, .slice ra rs.length rc]).cell? ⟨w.heap.size + 1, 5, none⟩ = some (.int .i64 k5) := cell_at hR9 5
        have z_6 : (wc.setRow (w.heap.size + 1) #[.int .i64 k0, .int .i64 k1, .int .i64 k2, .string s, .int .i64 k4, .int .i64 k5, .slice ra rs.length rc]).cell? ⟨w.heap.size + 1, 6, none⟩ = some (.slice ra rs.length rc) := cell_at hR9 6
        clear x R hz
        go_wp2_with (refine wpList_store_row rfl 26 _ _ rfl (w.heap.size + 1) #[.int .i64 k0, .int .i64 k1, .int .i64 k2, .string s, .int .i64 k4, .int .i64 k5, .slice ra rs.length rc] (by kernel_rfl) (by kernel_rfl) 26 #[.int .i64 0, .int .i64 0, .int .i64 0, .string ⟨#[]⟩, .int .i64 0, .int .i64 0, .slice none 0 0] hR (by kernel_rfl) (by kernel_rfl) (by kernel_rfl) ?_; generalize wc.setRow (w.heap.size + 1) #[.int .i64 k0, .int .i64 k1, .int .i64 k2, .string s, .int .i64 k4, .int .i64 k5, .slice ra rs.length rc] = wz at *; clear hR; apply_assumption; go_wp; refine bodyPost_ret (v := wnV ⟨k0, k1, k2, k4, k5⟩ s ra rs.length rc) (results_cell_row Tryd.results26 _ _ (w.heap.size + 1) 26 #[.int .i64 k0, .int .i64 k1, .int .i64 k2, .string s, .int .i64 k4, .int .i64 k5, .slice ra rs.length rc] (0, 0) _ (by kernel_rfl) hR9 Tryd.underlying26 rfl (by kernel_rfl)) rfl ?_; exact ⟨⟨⟨k0, k1, k2, k4, k5⟩, s, rs, ra, rc, rfl, hs, hr, HZ.out.1⟩, HZ.out.2.1, HZ.out.2.2⟩)

end Rd
end Go.Proofs.YtaplbjoghkipdaaDoor

/- The draw of a text with a byte changed, cut or put in: some text, hardly longer. -/
namespace Go.Proofs.YtaplbjoghkipdaaDoor
namespace Cur
open Go.ChangeShapes Go.WideShapes Go.ChangeAt Go.RowKit
set_option linter.unusedSimpArgs false
set_option linter.unusedVariables false

theorem size_join (a b c : ByteArray) : (a ++ b ++ c).size = a.size + b.size + c.size := by rw [ByteArray.size_append, ByteArray.size_append]

set_option maxRecDepth 100000 in
set_option maxHeartbeats 4000000 in
theorem spoil_any {W0 : World} {a : Option Addr} {n cap c : Nat} {w : World} (C : Is W0 a n cap c w) (s : ByteArray) (hs : s.size ≤ 1000000) :
    Calls Tryd.prog 23 #[.pointer (some ⟨c, 0, none⟩), .string s] w fun e w' => (∃ r : ByteArray, e = .returned (.string r) ∧ r.size ≤ s.size + 1) ∧ Is W0 a n cap c w' ∧ Kb c w w' := by
  have HB1 : Hid (∀ _ : Unit, _) := fun _ => below_any C ((s.size : Int) + 1)
  go_enter Tryd.func23, Tryd.ntmps23
  go_wp2_with fail
  refine (HB1.out ()).mono ?_
  rintro e w1 ⟨⟨x, rfl, hx0, hx1⟩, C1, M1⟩
  have hx2 := hx1 (by omega)
  obtain ⟨i, rfl⟩ : ∃ i : Nat, x = i := ⟨x.toNat, by omega⟩
  have K1 := Kb.moved M1
  clear HB1 hx1 hx0 M1
  go_wp2_with fail
  refine (below_any C1 8).mono ?_
  rintro e w2 ⟨⟨y, rfl, hy0, hy1⟩, C2, M2⟩
  have hy2 := hy1 (by omega)
  have K2 := K1.trans (Kb.moved M2)
  have hi0 : (0 : Int) ≤ (i : Int) := by omega
  have hi1 : (i : Int) ≤ (s.size : Int) := by omega
  clear C1 K1 M2 hy1
  by_cases y0 : y = 0
  · subst y0
    go_wp2
    go_ret
    exact ⟨⟨_, rfl, by rw [ByteArray.size_extract]; omega⟩, C2, K2⟩
  · by_cases y1 : y = 1
    · subst y1
      have CP : Is W0 a n cap c (w2.alloc (.cells #[.string ⟨#[32]⟩, .string ⟨#[48]⟩, .string ⟨#[10]⟩, .string ⟨#[120]⟩] 9)).drew := (C2.alloc (.cells #[.string ⟨#[32]⟩, .string ⟨#[48]⟩, .string ⟨#[10]⟩, .string ⟨#[120]⟩] 9)).drewN 1
      have RW : RowOfS (fun z => z.size = 1) (w2.alloc (.cells #[.string ⟨#[32]⟩, .string ⟨#[48]⟩, .string ⟨#[10]⟩, .string ⟨#[120]⟩] 9)).drew w2.heap.size 4 := rowOfS_new (fun z => z.size = 1) w2 [⟨#[32]⟩, ⟨#[48]⟩, ⟨#[10]⟩, ⟨#[120]⟩] 9 (by
        intro z hz
        simp at hz
        rcases hz with rfl | rfl | rfl | rfl <;> rfl)
      have hwc : w2.heap.size ≠ c := by have := C2.lt; omega
      have HPK : Hid (∀ _ : Unit, _) := fun _ => pick_any CP (fun z => z.size = 1) w2.heap.size 4 4 hwc (by omega) (by omega) RW
      clear RW CP
      go_wp2
      go_region_with (go_at_call 30; (with_reducible refine (HPK.out ()).mono ?_); rintro e x5 ⟨⟨d, rfl, hd⟩, C5, M5⟩; have KD : Kb c w x5 := (K2.alloc _).drew.trans (Kb.moved M5); have hq1 : ¬ 9223372036854775807 < (s.extract 0 i).size + d.size := (by rw [ByteArray.size_extract]; omega); have hq2 : ¬ 9223372036854775807 < (s.extract 0 i).size + d.size + (s.extract i s.size).size := (by rw [ByteArray.size_extract, ByteArray.size_extract]; omega))
      all_goals
        go_wp2
        go_ret
        exact ⟨⟨_, rfl, by rw [size_join, ByteArray.size_extract, ByteArray.size_extract]; omega⟩, C5, KD⟩
    · by_cases y3 : y = 2
      · subst y3
        by_cases hlt : i < s.size
        · have hlI : (i : Int) < (s.size : Int) := by omega
          have hi2 : (i : Int) + 1 ≤ (s.size : Int) := by omega
          have hi3 : (0 : Int) ≤ (i : Int) + 1 := by omega
          have hi4 : ((i : Int) + 1).toNat = i + 1 := by omega
          have hwr : IntKind.i64.wrap ((i : Int) + 1) = (i : Int) + 1 := by rw [IntKind.wrap_i64]; omega
          have hi5 : decide ((i : Int) + 1 ≤ (s.size : Int)) = true := decide_eq_true hi2
          have hi6 : ¬ (s.size : Int) < (i : Int) + 1 := by omega
          have hsl : ∀ W, (Instr.slice 9 (.string s) (some (.int .i64 ((i : Int) + 1))) none none).run Tryd.prog W = .ok (.string (s.extract (i + 1) s.size)) W := fun W => by
            simp [go_sem, Tryd.underlying9, hi2, hi3, hi4]
            try omega
          have HBK : Hid (∀ wx, Is W0 a n cap c wx → _) := fun wx hC => bytes_kb hC 1 (by omega)
          rw [show ((1 : Nat) : Int) = 1 from rfl] at HBK
          go_wp2
          go_region_with (go_at_call 36; (with_reducible refine (HBK.out _ ?_).mono ?_); (first | exact C2 | exact C2.drewN 1); rintro e x5 ⟨⟨d, rfl, hd⟩, C5, M5⟩; have KD : Kb c w x5 := (by first | exact K2.trans M5 | exact K2.drew.trans M5); have hq1 : ¬ 9223372036854775807 < (s.extract 0 i).size + d.size := (by rw [ByteArray.size_extract]; omega); have hq2 : ¬ 9223372036854775807 < (s.extract 0 i).size + d.size + (s.extract (i + 1) s.size).size := (by rw [ByteArray.size_extract, ByteArray.size_extract]; omega))
          all_goals
            go_wp2
            go_ret
            exact ⟨⟨_, rfl, by rw [size_join, ByteArray.size_extract, ByteArray.size_extract]; omega⟩, C5, KD⟩
        · have hlI : ¬ (i : Int) < (s.size : Int) := by omega
          go_wp2
          go_ret
          exact ⟨⟨s, rfl, by omega⟩, C2, K2⟩
      · have z0 : (y == 0) = false := beq_eq_false_iff_ne.2 y0
        have z1 : (y == 1) = false := beq_eq_false_iff_ne.2 y1
        have z2 : (y == 2) = false := beq_eq_false_iff_ne.2 y3
        go_wp2
        go_ret
        exact ⟨⟨s, rfl, by omega⟩, C2, K2⟩

end Cur
end Go.Proofs.YtaplbjoghkipdaaDoor

/- Lines of wants: the program's WantLine. -/
namespace Go.Proofs.YtaplbjoghkipdaaDoor
namespace Wn
open Go.ChangeShapes Go.WideShapes Go.ChangeAt Go.RowKit
open Pk (new_below join_below cell_at heap_new heap_old frozen_at lt_of kept info_of own_ge own_below own_form own_at)
open Num (decS Tens)
open Tk (inB nameB ws Nums RowZ decS_size ba_assoc ba_size ws_take)
open Rd (Ri Rides)
set_option linter.unusedSimpArgs false
set_option linter.unusedVariables false

/-- A row of numbers of one's own, as cells. -/
theorem own_rowz {w : World} {B : Nat} {v : Value} {zs : List Int} (h : w.ownsRow B 3 1 v zs.length (zcells zs)) (h0 : 0 < zs.length) : ∃ g cap, v = .slice (some ⟨g, 0, none⟩) zs.length cap ∧ B ≤ g ∧ RowZ w g zs := by
  obtain ⟨g, cap, hv, hB, hg, -⟩ := own_at h 0 h0
  subst hv
  refine ⟨g, cap, rfl, hB, hg, fun i hi => ?_⟩
  obtain ⟨g', cap', e, -, -, u, hu, hc⟩ := own_at h i hi
  simp only [Value.slice.injEq, Option.some.injEq, Addr.mk.injEq] at e
  rw [zcells_at zs i hi] at hu
  rw [e.1.1, hc, ← hu]

theorem dl_size (zs : List Int) : ∀ k, k ≤ zs.length → Nums (zs.take k) → (dl (zs.take k)).size ≤ 21 * k
  | 0, _, _ => by show 0 ≤ _; omega
  | k + 1, h, hn => by
    have h1 : Nums (zs.take k) := fun z hz => hn z (by rw [List.take_succ_eq_append_getElem (by omega)]; exact List.mem_append_left _ hz)
    have h2 := hn zs[k] (by rw [List.take_succ_eq_append_getElem (by omega)]; exact List.mem_append_right _ (List.mem_singleton.2 rfl))
    have h3 := decS_size zs[k] h2.1 h2.2
    have h4 : (⟨#[32]⟩ : ByteArray).size = 1 := rfl
    have h5 := dl_size zs k (by omega) h1
    rw [dl_take zs k (by omega), ba_size, ba_size, h4]
    omega

set_option maxRecDepth 100000 in
set_option maxHeartbeats 4000000 in
theorem implWantLine_val (h : Wh) (s : ByteArray) (a : Option Addr) (rs : List Ri) (cap : Nat) (w : World) (hs : s.size ≤ maxLen) (hz : rs.length ≤ 1048576) (I : Rides w a rs) (T : Tens w) :
    Calls Tryd.prog 6 #[wnV h s a rs.length cap] w fun e w' => e = .returned (.tuple #[.string (wlS h s rs), .bool (wlB h s rs)]) ∧ Below w.heap.size w w' := by
  have HB : Hid (wlB h s rs = (okZ (wz h rs) && decide (rs.length ≤ 6) && nameB s)) := rfl
  have HS : Hid (wlS h s rs = if wlB h s rs = true then dl (wz h rs) ++ s else ⟨#[]⟩) := rfl
  have m0 := heap_new w (wnB h s a rs.length cap 26)
  have N0 := new_below w (wnB h s a rs.length cap 26)
  have c3 : (w.alloc (wnB h s a rs.length cap 26)).cell? ⟨w.heap.size, 3, none⟩ = some (.string s) := cell_at m0 3
  have c6 : (w.alloc (wnB h s a rs.length cap 26)).cell? ⟨w.heap.size, 6, none⟩ = some (.slice a rs.length cap) := cell_at m0 6
  have HNV : Hid (∀ W, _) := fun W => Tk.nameOk_val s W hs
  by_cases h6 : rs.length ≤ 6
  · by_cases hn : nameB s = true
    · have HY : Hid (okZ (wz h rs) = true → wlB h s rs = true ∧ wlS h s rs = dl (wz h rs) ++ s) := fun ho => by
        have e : wlB h s rs = true := by rw [HB.out, ho, hn, decide_eq_true h6]; rfl
        exact ⟨e, by rw [HS.out, if_pos e]⟩
      have HN : Hid (okZ (wz h rs) = false → wlB h s rs = false ∧ wlS h s rs = ⟨#[]⟩) := fun ho => by
        have e : wlB h s rs = false := by rw [HB.out, ho]; rfl
        exact ⟨e, by rw [HS.out, if_neg (by rw [e]; simp)]⟩
      have HV : Hid (∀ W, Rides W a rs → _) := fun W i => numbersOfWant_val h s a rs cap W hz i
      have HZL : Hid ((wz h rs).length = 6 + 4 * rs.length) := wz_length h rs
      clear HB HS
      rw [hn] at HNV
      generalize wlS h s rs = R at *
      generalize wlB h s rs = B at *
      generalize wz h rs = Z at *
      have h6I : ¬ (6 : Int) < (rs.length : Int) := by omega
      go_enter Tryd.func6, Tryd.ntmps6
      go_wp2_with fail
      refine (HNV.out _).mono ?_
      rintro e w1 ⟨rfl, hw1⟩
      have hw2 := hw1.symm
      subst hw2
      go_wp2_with fail
      refine (HV.out _ (I.on N0)).mono ?_
      rintro e w2 ⟨⟨v, rfl, O2⟩, L2⟩
      have K2 := join_below N0 L2
      have m2 := kept L2 (lt_of m0) m0
      obtain ⟨g, gc, rfl, hgB, RZ⟩ := own_rowz O2 (by rw [HZL.out]; omega)
      have T2 := T.on K2
      clear hw1 m0 N0 c3 c6 HNV HV O2 L2 T I
      have hZ30 : Z.length ≤ 30 := by rw [HZL.out]; omega
      have hZI : (Z.length : Int) ≤ 30 := by omega
      clear HZL
      go_wp2
      go_loopw [4, 20] (fun t i wr => ∃ (k : Nat) (D : ByteArray), k ≤ Z.length ∧ i = .int .i64 k ∧ t = .string D ∧ D.size ≤ 21 * k ∧ Hid (D = dl (Z.take k)) ∧ Hid (okZ Z = okF Z k) ∧ Hid (Below w2.heap.size w2 wr)) (fun _ i _ => Z.length - (intOf i).toNat)
      case atStart => exact ⟨0, ⟨#[]⟩, by omega, rfl, rfl, by show 0 ≤ _; omega, rfl, rfl, Below.refl _ _⟩
      case round =>
        obtain ⟨k, D, hk, rfl, rfl, hD, HD, HO, L⟩ := hrel
        have K3 := join_below K2 L.out
        by_cases hlt : k < Z.length
        · have hc := (RZ.on L.out).2 k hlt
          have hkI : (k : Int) < (Z.length : Int) := by omega
          have hk0 : (0 : Int) ≤ (k : Int) := by omega
          have HST : Hid (_) := okF_step Z k hlt
          have HDT : Hid (_) := dl_take Z k hlt
          have HBT : Hid (∀ W, _) := fun W => Tk.between_val Z[k] 0 999999999 W
          obtain ⟨bt, hbt⟩ : ∃ bt, inB Z[k] 0 999999999 = bt := ⟨_, rfl⟩
          rw [hbt] at HBT
          cases bt
          · have hno : okZ Z = false := by rw [HO.out, HST.out, hbt]; rfl
            obtain ⟨rfl, rfl⟩ := HN.out hno
            clear HST HDT hbt
            generalize Z[k] = z at *
            go_wp2_with fail
            refine (HBT.out _).mono ?_
            rintro e w3 ⟨rfl, hw3⟩
            have hw4 := hw3.symm
            subst hw4
            go_wp2
            go_ret2
            exact ⟨rfl, K3⟩
          · have hzz := Tk.inB_yes hbt
            have hds := decS_size Z[k] hzz.1 hzz.2
            have HDV : Hid (∀ W, Tens W → _) := fun W t => Num.implDecText_any Z[k] W (by omega) (by omega) t
            have HO2 : Hid (okZ Z = okF Z (k + 1)) := by show _ = _; rw [HO.out, HST.out, hbt]; rfl
            rw [← HD.out] at HDT
            have T3 := T2.on L.out
            clear HST hbt HD
            generalize decS Z[k] = d at *
            generalize Z[k] = z at *
            have hd1 : (d ++ ⟨#[32]⟩ : ByteArray).size = d.size + 1 := by rw [ba_size]; rfl
            have HSZ : Hid ((D ++ (d ++ ⟨#[32]⟩) : ByteArray).size ≤ 21 * (k + 1)) := by show _ ≤ _; rw [ba_size, hd1]; omega
            have b1 : ¬ (d.size + (⟨#[32]⟩ : ByteArray).size > 9223372036854775807) := by have h4 : (⟨#[32]⟩ : ByteArray).size = 1 := rfl; omega
            have b2 : ¬ (D.size + (d ++ ⟨#[32]⟩ : ByteArray).size > 9223372036854775807) := by rw [hd1]; omega
            clear hd1
            go_wp2_with fail
            refine (HBT.out _).mono ?_
            rintro e w3 ⟨rfl, hw3⟩
            have hw4 := hw3.symm
            subst hw4
            go_wp2_with fail
            refine (HDV.out _ T3).mono ?_
            rintro e w4 ⟨rfl, L4⟩
            have L5 := join_below L.out L4
            go_wp2
            go_roundw
            case rel => exact ⟨k + 1, D ++ (d ++ ⟨#[32]⟩), by omega, by go_num, rfl, HSZ.out, by show _ = _; rw [HDT.out], HO2, L5⟩
            case measure => simp [intOf]; omega
        · obtain rfl : k = Z.length := by omega
          have hyes : okZ Z = true := by rw [HO.out]; exact okF_end Z _ hlt
          obtain ⟨rfl, rfl⟩ := HY.out hyes
          have hDZ : D = dl Z := by rw [HD.out, List.take_length]
          subst hDZ
          have m3 := kept L.out (lt_of m2) m2
          have c3 : wr.cell? ⟨w.heap.size, 3, none⟩ = some (.string s) := cell_at m3 3
          have hkI : ¬ (Z.length : Int) < (Z.length : Int) := by omega
          have hn40 : s.size ≤ 40 := by
            unfold Tk.nameB at hn
            simp only [Bool.and_eq_true, decide_eq_true_eq] at hn
            exact hn.2
          have b3 : ¬ ((dl Z).size + s.size > 9223372036854775807) := by omega
          go_wp2
          go_ret2
          exact ⟨rfl, K3⟩
    · have e : wlB h s rs = false := by rw [HB.out]; simp [hn]
      have e2 : wlS h s rs = ⟨#[]⟩ := by rw [HS.out, if_neg (by rw [e]; simp)]
      rw [e, e2]
      rw [show nameB s = false from by simpa using hn] at HNV
      have h6I : ¬ (6 : Int) < (rs.length : Int) := by omega
      go_enter Tryd.func6, Tryd.ntmps6
      go_wp2_with fail
      refine (HNV.out _).mono ?_
      rintro e w1 ⟨rfl, hw1⟩
      have hw2 := hw1.symm
      subst hw2
      go_wp2
      go_ret2
      exact ⟨rfl, N0⟩
  · have e : wlB h s rs = false := by rw [HB.out]; simp [h6]
    have e2 : wlS h s rs = ⟨#[]⟩ := by rw [HS.out, if_neg (by rw [e]; simp)]
    rw [e, e2]
    have h6I : (6 : Int) < (rs.length : Int) := by omega
    go_enter Tryd.func6, Tryd.ntmps6
    go_wp2
    go_ret2
    exact ⟨rfl, N0⟩

end Wn
end Go.Proofs.YtaplbjoghkipdaaDoor

/- Lines of wants: the model's WantLine. -/
namespace Go.Proofs.YtaplbjoghkipdaaDoor
namespace Wn
open Go.ChangeShapes Go.WideShapes Go.ChangeAt Go.RowKit
open Pk (new_below join_below cell_at heap_new heap_old frozen_at lt_of kept info_of own_ge own_below own_form own_at)
open Num (decS Tens)
open Tk (inB nameB ws Nums RowZ decS_size ba_assoc ba_size ws_take)
open Rd (Ri Rides)
set_option linter.unusedSimpArgs false
set_option linter.unusedVariables false

theorem l10Num_val (x : Int) (w : World) :
    Calls Tryd.prog 18 #[.int .i64 x] w fun e w' => e = .returned (.bool (inB x 0 999999999)) ∧ w' = w := by
  have HI : Hid (∀ W, _) := fun W => Tk.in_val x 0 999999999 W
  generalize inB x 0 999999999 = b at *
  go_enter Tryd.func18, Tryd.ntmps18
  go_wp2_with fail
  refine (HI.out _).mono ?_
  rintro e w1 ⟨rfl, rfl⟩
  go_wp2
  go_ret
  exact ⟨rfl, rfl⟩

/-- The words of numbers without the first blank, and a blank behind. -/
theorem ws_tail (zs : List Int) (h : 0 < zs.length) : 1 ≤ (ws zs).size ∧ (ws zs).extract 1 (ws zs).size ++ ⟨#[32]⟩ = dl zs := by
  have e := ws_dl' zs
  have e1 : (⟨#[32]⟩ : ByteArray).size = 1 := rfl
  have hsz : (ws zs).size + 1 = 1 + (dl zs).size := by
    have := congrArg ByteArray.size e
    rwa [ba_size, ba_size, e1] at this
  have h1 : 1 ≤ (ws zs).size := by
    obtain ⟨z, zs', rfl⟩ : ∃ z zs', zs = z :: zs' := by cases zs with | nil => simp at h | cons z zs' => exact ⟨z, zs', rfl⟩
    have h2 := ws_take (z :: zs') 0 (by simp)
    have h3 : dl (z :: zs') = dl ((z :: zs').take (z :: zs').length) := by rw [List.take_length]
    have h4 : ∀ k, k ≤ (z :: zs').length → 0 < k → 1 ≤ (dl ((z :: zs').take k)).size := by
      intro k hk h0
      obtain ⟨k', rfl⟩ : ∃ k', k = k' + 1 := ⟨k - 1, by omega⟩
      rw [dl_take _ k' (by omega), ba_size, ba_size, e1]
      omega
    have h5 := h4 _ (Nat.le_refl _) (by simp)
    rw [← h3] at h5
    omega
  refine ⟨h1, ?_⟩
  have h2 : (ws zs ++ ⟨#[32]⟩).extract 1 ((ws zs).size + 1) = dl zs := by
    rw [e]
    exact ByteArray.extract_append_eq_right rfl (by rw [e1]; omega)
  rw [← h2]
  apply Go.WideShapes.bytes_inj
  rw [ByteArray.data_append, ByteArray.data_extract, ByteArray.data_extract, ByteArray.data_append]
  have hd : (ws zs).data.size = (ws zs).size := rfl
  rw [Array.toList_append, Array.toList_extract, Array.toList_extract, Array.toList_append, List.extract_eq_take_drop, List.extract_eq_take_drop]
  rw [List.drop_append_of_le_length (by rw [Array.length_toList, hd]; exact h1)]
  rw [List.take_of_length_le (by rw [List.length_drop, Array.length_toList, hd]; omega), List.take_of_length_le (by rw [List.length_append, List.length_drop, Array.length_toList, hd]; simp; omega)]

set_option maxRecDepth 100000 in
set_option maxHeartbeats 4000000 in
theorem specWantLine_val (h : Wh) (s : ByteArray) (a : Option Addr) (rs : List Ri) (cap : Nat) (w : World) (hs : s.size ≤ maxLen) (hz : rs.length ≤ 1048576) (I : Rides w a rs) :
    Calls Tryd.prog 7 #[wnV h s a rs.length cap] w fun e w' => e = .returned (.tuple #[.string (wlS h s rs), .bool (wlB h s rs)]) ∧ Below w.heap.size w w' := by
  obtain ⟨i0, hi, hz0, hz1, hz2⟩ := info_of Pk.info_int
  have HB : Hid (wlB h s rs = (okZ (wz h rs) && decide (rs.length ≤ 6) && nameB s)) := rfl
  have HS : Hid (wlS h s rs = if wlB h s rs = true then dl (wz h rs) ++ s else ⟨#[]⟩) := rfl
  have HY : Hid (okZ (wz h rs) = true → rs.length ≤ 6 → nameB s = true → wlB h s rs = true ∧ wlS h s rs = dl (wz h rs) ++ s) := fun ho h6 hn => by
    have e : wlB h s rs = true := by rw [HB.out, ho, hn, decide_eq_true h6]; rfl
    exact ⟨e, by rw [HS.out, if_pos e]⟩
  have HN : Hid (okZ (wz h rs) = false ∨ ¬ rs.length ≤ 6 ∨ nameB s = false → wlB h s rs = false ∧ wlS h s rs = ⟨#[]⟩) := fun ho => by
    have e : wlB h s rs = false := by
      rw [HB.out]
      rcases ho with ho | ho | ho
      · rw [ho]; rfl
      · rw [decide_eq_false ho]; simp
      · rw [ho]; simp
    exact ⟨e, by rw [HS.out, if_neg (by rw [e]; simp)]⟩
  have m0 := heap_new w (wnB h s a rs.length cap 26)
  have N0 := new_below w (wnB h s a rs.length cap 26)
  have O0 := own_list (w.alloc (wnB h s a rs.length cap 26)) (w.heap.size + 1) (zcells (wzk h rs 0)) 3 (by simp) (by rw [zcells_length, wzk_length h rs 0 (by omega)]; unfold maxLen; omega)
  have L0 : Below (w.heap.size + 1) (w.alloc (wnB h s a rs.length cap 26)) ((w.alloc (wnB h s a rs.length cap 26)).alloc (.cells #[.int .i64 h.kd, .int .i64 h.rq, .int .i64 h.od, .int .i64 h.cl, .int .i64 h.cd, .int .i64 (rs.length : Int)] 3)) := (Below.refl _ _).alloc (by simp) _
  rw [zcells_length, wzk_length h rs 0 (by omega)] at O0
  have HWA : Hid (wzk h rs rs.length = wz h rs) := wzk_all h rs
  have HWL : Hid (∀ k, k ≤ rs.length → (wzk h rs k).length = 6 + 4 * k) := wzk_length h rs
  have HWZ : Hid ((wz h rs).length = 6 + 4 * rs.length) := wz_length h rs
  have HWS : Hid (∀ k (hk : k < rs.length), wzk h rs (k + 1) = wzk h rs k ++ rz rs[k]) := wzk_step h rs
  have hs0 : (w.alloc (wnB h s a rs.length cap 26)).heap.size = w.heap.size + 1 := Array.size_push ..
  rw [hs0] at O0
  have I0 := I.on N0
  have HNV : Hid (∀ W, _) := fun W => Tk.name_val s W hs
  clear HB HS
  generalize wlS h s rs = R at *
  generalize wlB h s rs = B at *
  generalize hZ : wz h rs = Z at *
  have c6 : (w.alloc (wnB h s a rs.length cap 26)).cell? ⟨w.heap.size, 6, none⟩ = some (.slice a rs.length cap) := cell_at m0 6
  go_enter Tryd.func7, Tryd.ntmps7
  go_wp2
  generalize hW0 : w.alloc (wnB h s a rs.length cap 26) = W0 at *
  go_loopw [4, 5] (fun v i wr => ∃ k : Nat, k ≤ rs.length ∧ i = .int .i64 k ∧ wr.ownsRow (w.heap.size + 1) 3 1 v (6 + 4 * k) (zcells (wzk h rs k)) ∧ Hid (Below (w.heap.size + 1) W0 wr)) (fun _ i _ => rs.length - (intOf i).toNat)
  case atStart => exact ⟨0, by omega, rfl, O0, L0⟩
  case round =>
    clear O0 L0 c6
    obtain ⟨k, hk, rfl, O, L⟩ := hrel
    have m1 := kept L.out (by omega) m0
    have c6 : wr.cell? ⟨w.heap.size, 6, none⟩ = some (.slice a rs.length cap) := cell_at m1 6
    have hBr : w.heap.size + 1 ≤ wr.heap.size := by rw [← hs0]; exact L.out.size
    by_cases hlt : k < rs.length
    · have LL : Below W0.heap.size W0 wr := by rw [hs0]; exact L.out
      obtain ⟨b, o, rfl, hb, c0, c1, c2, c3⟩ := (I0.on LL).at k hlt
      have HST : Hid (_) := HWS.out k hlt
      have hkI : (k : Int) < (rs.length : Int) := by omega
      have hk0 : (0 : Int) ≤ (k : Int) := by omega
      generalize rs[k] = r at *
      have hs1 : (wr.alloc (.cells #[.int .i64 r.tr, .int .i64 r.dy, .int .i64 r.fr, .int .i64 r.to] 43)).heap.size = wr.heap.size + 1 := Array.size_push ..
      have LA : Below (w.heap.size + 1) W0 ((wr.alloc (.cells #[.int .i64 r.tr, .int .i64 r.dy, .int .i64 r.fr, .int .i64 r.to] 43)).alloc (.cells #[.int .i64 r.tr, .int .i64 r.dy, .int .i64 r.fr, .int .i64 r.to] 3)) := (L.out.alloc hBr _).alloc (by rw [hs1]; omega) _
      clear LL hs0 hW0 m1
      go_wp2_with (at_builtin; refine wpList_append_own _ rfl _ _ 38 rfl (w.heap.size + 1) 3 i0 (.int .i64 0) 1 8 Tryd.underlying38 hi hz0 hz1 hz2 rfl (by decide) _ _ _ rfl ((O.alloc _).alloc _) _ 4 4 [.int .i64 r.tr, .int .i64 r.dy, .int .i64 r.fr, .int .i64 r.to] rfl rfl ?c1 ?c2 ?c3 ?c4 ?c5 ?_)
      case c1 => exact cell_four _ _ hs1.symm _ _ _ _ _
      case c2 => intro u hu; simp at hu; rcases hu with rfl | rfl | rfl | rfl <;> rfl
      case c3 => unfold maxLen; omega
      case c4 => omega
      case c5 => exact Nat.le_trans hBr (by simp; omega)
      intro v' w5 own5 grow5 _
      have L5 : Below (w.heap.size + 1) W0 w5 := LA.grown grow5 (by simp; omega) (fun m h => own_ge O m h)
      rw [show [Value.int .i64 r.tr, .int .i64 r.dy, .int .i64 r.fr, .int .i64 r.to] = zcells (rz r) from rfl, zcells_append, ← HST.out, show 6 + 4 * k + 4 = 6 + 4 * (k + 1) from by omega] at own5
      clear grow5
      go_wp2
      go_roundw
      case rel => exact ⟨k + 1, by omega, by go_num, own5, L5⟩
      case measure => simp [intOf]; omega
    · obtain rfl : k = rs.length := by omega
      have hkI : ¬ (rs.length : Int) < (rs.length : Int) := by omega
      rw [HWA.out, ← HWZ.out] at O
      obtain ⟨g, gc, rfl, hgB, RZ⟩ := own_rowz O (by rw [HWZ.out]; omega)
      have KW : Below w.heap.size w wr := N0.trans (L.out.mono (by omega))
      have c3 : wr.cell? ⟨w.heap.size, 3, none⟩ = some (.string s) := cell_at m1 3
      have hZL : Z.length ≤ 6 + 4 * 1048576 := by rw [HWZ.out]; omega
      have hZI : (Z.length : Int) ≤ 4194310 := by omega
      clear hs0 hW0 O L I0 I HWA HWL HWS N0 m0
      go_wp2
      go_loop [7] (fun i => ∃ k : Nat, k ≤ Z.length ∧ i = .int .i64 k ∧ Hid (okZ Z = okF Z k)) (fun i => Z.length - (intOf i).toNat)
      case atStart => exact ⟨0, by omega, rfl, rfl⟩
      case round =>
        obtain ⟨k, hk, rfl, HO⟩ := hrel
        by_cases hlt : k < Z.length
        · have hc := RZ.2 k hlt
          have hkI : (k : Int) < (Z.length : Int) := by omega
          have hk0 : (0 : Int) ≤ (k : Int) := by omega
          have HST : Hid (_) := okF_step Z k hlt
          have HBT : Hid (∀ W, _) := fun W => l10Num_val Z[k] W
          obtain ⟨bt, hbt⟩ : ∃ bt, inB Z[k] 0 999999999 = bt := ⟨_, rfl⟩
          rw [hbt] at HBT
          rw [hbt] at HST
          clear hbt
          generalize Z[k] = z at *
          cases bt
          · have hno : okZ Z = false := by rw [HO.out, HST.out]; rfl
            obtain ⟨rfl, rfl⟩ := HN.out (Or.inl hno)
            go_wp2_with fail
            refine (HBT.out _).mono ?_
            rintro e w3 ⟨rfl, hw3⟩
            have hw4 := hw3.symm
            subst hw4
            go_wp2
            go_ret2
            exact ⟨rfl, KW⟩
          · have HO2 : Hid (okZ Z = okF Z (k + 1)) := by show _ = _; rw [HO.out, HST.out]; rfl
            go_wp2_with fail
            refine (HBT.out _).mono ?_
            rintro e w3 ⟨rfl, hw3⟩
            have hw4 := hw3.symm
            subst hw4
            go_wp2
            go_round
            case rel => exact ⟨k + 1, by omega, by go_num, HO2⟩
            case measure => simp [intOf]; omega
        · obtain rfl : k = Z.length := by omega
          have hyes : okZ Z = true := by rw [HO.out]; exact okF_end Z _ hlt
          have hkI2 : ¬ (Z.length : Int) < (Z.length : Int) := by omega
          by_cases h6 : rs.length ≤ 6
          · have h6I : ¬ (6 : Int) < (rs.length : Int) := by omega
            obtain ⟨nb, hnb⟩ : ∃ nb, nameB s = nb := ⟨_, rfl⟩
            rw [hnb] at HNV
            cases nb
            · obtain ⟨rfl, rfl⟩ := HN.out (Or.inr (Or.inr hnb))
              go_wp2_with fail
              refine (HNV.out _).mono ?_
              rintro e w3 ⟨rfl, hw3⟩
              have hw4 := hw3.symm
              subst hw4
              go_wp2
              go_ret2
              exact ⟨rfl, KW⟩
            · obtain ⟨rfl, rfl⟩ := HY.out hyes h6 hnb
              have HWV : Hid (∀ W, RowZ W g Z → _) := fun W r => Tk.words_val Z g gc W (by rw [HWZ.out]; omega) (okZ_nums hyes) r
              have hwt := ws_tail Z (by rw [HWZ.out]; omega)
              have hwz := Tk.ws_size Z (okZ_nums hyes) Z.length (Nat.le_refl _)
              rw [List.take_length] at hwz
              have hZ30 : Z.length ≤ 30 := by rw [HWZ.out]; omega
              have hn40 : s.size ≤ 40 := by
                unfold Tk.nameB at hnb
                simp only [Bool.and_eq_true, decide_eq_true_eq] at hnb
                exact hnb.2
              generalize ws Z = X at *
              obtain ⟨hx1, hx2⟩ := hwt
              have hx1I : (1 : Int) ≤ (X.size : Int) := by omega
              have hxe : (X.extract 1 X.size).size ≤ 700 := by rw [ByteArray.size_extract]; omega
              have hdz : (dl Z).size ≤ 701 := by rw [← hx2, ba_size]; show _ + 1 ≤ _; omega
              have hsl : ∀ W, (Instr.slice 9 (.string X) (some (.int .i64 1)) none none).run Tryd.prog W = .ok (.string (X.extract 1 X.size)) W := fun W => by
                simp [go_sem, Tryd.underlying9, hx1I]
                try omega
              generalize X.extract 1 X.size = Y at *
              have b1 : ¬ (Y.size + (⟨#[32]⟩ : ByteArray).size > 9223372036854775807) := by have h4 : (⟨#[32]⟩ : ByteArray).size = 1 := rfl; omega
              have b2 : ¬ ((dl Z).size + s.size > 9223372036854775807) := by omega
              go_wp2_with fail
              refine (HNV.out _).mono ?_
              rintro e w3 ⟨rfl, hw3⟩
              have hw4 := hw3.symm
              subst hw4
              go_wp2
              go_region_with (first
                | (go_at_call 20; (with_reducible refine (HWV.out _ ?_).mono ?_); exact RZ; rintro e x1 ⟨rfl, hx1⟩; subst hx1))
              all_goals
                go_wp2
                go_ret2
                exact ⟨rfl, by first | exact KW | exact KW.drew⟩
          · have h6I : (6 : Int) < (rs.length : Int) := by omega
            obtain ⟨rfl, rfl⟩ := HN.out (Or.inr (Or.inl h6))
            go_wp2
            go_ret2
            exact ⟨rfl, KW⟩

end Wn
end Go.Proofs.YtaplbjoghkipdaaDoor

/- The parts of a text between a byte: the model's l04Split. -/
namespace Go.Proofs.YtaplbjoghkipdaaDoor
namespace Gt
open Go.ChangeShapes Go.WideShapes Go.ChangeAt Go.RowKit
open Pk (own_at own_ge own_below info_of new_below join_below heap_new)
set_option linter.unusedSimpArgs false
set_option linter.unusedVariables false

theorem own_new (w : World) (t : TypeId) (z : Nat) : (w.alloc (.cells #[] t)).ownsRow w.heap.size t z (.slice (some ⟨w.heap.size, 0, none⟩) 0 0) 0 [] :=
  ⟨by simp, Or.inr ⟨w.heap.size, 0, #[], rfl, Nat.le_refl _, heap_new w _, by omega, by unfold maxLen; omega, by simp, by simp⟩⟩

theorem own_base {w : World} {B base e size : Nat} {v : Value} {n : Nat} {xs : List Value} (h : w.ownsRow base e size v n xs) (hB : B ≤ base) : w.ownsRow B e size v n xs := by
  obtain ⟨h1, h2⟩ := h
  refine ⟨h1, ?_⟩
  rcases h2 with h2 | ⟨g, cap, cur, hv, hg, hr⟩
  · exact Or.inl h2
  · exact Or.inr ⟨g, cap, cur, hv, by omega, hr⟩

theorem own_pos {w : World} {base e size : Nat} {v : Value} {n : Nat} {xs : List Value} (h : w.ownsRow base e size v n xs) (hn : 0 < n) : ∃ g cap, v = .slice (some ⟨g, 0, none⟩) n cap := by
  obtain ⟨-, h2⟩ := h
  rcases h2 with ⟨-, h0⟩ | ⟨g, cap, cur, h1, -⟩
  · omega
  · exact ⟨g, cap, h1⟩

theorem own_blk {w : World} {base e g n cap : Nat} {xs : List Value} (h : w.ownsRow base e 1 (.slice (some ⟨g, 0, none⟩) n cap) n xs) : ∃ cur : Array Value, w.heap[g]? = some (.cells cur e) ∧ cur.toList.take n = xs ∧ base ≤ g ∧ n ≤ cap ∧ cap ≤ maxLen := by
  obtain ⟨-, h2⟩ := h
  rcases h2 with ⟨hv, -⟩ | ⟨g2, cap2, cur, hv, hb, hh, h3, h4, -, ht⟩
  · cases hv
  · simp only [Value.slice.injEq, Option.some.injEq, Addr.mk.injEq] at hv
    obtain ⟨⟨rfl, -, -⟩, -, rfl⟩ := hv
    exact ⟨cur, hh, by rw [← ht, Nat.mul_one], hb, h3, h4⟩

/-- The byte at a place, nought behind the end. -/
def bt (s : ByteArray) (i : Nat) : UInt8 := s.data.toList.getD i 0

theorem bt_at (s : ByteArray) (i : Nat) (h : i < s.size) : bt s i = s[i] := by
  unfold bt
  rw [List.getD_eq_getElem?_getD, List.getElem?_eq_getElem (by rw [Array.length_toList]; exact h)]
  rfl

/-- The parts from place i on, where the part begins at f. -/
def splF (c : UInt8) (s : ByteArray) : Nat → Nat → Nat → List ByteArray
  | 0, _, f => [s.extract f s.size]
  | n + 1, i, f => if bt s i = c then s.extract f i :: splF c s n (i + 1) (i + 1) else splF c s n (i + 1) f

/-- The parts of a text between a byte. -/
def split (c : UInt8) (s : ByteArray) : List ByteArray := splF c s s.size 0 0

theorem splF_length (c : UInt8) (s : ByteArray) : ∀ n i f, 1 ≤ (splF c s n i f).length ∧ (splF c s n i f).length ≤ n + 1
  | 0, _, _ => ⟨Nat.le_refl _, Nat.le_refl _⟩
  | n + 1, i, f => by
    unfold splF
    split
    · have := splF_length c s n (i + 1) (i + 1)
      simp only [List.length_cons]
      omega
    · have := splF_length c s n (i + 1) f
      omega

theorem splF_size (c : UInt8) (s : ByteArray) : ∀ n i f, ∀ x ∈ splF c s n i f, x.size ≤ s.size
  | 0, _, f => by
    intro x hx
    simp only [splF, List.mem_singleton] at hx
    subst hx
    rw [ByteArray.size_extract]
    omega
  | n + 1, i, f => by
    intro x hx
    unfold splF at hx
    split at hx
    · rcases List.mem_cons.1 hx with rfl | hx
      · rw [ByteArray.size_extract]
        omega
      · exact splF_size c s n _ _ x hx
    · exact splF_size c s n _ _ x hx

/-- The cells of texts. -/
def tcells (l : List ByteArray) : List Value := l.map Value.string

theorem tcells_length (l : List ByteArray) : (tcells l).length = l.length := by simp [tcells]

theorem tcells_snoc (l : List ByteArray) (b : ByteArray) : tcells l ++ [.string b] = tcells (l ++ [b]) := by simp [tcells]

theorem tcells_at (l : List ByteArray) (i : Nat) (h : i < l.length) : (tcells l)[i]? = some (.string l[i]) := by simp [tcells, h]

theorem info_str : (Tryd.prog.info? 9).map (fun i => (i.zero, i.size, i.bytes)) = some (some (.string ⟨#[]⟩), 1, 16) := by kernel_rfl

theorem cell_one (W : World) (v : Value) (t : TypeId) : ∀ j u, [v][j]? = some u → (W.alloc (.cells #[v] t)).cell? (Addr.add ⟨W.heap.size, 0, none⟩ j) = some u := by
  intro j u hu
  match j, hu with
  | 0, hu =>
    have := Pk.cell_at (Pk.heap_new W (.cells #[v] t)) 0
    simp at hu
    subst hu
    rw [show Addr.add ⟨W.heap.size, 0, none⟩ 0 = ⟨W.heap.size, 0, none⟩ from by simp [Addr.add]]
    exact this
  | j + 1, hu => simp at hu

set_option maxRecDepth 100000 in
set_option maxHeartbeats 2000000 in
theorem split_val (c : UInt8) (s : ByteArray) (w : World) (hs : s.size ≤ 1100000) :
    Calls Tryd.prog 24 #[.string s, .int .u8 (c.toNat : Int)] w fun e w' => ∃ v, e = .returned v ∧ w'.ownsRow w.heap.size 9 1 v (split c s).length (tcells (split c s)) ∧ Below w.heap.size w w' := by
  obtain ⟨i0, hi, hz0, hz1, hz2⟩ := info_of info_str
  have HS : Hid (split c s = splF c s s.size 0 0) := rfl
  generalize split c s = V at *
  have O0 := own_new w 9 1
  have N0 := new_below w (.cells #[] 9)
  go_enter Tryd.func24, Tryd.ntmps24
  go_wp2
  go_loopw [5, 6, 7] (fun v f i wr => ∃ (k n g : Nat) (done : List ByteArray), k + n = s.size ∧ g ≤ k ∧ i = .int .i64 k ∧ f = .int .i64 g ∧ done.length ≤ k ∧ Hid (V = done ++ splF c s n k g) ∧ wr.ownsRow w.heap.size 9 1 v done.length (tcells done) ∧ Hid (Below w.heap.size w wr)) (fun _ _ i _ => s.size - (intOf i).toNat)
  case atStart => exact ⟨0, s.size, 0, [], by omega, by omega, rfl, rfl, by simp, HS, O0, N0⟩
  case round =>
    clear O0 N0 HS
    obtain ⟨k, n, g, done, hkn, hgk, rfl, rfl, hd, H, O, L⟩ := hrel
    have hBr : w.heap.size ≤ wr.heap.size := L.out.size
    by_cases hlt : k < s.size
    · obtain ⟨n', rfl⟩ : ∃ n', n = n' + 1 := ⟨n - 1, by omega⟩
      have hkI : (k : Int) < (s.size : Int) := by omega
      have hbt := bt_at s k hlt
      have hgI : (g : Int) ≤ (k : Int) := by omega
      have hkL : (k : Int) ≤ (s.size : Int) := by omega
      by_cases hc : s[k] = c
      · have HN : Hid (V = (done ++ [s.extract g k]) ++ splF c s n' (k + 1) (k + 1)) := by
          show _ = _
          rw [H.out, splF, if_pos (by rw [hbt]; exact hc), List.append_assoc]
          rfl
        have hcI : ((s[k].toNat : Int) == (c.toNat : Int)) = true := by rw [hc]; simp
        have hcE : (s[k].toNat : Int) = (c.toNat : Int) := by rw [hc]
        go_wp2_with (at_builtin; refine wpList_append_own _ rfl _ _ 49 rfl w.heap.size 9 i0 (.string ⟨#[]⟩) 1 16 Tryd.underlying49 hi hz0 hz1 hz2 rfl (by decide) _ _ _ rfl (O.alloc _) ⟨wr.heap.size, 0, none⟩ 1 1 [.string (s.extract g k)] rfl rfl ?c1 ?c2 ?c3 ?c4 ?c5 ?_)
        case c1 => exact cell_one _ _ _
        case c2 => intro u hu; simp at hu; subst hu; rfl
        case c3 => unfold maxLen; omega
        case c4 => omega
        case c5 => simp; omega
        intro v' w5 own5 grow5 _
        have L5 : Below w.heap.size w w5 := (L.out.alloc hBr _).grown grow5 (by simp; omega) (fun m h => own_ge O m h)
        rw [tcells_snoc, show done.length + 1 = (done ++ [s.extract g k]).length from by simp] at own5
        clear grow5
        go_wp2
        go_roundw
        case rel => exact ⟨k + 1, n', k + 1, done ++ [s.extract g k], by omega, by omega, by go_num, by go_num, by simp; omega, HN, own5, L5⟩
        case measure => simp [intOf]; omega
      · have HN : Hid (V = done ++ splF c s n' (k + 1) g) := by
          show _ = _
          rw [H.out, splF, if_neg (by rw [hbt]; exact hc)]
        have hne : ¬ (s[k].toNat : Int) = (c.toNat : Int) := fun e => hc (UInt8.toNat_inj.1 (by omega))
        have hcI : ((s[k].toNat : Int) == (c.toNat : Int)) = false := beq_eq_false_iff_ne.2 hne
        go_wp2
        go_roundw
        case rel => exact ⟨k + 1, n', g, done, by omega, by omega, by go_num, rfl, by omega, HN, O, L⟩
        case measure => simp [intOf]; omega
    · obtain rfl : k = s.size := by omega
      obtain rfl : n = 0 := by omega
      have hgI : (g : Int) ≤ (s.size : Int) := by omega
      have HN : Hid (V = done ++ [s.extract g s.size]) := H
      go_wp2_with (at_builtin; refine wpList_append_own _ rfl _ _ 49 rfl w.heap.size 9 i0 (.string ⟨#[]⟩) 1 16 Tryd.underlying49 hi hz0 hz1 hz2 rfl (by decide) _ _ _ rfl (O.alloc _) ⟨wr.heap.size, 0, none⟩ 1 1 [.string (s.extract g s.size)] rfl rfl ?c1 ?c2 ?c3 ?c4 ?c5 ?_)
      case c1 => exact cell_one _ _ _
      case c2 => intro u hu; simp at hu; subst hu; rfl
      case c3 => unfold maxLen; omega
      case c4 => omega
      case c5 => simp; omega
      intro v' w5 own5 grow5 _
      have L5 : Below w.heap.size w w5 := (L.out.alloc hBr _).grown grow5 (by simp; omega) (fun m h => own_ge O m h)
      rw [tcells_snoc, show done.length + 1 = (done ++ [s.extract g s.size]).length from by simp, ← HN.out] at own5
      clear grow5
      go_wp2
      go_ret
      exact ⟨_, rfl, own5, L5⟩

end Gt
end Go.Proofs.YtaplbjoghkipdaaDoor

/- Contracts of ReadDec, of the program and of its model: the number whose decimal text it is, where there is one. -/
namespace Go.Proofs.YtaplbjoghkipdaaDoor
namespace Num
open Go.ChangeShapes Go.WideShapes Go.ChangeAt Go.RowKit

theorem ret_pair {k : IntKind} {a b : Int} {x : Value} (h : a = b) : Ending.returned (.tuple #[.int k a, x]) = .returned (.tuple #[.int k b, x]) := by rw [h]

theorem str_ne {a b : ByteArray} (h : a ≠ b) : (a.toList == b.toList) = false := by
  rw [beq_eq_false_iff_ne, ByteArray.toList_eq, ByteArray.toList_eq]
  intro h2
  exact h (ByteArray.ext (Array.toList_inj.1 h2))

theorem head_at (s : ByteArray) (h : 0 < s.size) : s.data.toList.head? = some s[0] := by
  rw [List.head?_eq_getElem?, List.getElem?_eq_getElem (by simpa using h)]
  rfl

theorem len_data (s : ByteArray) : s.data.toList.length = s.size := by rw [Array.length_toList]; rfl

theorem specReadDec_long (s : ByteArray) (w : World) (hs : s.size ≤ maxLen) (h : s.size = 0 ∨ 9 < s.size) :
    Calls Tryd.prog 25 #[.string s] w fun e w' => e = .returned (.tuple #[.int .i64 0, .bool false]) ∧ w' = w := by
  unfold maxLen at hs
  rcases h with h | h
  · have h0 : ((s.size : Int) == 0) = true := by rw [beq_iff_eq]; omega
    clear h
    go_enter Tryd.func25, Tryd.ntmps25
    go_wp2
    go_ret2
    exact ⟨rfl, rfl⟩
  · have h0 : ((s.size : Int) == 0) = false := by rw [beq_eq_false_iff_ne]; omega
    have h9 : decide ((9 : Int) < s.size) = true := by simp; omega
    go_enter Tryd.func25, Tryd.ntmps25
    go_wp2
    go_ret2
    exact ⟨rfl, rfl⟩

/-- How ReadDec ends. -/
def ReadEnd (l : List UInt8) (e : Ending) : Prop :=
  (Math.ReadOk l ∧ e = .returned (.tuple #[.int .i64 (Math.val l), .bool true])) ∨ (¬ Math.ReadOk l ∧ e = .returned (.tuple #[.int .i64 0, .bool false]))

theorem ReadEnd.no {l : List UInt8} (h : ¬ Math.ReadOk l) : ReadEnd l (.returned (.tuple #[.int .i64 0, .bool false])) := Or.inr ⟨h, rfl⟩

theorem ReadEnd.yes {l : List UInt8} (h : Math.ReadOk l) {v : Int} (hv : v = Math.val l) : ReadEnd l (.returned (.tuple #[.int .i64 v, .bool true])) := by
  subst hv
  exact Or.inl ⟨h, rfl⟩

theorem not_digit (s : ByteArray) (k : Nat) (h : k < s.size) (hd : ¬ (48 ≤ s[k].toNat ∧ s[k].toNat ≤ 57)) : ¬ Math.ReadOk s.data.toList := by
  intro hr
  exact hd (hr.1 s[k] (by exact List.getElem_mem (by simpa using h)))

theorem dec_same (s : ByteArray) (h1 : 1 ≤ s.size) (h9 : s.size ≤ 9) (hd : Math.AllD s.data.toList) : decS (Math.val s.data.toList : Nat) = s ↔ Math.ReadOk s.data.toList := by
  have hl := len_data s
  have hne : s.data.toList ≠ [] := fun h => by rw [h] at hl; simp at hl; omega
  have e : decS (Math.val s.data.toList : Nat) = ⟨(Lib.decDigits (Math.val s.data.toList)).toArray⟩ := by
    unfold decS Lib.itoa
    rw [if_neg (by omega)]
    rfl
  rw [e]
  constructor
  · intro h
    refine ⟨hd, by omega, by omega, ?_⟩
    by_cases h2 : s.data.toList.length = 1
    · exact Or.inl h2
    · refine Or.inr fun h3 => ?_
      apply Math.dec_not _ h2 h3
      have := congrArg (fun x : ByteArray => x.data.toList) h
      simpa using this
  · intro h
    rw [Math.dec_val _ hd hne h.2.2.2]

theorem specReadDec_any (s : ByteArray) (w : World) (h1 : 1 ≤ s.size) (h9 : s.size ≤ 9) :
    Calls Tryd.prog 25 #[.string s] w fun e w' => ReadEnd s.data.toList e ∧ w' = w := by
  have h0 : ((s.size : Int) == 0) = false := by rw [beq_eq_false_iff_ne]; omega
  have h9' : decide ((9 : Int) < s.size) = false := by simp; omega
  go_enter Tryd.func25, Tryd.ntmps25
  go_wp2
  go_loop [4, 5] (fun t i => ∃ k v : Nat, k ≤ s.size ∧ v ≤ 999999999 ∧ i = .int .i64 k ∧ t = .int .i64 v ∧ Hid (v = Math.val (s.data.toList.take k)) ∧ Hid (Math.AllD (s.data.toList.take k))) (fun _ i => s.size - (intOf i).toNat)
  case atStart => exact ⟨0, 0, by omega, by omega, rfl, rfl, rfl, fun b hb => by simp at hb⟩
  case round =>
    obtain ⟨k, v, hk, hv, rfl, rfl, H, HD⟩ := hrel
    by_cases hlt : k < s.size
    · by_cases hd : 48 ≤ s[k].toNat ∧ s[k].toNat ≤ 57
      · have HA : Hid (Math.AllD (s.data.toList.take (k + 1))) := by
          show Math.AllD _
          rw [Math.take_snoc s k hlt]
          exact HD.out.snoc hd
        have HV : Hid (10 * v + (s[k].toNat - 48) = Math.val (s.data.toList.take (k + 1))) := by
          show _ = _
          rw [Math.take_snoc s k hlt, Math.val_snoc, ← H.out]
        have hv2 : 10 * v + (s[k].toNat - 48) ≤ 999999999 := by
          rw [HV.out]
          exact Math.val_bd _ HA.out (by rw [List.length_take]; omega)
        have hf : decide ((48 : Int) ≤ (s[k].toNat : Int) ∧ (s[k].toNat : Int) ≤ 57) = true := by simp; omega
        obtain ⟨hd1, hd2⟩ := hd
        generalize hB : s[k].toNat = B at *
        go_wp2_with (go_at_call 32; refine (l01In_any _ _ _ _).mono ?_; rw [hf]; rintro e w' ⟨rfl, rfl⟩)
        go_round
        case rel => exact ⟨k + 1, 10 * v + (B - 48), by omega, hv2, by go_num, by go_num, HV, HA⟩
        case measure => simp [intOf]; omega
      · have HR : Hid (¬ Math.ReadOk s.data.toList) := not_digit s k hlt hd
        have hb := s[k].toNat_lt
        have hf : decide ((48 : Int) ≤ (s[k].toNat : Int) ∧ (s[k].toNat : Int) ≤ 57) = false := by simp; omega
        clear hd
        generalize hB : s[k].toNat = B at *
        go_wp2_with (go_at_call 32; refine (l01In_any _ _ _ _).mono ?_; rw [hf]; rintro e w' ⟨rfl, rfl⟩)
        go_ret2
        exact ⟨ReadEnd.no HR.out, rfl⟩
    · obtain rfl : k = s.size := by omega
      have HV : Hid (v = Math.val s.data.toList) := by show _ = _; rw [H.out, Math.take_all]
      have HA : Hid (Math.AllD s.data.toList) := by have := HD.out; rw [Math.take_all] at this; exact this
      have HS : Hid (decS (v : Int) = s ↔ Math.ReadOk s.data.toList) := by
        show _ ↔ _
        rw [HV.out]
        exact dec_same s h1 h9 HA.out
      generalize hT : decS (v : Int) = T at *
      have HT : Hid (decS (v : Int) = T) := hT
      clear hT
      by_cases hTs : T = s
      · have HR : Hid (Math.ReadOk s.data.toList) := HS.out.1 hTs
        subst hTs
        go_wp2_with (go_at_call 33; refine (specDecText_nat _ _ (by omega)).mono ?_; rw [HT.out]; rintro e w' ⟨rfl, rfl⟩)
        go_ret2
        exact ⟨ReadEnd.yes HR.out (by rw [HV.out]), rfl⟩
      · have HR : Hid (¬ Math.ReadOk s.data.toList) := fun h => hTs (HS.out.2 h)
        have hTl := str_ne hTs
        go_wp2_with (go_at_call 33; refine (specDecText_nat _ _ (by omega)).mono ?_; rw [HT.out]; rintro e w' ⟨rfl, rfl⟩)
        go_ret2
        exact ⟨ReadEnd.no HR.out, rfl⟩

theorem implReadDec_long (s : ByteArray) (w : World) (hs : s.size ≤ maxLen) (h : s.size = 0 ∨ 9 < s.size) :
    Calls Tryd.prog 46 #[.string s] w fun e w' => e = .returned (.tuple #[.int .i64 0, .bool false]) ∧ w' = w := by
  unfold maxLen at hs
  rcases h with h | h
  · have h0 : ((s.size : Int) == 0) = true := by rw [beq_iff_eq]; omega
    clear h
    go_enter Tryd.func46, Tryd.ntmps46
    go_wp2
    go_ret2
    exact ⟨rfl, rfl⟩
  · have h0 : ((s.size : Int) == 0) = false := by rw [beq_eq_false_iff_ne]; omega
    have h9 : decide ((9 : Int) < s.size) = true := by simp; omega
    go_enter Tryd.func46, Tryd.ntmps46
    go_wp2
    go_ret2
    exact ⟨rfl, rfl⟩

theorem implReadDec_nought (s : ByteArray) (w : World) (h1 : 2 ≤ s.size) (h9 : s.size ≤ 9) (hz : s[0].toNat = 48) :
    Calls Tryd.prog 46 #[.string s] w fun e w' => e = .returned (.tuple #[.int .i64 0, .bool false]) ∧ w' = w := by
  have h0 : ((s.size : Int) == 0) = false := by rw [beq_eq_false_iff_ne]; omega
  have h9' : decide ((9 : Int) < s.size) = false := by simp; omega
  have h1' : decide ((1 : Int) < s.size) = true := by simp; omega
  have hb : (((s[0].toNat : Nat) : Int) == 48) = true := by rw [hz]; rfl
  clear hz
  go_enter Tryd.func46, Tryd.ntmps46
  go_wp2
  go_ret2
  exact ⟨rfl, rfl⟩

theorem read_ok (s : ByteArray) (h1 : 1 ≤ s.size) (h9 : s.size ≤ 9) (hz : s.size = 1 ∨ s[0].toNat ≠ 48) (hd : Math.AllD s.data.toList) : Math.ReadOk s.data.toList := by
  have hl := len_data s
  refine ⟨hd, by omega, by omega, ?_⟩
  rcases hz with h | h
  · exact Or.inl (by omega)
  · refine Or.inr fun h2 => h ?_
    rw [head_at s (by omega)] at h2
    rw [Option.some.inj h2]
    rfl

theorem read_not (s : ByteArray) (h2 : 2 ≤ s.size) (hz : s[0].toNat = 48) : ¬ Math.ReadOk s.data.toList := by
  have hl := len_data s
  intro h
  rcases h.2.2.2 with h | h
  · omega
  · apply h
    rw [head_at s (by omega)]
    exact congrArg some (UInt8.toNat_inj.1 hz)

theorem read_not_long (s : ByteArray) (h2 : s.size = 0 ∨ 9 < s.size) : ¬ Math.ReadOk s.data.toList := by
  have hl := len_data s
  intro h
  have ha := h.2.1
  have hb := h.2.2.1
  omega

theorem implReadDec_any (s : ByteArray) (w : World) (h1 : 1 ≤ s.size) (h9 : s.size ≤ 9) (hz : s.size = 1 ∨ s[0].toNat ≠ 48) :
    Calls Tryd.prog 46 #[.string s] w fun e w' => ReadEnd s.data.toList e ∧ w' = w := by
  have h0 : ((s.size : Int) == 0) = false := by rw [beq_eq_false_iff_ne]; omega
  have h9' : decide ((9 : Int) < s.size) = false := by simp; omega
  have HZ : Hid (s.size = 1 ∨ s[0].toNat ≠ 48) := hz
  by_cases h2 : s.size = 1
  · have h1' : decide ((1 : Int) < s.size) = false := by simp; omega
    clear hz h2
    go_enter Tryd.func46, Tryd.ntmps46
    go_wp2
    go_loop [4, 26] (fun t i => ∃ k v : Nat, k ≤ s.size ∧ v ≤ 999999999 ∧ i = .int .i64 k ∧ t = .int .i64 v ∧ Hid (v = Math.val (s.data.toList.take k)) ∧ Hid (Math.AllD (s.data.toList.take k))) (fun _ i => s.size - (intOf i).toNat)
    case atStart => exact ⟨0, 0, by omega, by omega, rfl, rfl, rfl, fun b hb => by simp at hb⟩
    case round =>
      obtain ⟨k, v, hk, hv, rfl, rfl, H, HD⟩ := hrel
      by_cases hlt : k < s.size
      · by_cases hd : 48 ≤ s[k].toNat ∧ s[k].toNat ≤ 57
        · have HA : Hid (Math.AllD (s.data.toList.take (k + 1))) := by
            show Math.AllD _
            rw [Math.take_snoc s k hlt]
            exact HD.out.snoc hd
          have HV : Hid (10 * v + (s[k].toNat - 48) = Math.val (s.data.toList.take (k + 1))) := by
            show _ = _
            rw [Math.take_snoc s k hlt, Math.val_snoc, ← H.out]
          have hv2 : 10 * v + (s[k].toNat - 48) ≤ 999999999 := by
            rw [HV.out]
            exact Math.val_bd _ HA.out (by rw [List.length_take]; omega)
          obtain ⟨hd1, hd2⟩ := hd
          generalize hB : s[k].toNat = B at *
          go_wp2
          go_round
          case rel => exact ⟨k + 1, 10 * v + (B - 48), by omega, hv2, by go_num, by go_num, HV, HA⟩
          case measure => simp [intOf]; omega
        · have HR : Hid (¬ Math.ReadOk s.data.toList) := not_digit s k hlt hd
          have hb := s[k].toNat_lt
          generalize hB : s[k].toNat = B at *
          by_cases hlow : B < 48
          · clear hd
            go_wp2
            go_ret2
            exact ⟨ReadEnd.no HR.out, rfl⟩
          · have hhigh : 57 < B := by omega
            clear hd
            go_wp2
            go_ret2
            exact ⟨ReadEnd.no HR.out, rfl⟩
      · obtain rfl : k = s.size := by omega
        have HV : Hid (v = Math.val s.data.toList) := by show _ = _; rw [H.out, Math.take_all]
        have HR : Hid (Math.ReadOk s.data.toList) := read_ok s h1 h9 HZ.out (by have := HD.out; rw [Math.take_all] at this; exact this)
        go_wp2
        go_ret2
        exact ⟨ReadEnd.yes HR.out (by rw [HV.out]), rfl⟩
  · have h1' : decide ((1 : Int) < s.size) = true := by simp; omega
    have hb : (((s[0].toNat : Nat) : Int) == 48) = false := by rw [beq_eq_false_iff_ne]; omega
    clear hz
    go_enter Tryd.func46, Tryd.ntmps46
    go_wp2
    have HB : Hid ((((s[0].toNat : Nat) : Int) == 48) = false) := hb
    clear hb
    go_loop [4, 26] (fun t i => ∃ k v : Nat, k ≤ s.size ∧ v ≤ 999999999 ∧ i = .int .i64 k ∧ t = .int .i64 v ∧ Hid (v = Math.val (s.data.toList.take k)) ∧ Hid (Math.AllD (s.data.toList.take k))) (fun _ i => s.size - (intOf i).toNat)
    case atStart => exact ⟨0, 0, by omega, by omega, rfl, rfl, rfl, fun b hb => by simp at hb⟩
    case round =>
      obtain ⟨k, v, hk, hv, rfl, rfl, H, HD⟩ := hrel
      by_cases hlt : k < s.size
      · by_cases hd : 48 ≤ s[k].toNat ∧ s[k].toNat ≤ 57
        · have HA : Hid (Math.AllD (s.data.toList.take (k + 1))) := by
            show Math.AllD _
            rw [Math.take_snoc s k hlt]
            exact HD.out.snoc hd
          have HV : Hid (10 * v + (s[k].toNat - 48) = Math.val (s.data.toList.take (k + 1))) := by
            show _ = _
            rw [Math.take_snoc s k hlt, Math.val_snoc, ← H.out]
          have hv2 : 10 * v + (s[k].toNat - 48) ≤ 999999999 := by
            rw [HV.out]
            exact Math.val_bd _ HA.out (by rw [List.length_take]; omega)
          obtain ⟨hd1, hd2⟩ := hd
          generalize hB : s[k].toNat = B at *
          go_wp2
          go_round
          case rel => exact ⟨k + 1, 10 * v + (B - 48), by omega, hv2, by go_num, by go_num, HV, HA⟩
          case measure => simp [intOf]; omega
        · have HR : Hid (¬ Math.ReadOk s.data.toList) := not_digit s k hlt hd
          have hb := s[k].toNat_lt
          generalize hB : s[k].toNat = B at *
          by_cases hlow : B < 48
          · clear hd
            go_wp2
            go_ret2
            exact ⟨ReadEnd.no HR.out, rfl⟩
          · have hhigh : 57 < B := by omega
            clear hd
            go_wp2
            go_ret2
            exact ⟨ReadEnd.no HR.out, rfl⟩
      · obtain rfl : k = s.size := by omega
        have HV : Hid (v = Math.val s.data.toList) := by show _ = _; rw [H.out, Math.take_all]
        have HR : Hid (Math.ReadOk s.data.toList) := read_ok s h1 h9 HZ.out (by have := HD.out; rw [Math.take_all] at this; exact this)
        go_wp2
        go_ret2
        exact ⟨ReadEnd.yes HR.out (by rw [HV.out]), rfl⟩

theorem specReadDec_all (s : ByteArray) (w : World) (hs : s.size ≤ maxLen) :
    Calls Tryd.prog 25 #[.string s] w fun e w' => ReadEnd s.data.toList e ∧ w' = w := by
  by_cases h : s.size = 0 ∨ 9 < s.size
  · refine (specReadDec_long s w hs h).mono ?_
    rintro e w' ⟨rfl, rfl⟩
    exact ⟨ReadEnd.no (read_not_long s h), rfl⟩
  · exact specReadDec_any s w (by omega) (by omega)

theorem specReadDec_yes (s : ByteArray) (w : World) (hs : s.size ≤ maxLen) (h : Math.ReadOk s.data.toList) :
    Calls Tryd.prog 25 #[.string s] w fun e w' => e = .returned (.tuple #[.int .i64 (Math.val s.data.toList), .bool true]) ∧ w' = w := by
  refine (specReadDec_all s w hs).mono ?_
  rintro e w' ⟨he, rfl⟩
  rcases he with ⟨_, he⟩ | ⟨hn, _⟩
  · exact ⟨he, rfl⟩
  · exact absurd h hn

theorem specReadDec_no (s : ByteArray) (w : World) (hs : s.size ≤ maxLen) (h : ¬ Math.ReadOk s.data.toList) :
    Calls Tryd.prog 25 #[.string s] w fun e w' => e = .returned (.tuple #[.int .i64 0, .bool false]) ∧ w' = w := by
  refine (specReadDec_all s w hs).mono ?_
  rintro e w' ⟨he, rfl⟩
  rcases he with ⟨hn, _⟩ | ⟨_, he⟩
  · exact absurd hn h
  · exact ⟨he, rfl⟩

theorem implReadDec_all (s : ByteArray) (w : World) (hs : s.size ≤ maxLen) :
    Calls Tryd.prog 46 #[.string s] w fun e w' => ReadEnd s.data.toList e ∧ w' = w := by
  by_cases h : s.size = 0 ∨ 9 < s.size
  · refine (implReadDec_long s w hs h).mono ?_
    rintro e w' ⟨rfl, rfl⟩
    exact ⟨ReadEnd.no (read_not_long s h), rfl⟩
  · by_cases hz : s.size = 1 ∨ s[0].toNat ≠ 48
    · exact implReadDec_any s w (by omega) (by omega) hz
    · refine (implReadDec_nought s w (by omega) (by omega) (by omega)).mono ?_
      rintro e w' ⟨rfl, rfl⟩
      exact ⟨ReadEnd.no (read_not s (by omega) (by omega)), rfl⟩

theorem implReadDec_yes (s : ByteArray) (w : World) (hs : s.size ≤ maxLen) (h : Math.ReadOk s.data.toList) :
    Calls Tryd.prog 46 #[.string s] w fun e w' => e = .returned (.tuple #[.int .i64 (Math.val s.data.toList), .bool true]) ∧ w' = w := by
  refine (implReadDec_all s w hs).mono ?_
  rintro e w' ⟨he, rfl⟩
  rcases he with ⟨_, he⟩ | ⟨hn, _⟩
  · exact ⟨he, rfl⟩
  · exact absurd h hn

theorem implReadDec_no (s : ByteArray) (w : World) (hs : s.size ≤ maxLen) (h : ¬ Math.ReadOk s.data.toList) :
    Calls Tryd.prog 46 #[.string s] w fun e w' => e = .returned (.tuple #[.int .i64 0, .bool false]) ∧ w' = w := by
  refine (implReadDec_all s w hs).mono ?_
  rintro e w' ⟨he, rfl⟩
  rcases he with ⟨hn, _⟩ | ⟨_, he⟩
  · exact absurd hn h
  · exact ⟨he, rfl⟩

end Num
end Go.Proofs.YtaplbjoghkipdaaDoor

/- The numbers behind a word: the model's l04Nums. -/
namespace Go.Proofs.YtaplbjoghkipdaaDoor
namespace Gt
open Go.ChangeShapes Go.WideShapes Go.ChangeAt Go.RowKit
open Pk (own_at own_ge own_below info_of new_below join_below heap_new info_int icells icells_snoc lt_of kept cell_at heap_old)
set_option linter.unusedSimpArgs false
set_option linter.unusedVariables false

/-- A word that tells a number. -/
abbrev Rd (x : ByteArray) : Prop := Math.ReadOk x.data.toList

/-- The number that a word tells. -/
abbrev vl (x : ByteArray) : Nat := Math.val x.data.toList

/-- A line is a word and n numbers. -/
def NumsOk (line head : ByteArray) (n : Nat) : Prop := (split 32 line).head? = some head ∧ (split 32 line).length = n + 1 ∧ ∀ x ∈ (split 32 line).tail, Rd x

/-- The numbers of a line. -/
def numsL (line : ByteArray) : List Nat := (split 32 line).tail.map vl

theorem vl_bd {x : ByteArray} (h : Rd x) : vl x ≤ 999999999 := Math.val_bd _ h.1 h.2.2.1

theorem tail_get {l : List ByteArray} {k : Nat} (h : k + 1 < l.length) : l.tail[k]? = some l[k + 1] := by
  cases l with
  | nil => simp at h
  | cons a l => simp at h; simp [h]

/-- The first k numbers of words behind the first. -/
def fstN (l : List ByteArray) (k : Nat) : List Nat := (l.tail.take k).map vl

theorem fstN_step {l : List ByteArray} {k : Nat} (h : k + 1 < l.length) : fstN l (k + 1) = fstN l k ++ [Math.val l[k + 1].data.toList] := by
  have hk : k < l.tail.length := by rw [List.length_tail]; omega
  unfold fstN
  rw [List.take_succ_eq_append_getElem hk, List.map_append]
  have := tail_get h
  rw [List.getElem?_eq_getElem hk] at this
  rw [Option.some.inj this]
  rfl

theorem fstN_all {l : List ByteArray} {k : Nat} (h : l.length ≤ k + 1) : fstN l k = l.tail.map vl := by
  unfold fstN
  rw [List.take_of_length_le (by rw [List.length_tail]; omega)]

end Gt
end Go.Proofs.YtaplbjoghkipdaaDoor

/- Contracts of PutTicket, of the program and of its model: the walks. -/
namespace Go.Proofs.YtaplbjoghkipdaaDoor
namespace Tk
open Go.ChangeShapes Go.WideShapes Go.ChangeAt Go.RowKit
open Pk (new_below join_below cell_at heap_new frozen_at lt_of kept heap_old)
open Num (decS Tens)
set_option linter.unusedSimpArgs false
set_option linter.unusedVariables false

/-- A text and whether it is one. -/
abbrev p2V (s : ByteArray) (b : Bool) : Value := .tuple #[.string s, .bool b]

theorem head_i (t : Hd) (s X : ByteArray) (hX : X = ⟨#[104, 101, 97, 100]⟩ ++ ws [t.id, t.cl, t.pr, t.fi, t.la] ++ ⟨#[10]⟩) : X ++ ⟨#[110, 97, 109, 101]⟩ ++ ⟨#[32]⟩ ++ s ++ ⟨#[10]⟩ = headT t s := by
  subst hX
  unfold headT
  have e : (⟨#[10]⟩ : ByteArray) ++ ⟨#[110, 97, 109, 101]⟩ ++ ⟨#[32]⟩ = ⟨#[10, 110, 97, 109, 101, 32]⟩ := rfl
  rw [← e]
  simp only [ba_assoc]

theorem head_s (t : Hd) (s X : ByteArray) (hX : X = ws [t.id, t.cl, t.pr, t.fi, t.la]) : ⟨#[104, 101, 97, 100]⟩ ++ X ++ ⟨#[10, 110, 97, 109, 101, 32]⟩ ++ s ++ ⟨#[10]⟩ = headT t s := by
  subst hX
  rfl

theorem leg_s (l : Lg) (O X : ByteArray) (hX : X = ws [l.tr, l.dy, l.fr, l.to, l.co, l.se]) : O ++ ⟨#[108, 101, 103]⟩ ++ X ++ ⟨#[10]⟩ = O ++ legT l := by
  subst hX
  unfold legT
  simp only [ba_assoc]

theorem small_cat {a b : ByteArray} (ha : a.size ≤ 5000) (hb : b.size ≤ 5000) : ¬ (a.size + b.size > 9223372036854775807) := by omega

theorem undrew {w w1 : World} (h : Below w.drew.heap.size w.drew w1) : Below w.heap.size w w1 := ((Below.refl _ _).drew).trans h

theorem putS_yes (t : Hd) (s : ByteArray) (ls : List Lg) (h : okB t s ls = true) : putS t s ls = putT t s ls ls.length := if_pos h

theorem putS_no (t : Hd) (s : ByteArray) (ls : List Lg) (h : okB t s ls = false) : putS t s ls = ⟨#[]⟩ := if_neg (by rw [h]; simp)

end Tk
end Go.Proofs.YtaplbjoghkipdaaDoor

/- Rows of legs of one's own; what a text's lines tell. -/
namespace Go.Proofs.YtaplbjoghkipdaaDoor
namespace Gt
open Go.ChangeShapes Go.WideShapes Go.ChangeAt Go.RowKit
open Pk (own_at own_ge own_below own_form info_of new_below join_below heap_new lt_of kept cell_at heap_old frozen_at)
open Tk (Lg Hd Legs lgV tkV tkB okB putT)
set_option linter.unusedSimpArgs false
set_option linter.unusedVariables false

def lc1 (p : Lg) : List Value := [.int .i64 p.tr, .int .i64 p.dy, .int .i64 p.fr, .int .i64 p.to, .int .i64 p.co, .int .i64 p.se]
def lcells (l : List Lg) : List Value := l.flatMap lc1

theorem lcells_cons (p : Lg) (l : List Lg) : lcells (p :: l) = lc1 p ++ lcells l := rfl
theorem lcells_snoc (l : List Lg) (p : Lg) : lcells l ++ lc1 p = lcells (l ++ [p]) := by simp [lcells]
theorem lc1_length (p : Lg) : (lc1 p).length = 6 := rfl
theorem lcells_length (l : List Lg) : (lcells l).length = l.length * 6 := by
  induction l with
  | nil => rfl
  | cons p l ih => rw [lcells_cons, List.length_append, ih, List.length_cons, lc1_length]; omega

theorem lcells_get (l : List Lg) (k c : Nat) (hk : k < l.length) (hc : c < 6) : (lcells l)[k * 6 + c]? = (lc1 l[k])[c]? := by
  induction l generalizing k with
  | nil => simp at hk
  | cons p l ih =>
    rw [lcells_cons]
    cases k with
    | zero =>
      rw [List.getElem?_append_left (by rw [lc1_length]; omega)]
      simp
    | succ k =>
      rw [List.getElem?_append_right (by rw [lc1_length]; omega), lc1_length, show (k + 1) * 6 + c - 6 = k * 6 + c by omega, ih k (by simpa using hk)]
      simp

/-- The cells of a row of one's own. -/
theorem own_cell {w : World} {base e n z : Nat} {v : Value} {xs : List Value} (h : w.ownsRow base e z v n xs) (hn : 0 < n) :
    ∃ g cap, v = .slice (some ⟨g, 0, none⟩) n cap ∧ base ≤ g ∧ g < w.heap.size ∧ (∀ i u, xs[i]? = some u → w.cell? ⟨g, i, none⟩ = some u) ∧ ∀ i, w.frozen? ⟨g, i, none⟩ = false := by
  obtain ⟨hl, h2⟩ := h
  rcases h2 with ⟨hv, h0⟩ | ⟨g, cap, cur, hv, hg, hh, h1, h3, h4, h5⟩
  · omega
  · refine ⟨g, cap, hv, hg, lt_of hh, fun i u hu => ?_, fun i => frozen_at hh i⟩
    rw [cell_at hh]
    have hx := (List.getElem?_eq_some_iff.1 hu).1
    have h6 : (cur.toList.take (n * z))[i]? = xs[i]? := by rw [h5]
    rw [List.getElem?_take, if_pos (by omega), Array.getElem?_toList] at h6
    rw [h6]
    exact hu

/-- A row of legs of one's own is a slice of them. -/
theorem own_legs {w : World} {base e : Nat} {v : Value} {l : List Lg} (h : w.ownsRow base e 6 v l.length (lcells l)) : ∃ a cap, v = .slice a l.length cap ∧ Legs w a l := by
  by_cases h0 : l.length = 0
  · obtain ⟨a, cap, hv, -⟩ := own_form h
    exact ⟨a, cap, hv, Or.inl (List.eq_nil_of_length_eq_zero h0)⟩
  · obtain ⟨g, cap, hv, -, hg, hc, -⟩ := own_cell h (by omega)
    refine ⟨_, cap, hv, Or.inr ⟨g, 0, rfl, hg, fun i hi => ?_⟩⟩
    rw [Nat.zero_add]
    exact ⟨hc (i * 6) _ ((lcells_get l i 0 hi (by omega)).trans rfl), hc (i * 6 + 1) _ ((lcells_get l i 1 hi (by omega)).trans rfl), hc (i * 6 + 2) _ ((lcells_get l i 2 hi (by omega)).trans rfl), hc (i * 6 + 3) _ ((lcells_get l i 3 hi (by omega)).trans rfl), hc (i * 6 + 4) _ ((lcells_get l i 4 hi (by omega)).trans rfl), hc (i * 6 + 5) _ ((lcells_get l i 5 hi (by omega)).trans rfl)⟩

theorem six_at {W : World} {g : Nat} {p : Lg} {t : TypeId} (h : W.heap[g]? = some (.cells #[.int .i64 p.tr, .int .i64 p.dy, .int .i64 p.fr, .int .i64 p.to, .int .i64 p.co, .int .i64 p.se] t)) : ∀ j u, (lc1 p)[j]? = some u → W.cell? (Addr.add ⟨g, 0, none⟩ j) = some u := by
  intro j u hu
  have hj : j < 6 := (List.getElem?_eq_some_iff.1 hu).1
  have h2 := cell_at h j
  rw [show Addr.add ⟨g, 0, none⟩ j = ⟨g, j, none⟩ from by simp [Addr.add]; exact Eq.symm, h2, ← hu]
  simp [lc1]

theorem own_off {w : World} {base e z g n cap b i : Nat} {xs : List Value} (h : w.ownsRow base e z (.slice (some ⟨g, 0, none⟩) n cap) n xs) (hne : g ≠ b) (u : Value) : (w.setCell ⟨b, i, none⟩ u).ownsRow base e z (.slice (some ⟨g, 0, none⟩) n cap) n xs := by
  obtain ⟨hl, h2⟩ := h
  refine ⟨hl, ?_⟩
  rcases h2 with ⟨hv, -⟩ | ⟨g', cap', cur, hv, hg, hh, h1, h3, h4, h5⟩
  · cases hv
  · simp only [Value.slice.injEq, Option.some.injEq, Addr.mk.injEq] at hv
    obtain ⟨⟨rfl, -⟩, -, rfl⟩ := hv
    exact Or.inr ⟨g, cap, cur, rfl, hg, Tk.h_other hh hne u, h1, h3, h4, h5⟩

/-- The numbers of a head. -/
def hdOf (l : List Nat) : Hd := ⟨(l.getD 0 0 : Nat), (l.getD 1 0 : Nat), (l.getD 2 0 : Nat), (l.getD 3 0 : Nat), (l.getD 4 0 : Nat)⟩

/-- The numbers of a leg. -/
def lgOf (l : List Nat) : Lg := ⟨(l.getD 0 0 : Nat), (l.getD 1 0 : Nat), (l.getD 2 0 : Nat), (l.getD 3 0 : Nat), (l.getD 4 0 : Nat), (l.getD 5 0 : Nat)⟩

/-- A line of a text. -/
def ln (L : List ByteArray) (k : Nat) : ByteArray := L.getD k ⟨#[]⟩

theorem ln_at {L : List ByteArray} {k : Nat} (h : k < L.length) : ln L k = L[k] := by
  unfold ln
  rw [List.getD_eq_getElem?_getD, List.getElem?_eq_getElem h]
  rfl

/-- The first k legs that lines tell. -/
def legsL (L : List ByteArray) (k : Nat) : List Lg := (List.range k).map fun j => lgOf (numsL (ln L (j + 2)))

theorem legsL_length (L : List ByteArray) (k : Nat) : (legsL L k).length = k := by simp [legsL]

theorem legsL_step (L : List ByteArray) (k : Nat) : legsL L (k + 1) = legsL L k ++ [lgOf (numsL (ln L (k + 2)))] := by
  unfold legsL
  rw [List.range_succ, List.map_append]
  rfl

/-- The plain text of a right ticket. -/
def Good (s : ByteArray) (t : Hd) (nm : ByteArray) (ls : List Lg) : Prop := okB t nm ls = true ∧ putT t nm ls ls.length = s

def headW : ByteArray := ⟨#[104, 101, 97, 100]⟩
def legW : ByteArray := ⟨#[108, 101, 103]⟩

/-- What the lines of a plain text are. -/
structure Shape (L : List ByteArray) (t : Hd) (nm : ByteArray) (ls : List Lg) : Prop where
  len : L.length = ls.length + 3
  head : NumsOk (ln L 0) headW 5
  hd : hdOf (numsL (ln L 0)) = t
  name5 : 5 ≤ (ln L 1).size
  name : (ln L 1).extract 5 (ln L 1).size = nm
  leg : ∀ k, k < ls.length → NumsOk (ln L (k + 2)) legW 6
  legs : legsL L ls.length = ls

end Gt
end Go.Proofs.YtaplbjoghkipdaaDoor

/- The lines of a ticket's plain text, and their words: the mathematics. -/
namespace Go.Proofs.YtaplbjoghkipdaaDoor
namespace Gt
open Go.ChangeShapes Go.WideShapes Go.ChangeAt Go.RowKit
open Tk (Lg Hd okB putT headT legT ws Nums)
open Num (decS)
set_option linter.unusedSimpArgs false
set_option linter.unusedVariables false

/-- The bytes of a text. -/
abbrev bl (s : ByteArray) : List UInt8 := s.data.toList

theorem bl_ext {a b : ByteArray} (h : bl a = bl b) : a = b := Go.WideShapes.bytes_inj h

theorem bl_append (a b : ByteArray) : bl (a ++ b) = bl a ++ bl b := by
  unfold bl
  rw [ByteArray.data_append, Array.toList_append]

theorem bl_length (s : ByteArray) : (bl s).length = s.size := Array.length_toList

theorem bl_extract (s : ByteArray) (f i : Nat) : bl (s.extract f i) = ((bl s).take i).drop f := by
  unfold bl
  rw [ByteArray.data_extract, Array.toList_extract, List.extract_eq_take_drop]
  rw [List.drop_take]

/-- The parts of bytes between a byte, where cur stands ahead. -/
def splG (c : UInt8) : List UInt8 → List UInt8 → List (List UInt8)
  | [], cur => [cur]
  | x :: l, cur => if x = c then cur :: splG c l [] else splG c l (cur ++ [x])

theorem splF_list (c : UInt8) (s : ByteArray) : ∀ n i f, i + n = s.size → f ≤ i → (splF c s n i f).map bl = splG c ((bl s).drop i) (((bl s).take i).drop f)
  | 0, i, f, h, hf => by
    have hl := bl_length s
    rw [List.drop_eq_nil_of_le (by omega)]
    show [bl (s.extract f s.size)] = [_]
    rw [bl_extract, show i = s.size from by omega]
  | n + 1, i, f, h, hf => by
    have hl := bl_length s
    have hi : i < (bl s).length := by omega
    have hb : bt s i = (bl s)[i] := by
      unfold bt
      rw [List.getD_eq_getElem?_getD, List.getElem?_eq_getElem hi]
      rfl
    rw [List.drop_eq_getElem_cons hi]
    unfold splF splG
    rw [hb]
    by_cases e : (bl s)[i] = c
    · rw [if_pos e, if_pos e]
      show bl (s.extract f i) :: (splF c s n (i + 1) (i + 1)).map bl = _
      have h0 : ((bl s).take (i + 1)).drop (i + 1) = [] := List.drop_eq_nil_of_le (by rw [List.length_take]; omega)
      rw [bl_extract, splF_list c s n (i + 1) (i + 1) (by omega) (Nat.le_refl _), h0]
    · rw [if_neg e, if_neg e, splF_list c s n (i + 1) f (by omega) (by omega)]
      congr 1
      rw [List.take_succ_eq_append_getElem hi, List.drop_append_of_le_length (by rw [List.length_take]; omega)]

theorem split_list (c : UInt8) (s : ByteArray) : (split c s).map bl = splG c (bl s) [] := by
  have := splF_list c s s.size 0 0 (by omega) (Nat.le_refl _)
  show (splF c s s.size 0 0).map bl = _
  simpa using this

theorem splG_run (c : UInt8) (a r : List UInt8) (cur : List UInt8) (h : c ∉ a) : splG c (a ++ c :: r) cur = (cur ++ a) :: splG c r [] := by
  induction a generalizing cur with
  | nil => simp [splG]
  | cons x a ih =>
    rw [List.mem_cons, not_or] at h
    rw [List.cons_append, splG, if_neg (fun e => h.1 e.symm), ih (cur ++ [x]) h.2]
    simp

theorem splG_end (c : UInt8) (a : List UInt8) (cur : List UInt8) (h : c ∉ a) : splG c a cur = [cur ++ a] := by
  induction a generalizing cur with
  | nil => simp [splG]
  | cons x a ih =>
    rw [List.mem_cons, not_or] at h
    rw [splG, if_neg (fun e => h.1 e.symm), ih (cur ++ [x]) h.2]
    simp

/-- Lines that each end with the byte. -/
theorem splG_lines (c : UInt8) (Ls : List (List UInt8)) (h : ∀ a ∈ Ls, c ∉ a) : splG c (Ls.flatMap fun a => a ++ [c]) [] = Ls ++ [[]] := by
  induction Ls with
  | nil => rfl
  | cons a Ls ih =>
    have e : (a :: Ls).flatMap (fun a => a ++ [c]) = a ++ c :: Ls.flatMap (fun a => a ++ [c]) := by simp
    rw [e, splG_run c a _ [] (h a List.mem_cons_self), ih (fun b hb => h b (List.mem_cons_of_mem _ hb))]
    rfl

/-- A word and words that each come behind the byte. -/
theorem splG_words (c : UInt8) (a : List UInt8) (ds : List (List UInt8)) (ha : c ∉ a) (hd : ∀ d ∈ ds, c ∉ d) : splG c (a ++ ds.flatMap fun d => c :: d) [] = a :: ds := by
  induction ds generalizing a with
  | nil => simp [splG_end c a [] ha]
  | cons d ds ih =>
    have e : a ++ (d :: ds).flatMap (fun d => c :: d) = a ++ c :: (d ++ ds.flatMap (fun d => c :: d)) := by simp
    rw [e, splG_run c a _ [] ha, ih d (hd d List.mem_cons_self) (fun b hb => hd b (List.mem_cons_of_mem _ hb))]
    rfl

/-- The decimal digits of a number. -/
theorem dec_all (n : Nat) : Math.AllD (Lib.decDigits n) := by
  induction n using Nat.strongRecOn with
  | _ n ih =>
    by_cases h : n < 10
    · rw [Math.dec_small n h]
      have : Math.AllD ([] ++ [UInt8.ofNat (48 + n)]) := Math.AllD.snoc (fun b hb => by cases hb) (by rw [UInt8.toNat_ofNat']; omega)
      exact this
    · rw [Math.dec_big n h]
      exact Math.AllD.snoc (ih (n / 10) (by omega)) (by rw [UInt8.toNat_ofNat']; omega)

theorem dec_val' (n : Nat) : Math.val (Lib.decDigits n) = n := by
  induction n using Nat.strongRecOn with
  | _ n ih =>
    by_cases h : n < 10
    · rw [Math.dec_small n h]
      have : Math.val ([] ++ [UInt8.ofNat (48 + n)]) = 10 * Math.val [] + ((UInt8.ofNat (48 + n)).toNat - 48) := Math.val_snoc _ _
      rw [List.nil_append] at this
      rw [this, UInt8.toNat_ofNat']
      show 10 * 0 + _ = _
      omega
    · rw [Math.dec_big n h, Math.val_snoc, ih (n / 10) (by omega), UInt8.toNat_ofNat']
      omega

theorem dec_read (n : Nat) (h : n ≤ 999999999) : Math.ReadOk (Lib.decDigits n) := by
  refine ⟨dec_all n, ?_, ?_, ?_⟩
  · have := Math.dec_ne n
    cases hd : Lib.decDigits n with
    | nil => exact absurd hd this
    | cons a l => simp
  · rw [Math.dec_len]
    exact Math.nd_le 8 n (by omega)
  · by_cases h0 : n = 0
    · subst h0
      left
      rw [Math.dec_small 0 (by omega)]
      rfl
    · exact Or.inr (Math.dec_head n (by omega))

theorem dec_bl (z : Int) (h : 0 ≤ z) : bl (decS z) = Lib.decDigits z.toNat := by
  obtain ⟨n, rfl⟩ : ∃ n : Nat, z = n := ⟨z.toNat, by omega⟩
  unfold decS bl Lib.itoa
  simp

theorem dec_no (n : Nat) (c : UInt8) (h : c.toNat < 48) : c ∉ Lib.decDigits n := by
  intro hm
  have := dec_all n c hm
  omega

theorem ws_bl (zs : List Int) : bl (ws zs) = zs.flatMap fun z => 32 :: bl (decS z) := by
  have e : ∀ (o : ByteArray), bl (zs.foldl (fun o z => o ++ (⟨#[32]⟩ ++ decS z)) o) = bl o ++ zs.flatMap fun z => 32 :: bl (decS z) := by
    induction zs with
    | nil => intro o; simp
    | cons z zs ih =>
      intro o
      rw [List.foldl_cons, ih, bl_append, bl_append, List.append_assoc, List.append_assoc]
      rfl
  have := e ⟨#[]⟩
  exact this

theorem map_bl : ∀ {l m : List ByteArray}, l.map bl = m.map bl → l = m
  | [], [], _ => rfl
  | [], _ :: _, h => by cases h
  | _ :: _, [], h => by cases h
  | a :: l, b :: m, h => by
    rw [List.map_cons, List.map_cons, List.cons.injEq] at h
    rw [bl_ext h.1, map_bl h.2]

/-- A line of a word and numbers. -/
def lineL (wd : List UInt8) (zs : List Int) : List UInt8 := wd ++ zs.flatMap fun z => 32 :: bl (decS z)

theorem line_no (wd : List UInt8) (zs : List Int) (hw : (10 : UInt8) ∉ wd) (hz : Nums zs) : (10 : UInt8) ∉ lineL wd zs := by
  unfold lineL
  rw [List.mem_append, not_or]
  refine ⟨hw, ?_⟩
  rw [List.mem_flatMap]
  rintro ⟨z, hz1, hm⟩
  rcases List.mem_cons.1 hm with h | h
  · cases h
  · rw [dec_bl z (hz z hz1).1] at h
    exact dec_no _ 10 (by decide) h

theorem line_words (x : ByteArray) (wd : ByteArray) (zs : List Int) (hw : (32 : UInt8) ∉ bl wd) (hz : Nums zs) (hx : bl x = lineL (bl wd) zs) : NumsOk x wd zs.length ∧ numsL x = zs.map Int.toNat := by
  have h1 : (split 32 x).map bl = bl wd :: zs.map (fun z => bl (decS z)) := by
    rw [split_list, hx]
    unfold lineL
    have e : (zs.flatMap fun z => 32 :: bl (decS z)) = (zs.map fun z => bl (decS z)).flatMap fun d => 32 :: d := by
      rw [List.flatMap_map]
    rw [e]
    refine splG_words 32 (bl wd) _ hw ?_
    intro d hd hm
    obtain ⟨z, hz1, rfl⟩ := List.mem_map.1 hd
    rw [dec_bl z (hz z hz1).1] at hm
    exact dec_no _ 32 (by decide) hm
  obtain ⟨y, ys, hy, hy1, hy2⟩ : ∃ y ys, split 32 x = y :: ys ∧ bl y = bl wd ∧ ys.map bl = zs.map (fun z => bl (decS z)) := by
    cases hs : split 32 x with
    | nil => rw [hs] at h1; cases h1
    | cons y ys =>
      rw [hs, List.map_cons, List.cons.injEq] at h1
      exact ⟨y, ys, rfl, h1.1, h1.2⟩
  have hys : ys = zs.map decS := by
    have e2 : zs.map (fun z => bl (decS z)) = (zs.map decS).map bl := by rw [List.map_map]; rfl
    rw [e2] at hy2
    exact map_bl hy2
  have hrd : ∀ z ∈ zs, Rd (decS z) ∧ vl (decS z) = z.toNat := by
    intro z hz1
    have hb := hz z hz1
    unfold Rd vl
    rw [show (decS z).data.toList = Lib.decDigits z.toNat from dec_bl z hb.1]
    exact ⟨dec_read _ (by omega), dec_val' _⟩
  refine ⟨⟨?_, ?_, ?_⟩, ?_⟩
  · rw [hy, List.head?_cons, bl_ext hy1]
  · rw [hy, hys, List.length_cons, List.length_map]
  · rw [hy, List.tail_cons, hys]
    intro d hd
    obtain ⟨z, hz1, rfl⟩ := List.mem_map.1 hd
    exact (hrd z hz1).1
  · unfold numsL
    rw [hy, List.tail_cons, hys, List.map_map]
    apply List.map_congr_left
    intro z hz1
    exact (hrd z hz1).2

end Gt
end Go.Proofs.YtaplbjoghkipdaaDoor

/- Blocks of cells that are told by a function of their number. -/
namespace Go.Proofs.YtaplbjoghkipdaaDoor
namespace Sq
open Go.ChangeShapes Go.WideShapes Go.ChangeAt Go.RowKit
set_option linter.unusedSimpArgs false
set_option linter.unusedVariables false

/-- The cells f 0, f 1, .. -/
def tab (c : Nat) (f : Nat → Value) : Array Value := ((List.range c).map f).toArray

theorem tab_at (c : Nat) (f : Nat → Value) (i : Nat) (h : i < c) : (tab c f)[i]? = some (f i) := by simp [tab, h]

theorem tab_size (c : Nat) (f : Nat → Value) : (tab c f).size = c := by simp [tab]

theorem tab_congr {c : Nat} {f g : Nat → Value} (h : ∀ j, j < c → f j = g j) : tab c f = tab c g := by
  unfold tab
  congr 1
  exact List.map_congr_left fun j hj => h j (List.mem_range.1 hj)

theorem tab_set (c : Nat) (f : Nat → Value) (i : Nat) (u : Value) : (tab c f).setIfInBounds i u = tab c (fun j => if j = i then u else f j) := by
  apply Array.ext
  · simp [tab]
  · intro j h1 h2
    have hj : j < c := by simpa [tab] using h2
    by_cases e : i = j
    · subst e; simp [tab]
    · simp [tab, e, Ne.symm e, Array.getElem_setIfInBounds]

theorem row_at {w : World} {g c : Nat} {f : Nat → Value} {t : TypeId} (h : w.heap[g]? = some (.cells (tab c f) t)) (i : Nat) (hi : i < c) : w.cell? ⟨g, i, none⟩ = some (f i) := by
  rw [Pk.cell_at h i, tab_at c f i hi]

theorem row_set {w : World} {g c : Nat} {f f' : Nat → Value} {t : TypeId} (h : w.heap[g]? = some (.cells (tab c f) t)) (i : Nat) (u : Value) (hf : ∀ j, j < c → f' j = if j = i then u else f j) : (w.setCell ⟨g, i, none⟩ u).heap[g]? = some (.cells (tab c f') t) := by
  rw [tab_congr hf, ← tab_set]
  unfold World.setCell
  simp [Array.getElem?_modify, h]

theorem made_tab (z : Value) (hz : z.cells = #[z]) (c : Nat) : madeCells z.cells (c * 1) = tab c (fun _ => z) := by
  apply Array.ext
  · simp [madeCells, tab]
  · intro i h1 h2
    simp [madeCells, tab, hz, Nat.mod_one]

theorem make_run (t e : TypeId) (z : Value) (b c : Nat) (ht : Tryd.prog.underlying t = some (.slice e)) (hi : (Tryd.prog.info? e).map (fun i => (i.zero, i.size, i.bytes)) = some (some z, 1, b)) (hz : z.cells = #[z]) (hc : b * c ≤ 281474976710656) (h63 : c ≤ 281474976710656) (w : World) :
    (Instr.makeSlice t (.int .i64 c) (.int .i64 c)).run Tryd.prog w = .ok (.slice (some ⟨w.heap.size, 0, none⟩) c c) (w.alloc (.cells (tab c (fun _ => z)) e)) := by
  obtain ⟨i, h1, h2, h3, h4⟩ := Pk.info_of hi
  have h := run_make (P := Tryd.prog) w t e i z ht h1 h2 .i64 .i64 c c (by omega) (by omega) (by rw [h4]; omega) (by omega)
  rw [Int.toNat_natCast, h3, made_tab z hz] at h
  exact h

theorem row_own {w : World} {g c : Nat} {f : Nat → Value} {e : TypeId} (h : w.heap[g]? = some (.cells (tab c f) e)) (hc : c ≤ maxLen) {B : Nat} (hB : B ≤ g) : w.ownsRow B e 1 (.slice (some ⟨g, 0, none⟩) c c) c ((List.range c).map f) :=
  ⟨by simp, .inr ⟨g, c, tab c f, rfl, hB, h, Nat.le_refl _, hc, by rw [tab_size, Nat.mul_one], by rw [Nat.mul_one]; show ((List.range c).map f).take c = _; exact List.take_of_length_le (by simp)⟩⟩

end Sq
end Go.Proofs.YtaplbjoghkipdaaDoor

/- The library's variable that its search reads; the number that a word tells. -/
namespace Go.Proofs.YtaplbjoghkipdaaDoor
namespace Gt
open Go.ChangeShapes Go.WideShapes Go.ChangeAt Go.RowKit
set_option linter.unusedSimpArgs false
set_option linter.unusedVariables false

/-- The library's variable that its search reads holds a number. -/
def ML (w : World) : Prop := ∃ m : Int, w.cell? ⟨1, 0, none⟩ = some (.int .i64 m)

theorem ML.on {w w1 : World} (h : ML w) (L : Below w.heap.size w w1) : ML w1 := by
  obtain ⟨m, hm⟩ := h
  exact ⟨m, by rw [L.cell (World.block_lt_of_cell? w _ hm)]; exact hm⟩

theorem ML.drew {w : World} (h : ML w) : ML w.drew := h

open Classical in
/-- The number that a word tells, or nought. -/
noncomputable def rv (x : ByteArray) : Nat := if Rd x then vl x else 0

theorem rv_yes {x : ByteArray} (h : Rd x) : rv x = vl x := by unfold rv; rw [if_pos h]

theorem rv_no {x : ByteArray} (h : ¬ Rd x) : rv x = 0 := by unfold rv; rw [if_neg h]

theorem rv_bd (x : ByteArray) : rv x ≤ 999999999 := by
  by_cases h : Rd x
  · rw [rv_yes h]; exact vl_bd h
  · rw [rv_no h]; omega

theorem info_int' : (Tryd.prog.info? 3).map (fun i => (i.zero, i.size, i.bytes)) = some (some (.int .i64 0), 1, 8) := by kernel_rfl

end Gt
end Go.Proofs.YtaplbjoghkipdaaDoor

/- The numbers that a text begins with: the program's cutNumbers. -/
namespace Go.Proofs.YtaplbjoghkipdaaDoor
namespace Wn
open Go.ChangeShapes Go.WideShapes Go.ChangeAt Go.RowKit
open Pk (own_at own_ge own_below info_of new_below join_below heap_new info_int lt_of kept cell_at heap_old frozen_at)
open Sq (tab row_at row_set make_run tab_at)
open Gt (ML rv rv_yes rv_no Rd vl)
set_option linter.unusedSimpArgs false
set_option linter.unusedVariables false

/-- What stands ahead of the first blank, and what behind it. -/
def cA (s : ByteArray) : ByteArray := ⟨(Lib.cut s.data.toList [32]).1.toArray⟩
def cR (s : ByteArray) : ByteArray := ⟨(Lib.cut s.data.toList [32]).2.1.toArray⟩
def cB (s : ByteArray) : Bool := (Lib.cut s.data.toList [32]).2.2

theorem c_size (s : ByteArray) : (cA s).size ≤ s.size ∧ (cR s).size ≤ s.size := by
  have hl : s.data.toList.length = s.size := Array.length_toList
  have e : ∀ l : List UInt8, (⟨l.toArray⟩ : ByteArray).size = l.length := fun l => by simp [ByteArray.size]
  unfold cA cR
  simp only [e]
  generalize s.data.toList = l at *
  unfold Lib.cut
  split
  · simp only [List.length_take, List.length_drop]
    have h1 : ([32] : List UInt8).length = 1 := rfl
    omega
  · simp only [List.length_nil]
    omega

theorem below_drewN {B : Nat} {a w : World} (h : Below B a w) (n : Nat) : Below B a (w.drewN n) := ⟨h.os, h.tape, h.output, h.size, h.block⟩

theorem cutb_val (s : ByteArray) (w : World) (hs : s.size ≤ 1048576) (M : ML w) :
    Calls Tryd.prog 45 #[.string s, .string ⟨#[32]⟩] w fun e w' => e = .returned (.tuple #[.string (cA s), .string (cR s), .bool (cB s)]) ∧ Below w.heap.size w w' := by
  obtain ⟨m, hm⟩ := M
  refine (Tryd.strings_Cut s ⟨#[32]⟩ m w (by omega) hm).mono ?_
  rintro e w' ⟨rfl, n, rfl⟩
  exact ⟨rfl, below_drewN (Below.refl _ _) n⟩

/-- What is left behind k words, and the number that word k tells. -/
def cZ (s : ByteArray) : Nat → ByteArray
  | 0 => s
  | k + 1 => cR (cZ s k)

noncomputable def nW (s : ByteArray) (j : Nat) : Nat := rv (cA (cZ s j))

theorem cZ_size (s : ByteArray) : ∀ k, (cZ s k).size ≤ s.size
  | 0 => Nat.le_refl _
  | k + 1 => Nat.le_trans (c_size (cZ s k)).2 (cZ_size s k)

theorem nW_bd (s : ByteArray) (j : Nat) : nW s j ≤ 999999999 := Gt.rv_bd _

/-- The cells behind i words. -/
noncomputable def wF (s : ByteArray) (i j : Nat) : Value := .int .i64 ((if j < i then nW s j else 0 : Nat) : Int)

theorem wF_step (s : ByteArray) (i j : Nat) : wF s (i + 1) j = if j = i then .int .i64 ((nW s i : Nat) : Int) else wF s i j := by
  unfold wF
  by_cases e : j = i
  · rw [if_pos e, if_pos (by omega), e]
  · rw [if_neg e]
    by_cases h : j < i
    · rw [if_pos h, if_pos (by omega)]
    · rw [if_neg h, if_neg (by omega)]

open Classical in
/-- Whether a word tells a number. -/
noncomputable def rB (x : ByteArray) : Bool := decide (Rd x)

theorem rB_yes {x : ByteArray} (h : Rd x) : rB x = true := by unfold rB; simp [h]
theorem rB_no {x : ByteArray} (h : ¬ Rd x) : rB x = false := by unfold rB; simp [h]

theorem read_any (s : ByteArray) (w : World) (hs : s.size ≤ maxLen) :
    Calls Tryd.prog 46 #[.string s] w fun e w' => e = .returned (.tuple #[.int .i64 ((rv s : Nat) : Int), .bool (rB s)]) ∧ w' = w := by
  by_cases h : Rd s
  · rw [rv_yes h, rB_yes h]
    exact Num.implReadDec_yes s w hs h
  · rw [rv_no h, rB_no h]
    exact Num.implReadDec_no s w hs h

set_option maxRecDepth 100000 in
set_option maxHeartbeats 4000000 in
theorem cutNumbers_val (s : ByteArray) (c : Nat) (w : World) (hs : s.size ≤ 1048576) (hc1 : 1 ≤ c) (hc : c ≤ 10) (M : ML w) :
    Calls Tryd.prog 34 #[.string s, .int .i64 c] w fun e w' => (∃ g, e = .returned (.tuple #[.slice (some ⟨g, 0, none⟩) c c, .string (cZ s c)]) ∧ w.heap.size ≤ g ∧ g < w'.heap.size ∧ ∀ j, j < c → w'.cell? ⟨g, j, none⟩ = some (.int .i64 ((nW s j : Nat) : Int))) ∧ Below w.heap.size w w' := by
  have hmk := make_run 38 3 _ 8 c Tryd.underlying38 Gt.info_int' rfl (by omega) (by omega)
  have N1 := new_below w (.cells (tab c (fun _ => .int .i64 0)) 3)
  have m1 := heap_new w (.cells (tab c (fun _ => .int .i64 0)) 3)
  have HIS : Hid (∀ i j, _) := wF_step s
  have HIF : Hid (∀ i j, wF s i j = .int .i64 ((if j < i then nW s j else 0 : Nat) : Int)) := fun i j => rfl
  have H0 : Hid (tab c (fun _ => .int .i64 0) = tab c (wF s 0)) := by
    show _ = _
    unfold tab
    congr 1
  have HML : Hid (∀ W, Below w.heap.size w W → ML W) := fun W L => M.on L
  have HZS : Hid (∀ k, (cZ s k).size ≤ s.size) := cZ_size s
  have hcI : (c : Int) ≤ 10 := by omega
  rw [H0.out] at m1
  go_enter Tryd.func34, Tryd.ntmps34
  go_wp2
  go_loopw [0, 13] (fun t i wr => ∃ k : Nat, k ≤ c ∧ i = .int .i64 k ∧ t = .string (cZ s k) ∧ wr.heap[w.heap.size]? = some (.cells (tab c (wF s k)) 3) ∧ Hid (Below w.heap.size w wr)) (fun _ i _ => c - (intOf i).toNat)
  case atStart => exact ⟨0, by omega, rfl, rfl, m1, N1⟩
  case round =>
    clear m1 N1 H0 hmk
    obtain ⟨k, hk, rfl, rfl, m4, K4⟩ := hrel
    by_cases hlt : k < c
    · have hki : (k : Int) < (c : Int) := by omega
      have hk0 : (0 : Int) ≤ (k : Int) := by omega
      have hz := HZS.out k
      have HCV : Hid (∀ W, ML W → _) := fun W h => cutb_val (cZ s k) W (by omega) h
      have hcz := (c_size (cZ s k)).1
      have HRV : Hid (∀ W, _) := fun W => read_any (cA (cZ s k)) W (by unfold maxLen; omega)
      have HN : Hid (nW s k = rv (cA (cZ s k))) := rfl
      have HR : Hid (cZ s (k + 1) = cR (cZ s k)) := rfl
      rw [← HN.out] at HRV
      generalize rB (cA (cZ s k)) = bd at *
      generalize cB (cZ s k) = bb at *
      generalize hr : cR (cZ s k) = rr at *
      generalize cA (cZ s k) = aa at *
      generalize cZ s k = zz at *
      go_wp2_with fail
      refine (HCV.out _ (HML.out _ K4.out)).mono ?_
      rintro e w5 ⟨rfl, L5⟩
      have m5 := kept L5 (lt_of m4) m4
      have K5 := join_below K4.out L5
      clear m4 K4 L5 HCV
      go_wp2_with fail
      refine (HRV.out _).mono ?_
      rintro e w6 ⟨rfl, hw6⟩
      have hw7 := hw6.symm
      subst hw7
      have f0 : w5.frozen? ⟨w.heap.size, k, none⟩ = false := frozen_at m5 k
      have r1 : w5.cell? ⟨w.heap.size, k, none⟩ = some (wF s k k) := row_at m5 k hlt
      have m6 := row_set (f' := wF s (k + 1)) m5 k (.int .i64 ((nW s k : Nat) : Int)) (fun j _ => HIS.out k j)
      have K6 := K5.setCell (p := ⟨w.heap.size, k, none⟩) (Nat.le_refl _) (.int .i64 ((nW s k : Nat) : Int))
      generalize wF s k k = old at *
      generalize nW s k = nv at *
      go_wp2
      go_roundw
      case rel => exact ⟨k + 1, by omega, by go_num, by rw [HR.out], m6, K6⟩
      case measure => simp [intOf]; omega
    · obtain rfl : k = c := by omega
      have hki : ¬ (k : Int) < (k : Int) := by omega
      have HC : Hid (∀ j, j < k → wr.cell? ⟨w.heap.size, j, none⟩ = some (.int .i64 ((nW s j : Nat) : Int))) := fun j hj => by
        rw [row_at m4 j hj, HIF.out, if_pos hj]
      have hgl := lt_of m4
      go_wp2
      go_ret2
      exact ⟨⟨w.heap.size, rfl, Nat.le_refl _, hgl, HC.out⟩, K4.out⟩

/-- The ride that a text begins with; some of them; and what is left. -/
noncomputable def rI (r : ByteArray) : Rd.Ri := ⟨(nW r 0 : Nat), (nW r 1 : Nat), (nW r 2 : Nat), (nW r 3 : Nat)⟩

noncomputable def gQ : Nat → ByteArray → List Rd.Ri
  | 0, _ => []
  | n + 1, r => rI r :: gQ n (cZ r 4)

def gE : Nat → ByteArray → ByteArray
  | 0, r => r
  | n + 1, r => gE n (cZ r 4)

/-- What guessWant guesses. -/
noncomputable def gwH (s : ByteArray) : Wh := ⟨(nW s 0 : Nat), (nW s 1 : Nat), (nW s 2 : Nat), (nW s 3 : Nat), (nW s 4 : Nat)⟩
noncomputable def gwR (s : ByteArray) : List Rd.Ri := gQ (min (nW s 5) 6) (cZ s 6)
noncomputable def gwN (s : ByteArray) : ByteArray := gE (min (nW s 5) 6) (cZ s 6)

theorem gQ_length : ∀ n r, (gQ n r).length = n
  | 0, _ => rfl
  | n + 1, r => by rw [gQ, List.length_cons, gQ_length n]

theorem gE_size : ∀ n r, (gE n r).size ≤ r.size
  | 0, _ => Nat.le_refl _
  | n + 1, r => Nat.le_trans (gE_size n (cZ r 4)) (cZ_size r 4)

theorem gwN_size (s : ByteArray) : (gwN s).size ≤ s.size := Nat.le_trans (gE_size _ _) (cZ_size s 6)

theorem gwR_length (s : ByteArray) : (gwR s).length ≤ 6 := by
  unfold gwR
  rw [gQ_length]
  omega

end Wn
end Go.Proofs.YtaplbjoghkipdaaDoor

/- Rows of rides of one's own. -/
namespace Go.Proofs.YtaplbjoghkipdaaDoor
namespace Wn
open Go.ChangeShapes Go.WideShapes Go.ChangeAt Go.RowKit
open Pk (own_at own_ge own_below own_form info_of new_below join_below heap_new lt_of kept cell_at heap_old frozen_at)
open Rd (Ri Rides)
set_option linter.unusedSimpArgs false
set_option linter.unusedVariables false

def qc1 (p : Ri) : List Value := [.int .i64 p.tr, .int .i64 p.dy, .int .i64 p.fr, .int .i64 p.to]
def qcells (l : List Ri) : List Value := l.flatMap qc1

theorem qcells_cons (p : Ri) (l : List Ri) : qcells (p :: l) = qc1 p ++ qcells l := rfl
theorem qcells_snoc (l : List Ri) (p : Ri) : qcells l ++ qc1 p = qcells (l ++ [p]) := by simp [qcells]
theorem qc1_length (p : Ri) : (qc1 p).length = 4 := rfl
theorem qcells_length (l : List Ri) : (qcells l).length = l.length * 4 := by
  induction l with
  | nil => rfl
  | cons p l ih => rw [qcells_cons, List.length_append, ih, List.length_cons, qc1_length]; omega

theorem qcells_get (l : List Ri) (k c : Nat) (hk : k < l.length) (hc : c < 4) : (qcells l)[k * 4 + c]? = (qc1 l[k])[c]? := by
  induction l generalizing k with
  | nil => simp at hk
  | cons p l ih =>
    rw [qcells_cons]
    cases k with
    | zero =>
      rw [List.getElem?_append_left (by rw [qc1_length]; omega)]
      simp
    | succ k =>
      rw [List.getElem?_append_right (by rw [qc1_length]; omega), qc1_length, show (k + 1) * 4 + c - 4 = k * 4 + c by omega, ih k (by simpa using hk)]
      simp

/-- The cells of a row of one's own. -/
theorem own_cell {w : World} {base e n z : Nat} {v : Value} {xs : List Value} (h : w.ownsRow base e z v n xs) (hn : 0 < n) :
    ∃ g cap, v = .slice (some ⟨g, 0, none⟩) n cap ∧ base ≤ g ∧ g < w.heap.size ∧ (∀ i u, xs[i]? = some u → w.cell? ⟨g, i, none⟩ = some u) ∧ ∀ i, w.frozen? ⟨g, i, none⟩ = false := by
  obtain ⟨hl, h2⟩ := h
  rcases h2 with ⟨hv, h0⟩ | ⟨g, cap, cur, hv, hg, hh, h1, h3, h4, h5⟩
  · omega
  · refine ⟨g, cap, hv, hg, lt_of hh, fun i u hu => ?_, fun i => frozen_at hh i⟩
    rw [cell_at hh]
    have hx := (List.getElem?_eq_some_iff.1 hu).1
    have h6 : (cur.toList.take (n * z))[i]? = xs[i]? := by rw [h5]
    rw [List.getElem?_take, if_pos (by omega), Array.getElem?_toList] at h6
    rw [h6]
    exact hu

/-- A row of rides of one's own is a slice of them. -/
theorem own_rides {w : World} {base e : Nat} {v : Value} {l : List Ri} (h : w.ownsRow base e 4 v l.length (qcells l)) : ∃ a cap, v = .slice a l.length cap ∧ Rides w a l := by
  by_cases h0 : l.length = 0
  · obtain ⟨a, cap, hv, -⟩ := own_form h
    exact ⟨a, cap, hv, Or.inl (List.eq_nil_of_length_eq_zero h0)⟩
  · obtain ⟨g, cap, hv, -, hg, hc, -⟩ := own_cell h (by omega)
    refine ⟨_, cap, hv, Or.inr ⟨g, 0, rfl, hg, fun i hi => ?_⟩⟩
    rw [Nat.zero_add]
    exact ⟨hc (i * 4) _ ((qcells_get l i 0 hi (by omega)).trans rfl), hc (i * 4 + 1) _ ((qcells_get l i 1 hi (by omega)).trans rfl), hc (i * 4 + 2) _ ((qcells_get l i 2 hi (by omega)).trans rfl), hc (i * 4 + 3) _ ((qcells_get l i 3 hi (by omega)).trans rfl)⟩

theorem own_off {w : World} {base e z g n cap b i : Nat} {xs : List Value} (h : w.ownsRow base e z (.slice (some ⟨g, 0, none⟩) n cap) n xs) (hne : g ≠ b) (u : Value) : (w.setCell ⟨b, i, none⟩ u).ownsRow base e z (.slice (some ⟨g, 0, none⟩) n cap) n xs := by
  obtain ⟨hl, h2⟩ := h
  refine ⟨hl, ?_⟩
  rcases h2 with ⟨hv, -⟩ | ⟨g', cap', cur, hv, hg, hh, h1, h3, h4, h5⟩
  · cases hv
  · simp only [Value.slice.injEq, Option.some.injEq, Addr.mk.injEq] at hv
    obtain ⟨⟨rfl, -⟩, -, rfl⟩ := hv
    exact Or.inr ⟨g, cap, cur, rfl, hg, Tk.h_other hh hne u, h1, h3, h4, h5⟩

theorem own_offv {w : World} {base e z n b i : Nat} {v : Value} {xs : List Value} (h : w.ownsRow base e z v n xs) (hne : v.ownBlock ≠ some b) (u : Value) : (w.setCell ⟨b, i, none⟩ u).ownsRow base e z v n xs := by
  obtain ⟨hl, h2⟩ := h
  refine ⟨hl, ?_⟩
  rcases h2 with h2 | ⟨g', cap', cur, hv, hg, hh, h1, h3, h4, h5⟩
  · exact Or.inl h2
  · subst hv
    have hne2 : g' ≠ b := fun e => hne (by rw [e]; rfl)
    exact Or.inr ⟨g', cap', cur, rfl, hg, Tk.h_other hh hne2 u, h1, h3, h4, h5⟩

end Wn
end Go.Proofs.YtaplbjoghkipdaaDoor

/- A want's line, and what can be read off it: the mathematics. -/
namespace Go.Proofs.YtaplbjoghkipdaaDoor
namespace Wn
open Go.ChangeShapes Go.WideShapes Go.ChangeAt Go.RowKit
open Tk (Nums)
open Num (decS)
open Gt (bl bl_ext bl_append bl_length dec_bl dec_no dec_read dec_val' Rd vl rv rv_yes)
set_option linter.unusedSimpArgs false
set_option linter.unusedVariables false

/-- The line of a right want. -/
def Good (s : ByteArray) (t : Wh) (nm : ByteArray) (ls : List Rd.Ri) : Prop := wlB t nm ls = true ∧ dl (wz t ls) ++ nm = s

/-- What ReadWant answers. -/
def GetEnd (s : ByteArray) (base : Nat) (e : Ending) (w : World) : Prop :=
  (∃ t nm ls a cap, Good s t nm ls ∧ e = .returned (.tuple #[wnV t nm a ls.length cap, .bool true]) ∧ w.ownsRow base 43 4 (.slice a ls.length cap) ls.length (qcells ls)) ∨
  ((∀ t nm ls, ¬ Good s t nm ls) ∧ e = .returned (.tuple #[wnV ⟨0, 0, 0, 0, 0⟩ ⟨#[]⟩ none 0 0, .bool false]))

theorem wl_parts {t : Wh} {nm : ByteArray} {ls : List Rd.Ri} (h : wlB t nm ls = true) : Nums (wz t ls) ∧ ls.length ≤ 6 ∧ Tk.nameB nm = true := by
  unfold wlB at h
  simp only [Bool.and_eq_true, decide_eq_true_eq] at h
  exact ⟨okZ_nums h.1.1, h.1.2, h.2⟩

theorem wlS_yes {t : Wh} {nm : ByteArray} {ls : List Rd.Ri} (h : wlB t nm ls = true) : wlS t nm ls = dl (wz t ls) ++ nm := if_pos h
theorem wlS_no {t : Wh} {nm : ByteArray} {ls : List Rd.Ri} (h : wlB t nm ls = false) : wlS t nm ls = ⟨#[]⟩ := if_neg (by rw [h]; simp)

theorem index_one (c : UInt8) : ∀ (a r : List UInt8), c ∉ a → Lib.index (a ++ c :: r) [c] = (a.length : Int)
  | [], r, _ => by
    rw [List.nil_append, Lib.index, if_pos (by simp [List.isPrefixOf])]
    rfl
  | x :: a, r, h => by
    rw [List.mem_cons, not_or] at h
    rw [List.cons_append, Lib.index, if_neg (by simp [List.isPrefixOf]; exact h.1), index_one c a r h.2]
    rw [if_neg (by simp), List.length_cons]
    omega

theorem cut_at (a r : List UInt8) (h : (32 : UInt8) ∉ a) : Lib.cut (a ++ 32 :: r) [32] = (a, r, true) := by
  unfold Lib.cut
  rw [index_one 32 a r h, if_pos (by omega), Int.toNat_natCast]
  have e : ([32] : List UInt8).length = 1 := rfl
  rw [e, List.take_left, List.drop_append, List.drop_eq_nil_of_le (by omega)]
  simp

theorem c_at {s : ByteArray} {a r : List UInt8} (hs : bl s = a ++ 32 :: r) (h : (32 : UInt8) ∉ a) : bl (cA s) = a ∧ bl (cR s) = r := by
  unfold cA cR
  rw [show s.data.toList = a ++ 32 :: r from hs, cut_at a r h]
  exact ⟨rfl, rfl⟩

/-- Numbers, each with a blank behind it. -/
def flat (zs : List Int) : List UInt8 := zs.flatMap fun z => bl (decS z) ++ [32]

theorem flat_cons (z : Int) (zs : List Int) : flat (z :: zs) = bl (decS z) ++ 32 :: flat zs := by simp [flat]

theorem dl_bl (zs : List Int) : bl (dl zs) = flat zs := by
  have h : ∀ k, k ≤ zs.length → bl (dl (zs.take k)) = flat (zs.take k) := by
    intro k
    induction k with
    | zero => intro _; rfl
    | succ k ih =>
      intro hk
      rw [dl_take zs k (by omega), bl_append, bl_append, ih (by omega), List.take_succ_eq_append_getElem (by omega)]
      unfold flat
      rw [List.flatMap_append]
      congr 1
      rw [List.flatMap_cons, List.flatMap_nil, List.append_nil]
  have := h zs.length (Nat.le_refl _)
  rwa [List.take_length] at this

theorem dec_blank {z : Int} (h : 0 ≤ z) : (32 : UInt8) ∉ bl (decS z) := by
  rw [dec_bl z h]
  exact dec_no _ 32 (by decide)

theorem dec_rd {z : Int} (h : 0 ≤ z ∧ z ≤ 999999999) : Rd (decS z) ∧ (vl (decS z) : Int) = z := by
  have e := dec_bl z h.1
  have e2 : (decS z).data.toList = Lib.decDigits z.toNat := e
  constructor
  · show Math.ReadOk (decS z).data.toList
    rw [e2]
    exact dec_read _ (by omega)
  · show ((Math.val (decS z).data.toList : Nat) : Int) = z
    rw [e2, dec_val']
    omega

theorem begins {s : ByteArray} {zs : List Int} {t : List UInt8} (hz : Nums zs) (hs : bl s = flat zs ++ t) : ∀ k, k ≤ zs.length → bl (cZ s k) = flat (zs.drop k) ++ t
  | 0, _ => hs
  | k + 1, hk => by
    have ih := begins hz hs k (by omega)
    rw [List.drop_eq_getElem_cons (show k < zs.length by omega), flat_cons, List.append_assoc] at ih
    have hk0 := hz zs[k] (List.getElem_mem (by omega))
    exact (c_at ih (dec_blank hk0.1)).2

theorem begins_n {s : ByteArray} {zs : List Int} {t : List UInt8} (hz : Nums zs) (hs : bl s = flat zs ++ t) (j : Nat) (hj : j < zs.length) : (nW s j : Int) = zs[j] := by
  have ih := begins hz hs j (by omega)
  rw [List.drop_eq_getElem_cons hj, flat_cons, List.append_assoc] at ih
  have hk0 := hz zs[j] (List.getElem_mem hj)
  have e : cA (cZ s j) = decS zs[j] := bl_ext (c_at ih (dec_blank hk0.1)).1
  unfold nW
  rw [e, rv_yes (dec_rd hk0).1]
  exact (dec_rd hk0).2

theorem gQ_lines : ∀ (rs : List Rd.Ri) (r : ByteArray) (t : List UInt8), Nums (rs.flatMap rz) → bl r = flat (rs.flatMap rz) ++ t → gQ rs.length r = rs ∧ bl (gE rs.length r) = t
  | [], r, t, _, h => ⟨rfl, h⟩
  | q :: rs, r, t, hn, h => by
    have e0 : (q :: rs).flatMap rz = q.tr :: q.dy :: q.fr :: q.to :: rs.flatMap rz := rfl
    rw [e0] at hn h
    have l4 : 4 ≤ (q.tr :: q.dy :: q.fr :: q.to :: rs.flatMap rz).length := by simp
    have n0 := begins_n hn h 0 (by omega)
    have n1 := begins_n hn h 1 (by omega)
    have n2 := begins_n hn h 2 (by omega)
    have n3 := begins_n hn h 3 (by omega)
    have h4 := begins hn h 4 l4
    have hn4 : Nums (rs.flatMap rz) := fun z hz => hn z (by simp only [List.mem_cons]; exact Or.inr (Or.inr (Or.inr (Or.inr hz))))
    obtain ⟨i1, i2⟩ := gQ_lines rs (cZ r 4) t hn4 h4
    rw [List.length_cons]
    refine ⟨?_, i2⟩
    rw [gQ, i1]
    congr 1
    unfold rI
    rw [n0, n1, n2, n3]
    rfl

theorem guess_good {s : ByteArray} {t : Wh} {nm : ByteArray} {ls : List Rd.Ri} (h : Good s t nm ls) : gwH s = t ∧ gwN s = nm ∧ gwR s = ls := by
  obtain ⟨hn, hl, -⟩ := wl_parts h.1
  have hs : bl s = flat (wz t ls) ++ bl nm := by rw [← h.2, bl_append, dl_bl]
  have hlen := wz_length t ls
  have n0 := begins_n hn hs 0 (by omega)
  have n1 := begins_n hn hs 1 (by omega)
  have n2 := begins_n hn hs 2 (by omega)
  have n3 := begins_n hn hs 3 (by omega)
  have n4 := begins_n hn hs 4 (by omega)
  have n5 := begins_n hn hs 5 (by omega)
  have h6 := begins hn hs 6 (by omega)
  have e5 : nW s 5 = ls.length := by
    have : (nW s 5 : Int) = (ls.length : Int) := n5
    omega
  have hn6 : Nums (ls.flatMap rz) := fun z hz => hn z (by unfold wz; exact List.mem_append_right _ hz)
  obtain ⟨q1, q2⟩ := gQ_lines ls (cZ s 6) (bl nm) hn6 h6
  have em : min (nW s 5) 6 = ls.length := by omega
  refine ⟨?_, ?_, ?_⟩
  · unfold gwH
    rw [n0, n1, n2, n3, n4]
    rfl
  · apply bl_ext
    unfold gwN
    rw [em]
    exact q2
  · unfold gwR
    rw [em]
    exact q1

theorem good_one {s : ByteArray} {t t' : Wh} {nm nm' : ByteArray} {ls ls' : List Rd.Ri} (h : Good s t nm ls) (h' : Good s t' nm' ls') : t = t' ∧ nm = nm' ∧ ls = ls' := by
  obtain ⟨a1, a2, a3⟩ := guess_good h
  obtain ⟨b1, b2, b3⟩ := guess_good h'
  exact ⟨a1.symm.trans b1, a2.symm.trans b2, a3.symm.trans b3⟩

end Wn
end Go.Proofs.YtaplbjoghkipdaaDoor

/- The draws of a want for the log. -/
namespace Go.Proofs.YtaplbjoghkipdaaDoor
namespace Rd
open Go.ChangeShapes Go.WideShapes Go.ChangeAt Go.RowKit
open Pk (new_below join_below cell_at heap_new frozen_at lt_of kept heap_old info_of own_form own_ne)
open Cur (Is Moved below_any once_any pickInt_any Kb rowOf_new Bytes)
open Tn (Tr St Trains Stops Nums)
open Wn (Wh wnV wnB)
set_option linter.unusedSimpArgs false
set_option linter.unusedVariables false

theorem ride_snoc {w : World} {base : Nat} {v : Value} {rs : List Ri} (O : w.ownsRow base 43 4 v (rs.length + 1) (rcells rs ++ [.int .i64 1, .int .i64 2, .int .i64 3, .int .i64 4])) : ∃ a c rs9, v = .slice a rs9.length c ∧ rs9.length = rs.length + 1 ∧ RideAt w base a c rs9 := by
  obtain ⟨a, c, rfl, -⟩ := own_form O
  refine ⟨a, c, rs ++ [⟨1, 2, 3, 4⟩], by simp, by simp, ?_⟩
  show World.ownsRow _ _ _ _ _ _ _
  rw [List.length_append, rcells_append]
  exact O

/-- What stands while a want for the log is drawn. -/
structure WJ (W0 : World) (a : Option Addr) (n cap c : Nat) (w : World) (B : Nat) (RB : Obj) (wr : World) : Prop where
  s : WnS w.heap.size wr B
  i : Is W0 a n cap c wr
  k : Kb c w wr
  r : wr.heap[w.heap.size]? = some RB

theorem WJ.kb {W0 : World} {a : Option Addr} {n cap c : Nat} {w : World} {B : Nat} {RB : Obj} {wr w2 : World} (h : WJ W0 a n cap c w B RB wr) (K : Kb c wr w2) (C : Is W0 a n cap c w2) (hc : c < w.heap.size) (hB : w.heap.size < B) : WJ W0 a n cap c w B RB w2 :=
  ⟨h.s.kb K hc (by omega), C, h.k.trans K, K.at (by omega) h.r⟩

theorem WJ.set {W0 : World} {a : Option Addr} {n cap c : Nat} {w : World} {B : Nat} {RB : Obj} {wr : World} (h : WJ W0 a n cap c w B RB wr) (i : Nat) (v : Value) (S : WnS w.heap.size (wr.setCell ⟨B, i, none⟩ v) B) (hc : c < w.heap.size) (hB : w.heap.size < B) (hW : W0.heap.size ≤ w.heap.size) : WJ W0 a n cap c w B RB (wr.setCell ⟨B, i, none⟩ v) :=
  ⟨S, h.i.set B i v (by omega) (by omega), h.k.set B i v (by omega), Tn.h_other h.r (by omega) v⟩

theorem put7j {W0 : World} {a : Option Addr} {n cap c : Nat} {w W : World} {B : Nat} {cs : Array Value} (h : WJ W0 a n cap c w B (.cells cs 26) W) (hc : c < w.heap.size) (hW : W0.heap.size ≤ w.heap.size) {ra : Option Addr} {rc : Nat} {rs : List Ri} (R : RideAt W w.heap.size ra rc rs) (vs : Array Value) :
    RideAt (W.setRow w.heap.size vs) w.heap.size ra rc rs ∧ Is W0 a n cap c (W.setRow w.heap.size vs) ∧ Kb c w (W.setRow w.heap.size vs) := by
  refine ⟨R.keep (by rw [setRow_size]; exact Nat.le_refl _) (fun g cs' f hg => ?_), isRow h.i _ _ (by omega) (by omega), ⟨by rw [setRow_size]; exact h.k.size, fun k hk hk2 => by rw [setRow_other _ _ _ _ (by omega)]; exact h.k.block k hk hk2⟩⟩
  have hne : g ≠ w.heap.size := by
    rintro rfl
    rw [h.r] at hg
    simp at hg
  exact setRow_other W _ g vs hne

/-- How many rides the want in a box has. -/
def lenW (w : World) (B : Nat) : Nat := match w.cell? ⟨B, 6, none⟩ with | some (.slice _ n _) => n | _ => 0

set_option maxRecDepth 100000 in
set_option maxHeartbeats 8000000 in
theorem want10_any {W0 : World} {a : Option Addr} {n cap c : Nat} {w : World} (C : Is W0 a n cap c w) :
    Calls Tryd.prog 12 #[.pointer (some ⟨c, 0, none⟩)] w fun e w' => (∃ (h : Wh) (s : ByteArray) (rs : List Ri) (ra : Option Addr) (rc : Nat), e = .returned (wnV h s ra rs.length rc) ∧ s.size ≤ 10 ∧ rs.length ≤ 7 ∧ RideAt w' w.heap.size ra rc rs) ∧ Is W0 a n cap c w' ∧ Kb c w w' := by
  obtain ⟨i0, hi, hy0, hy1, hy2⟩ := info_of info_ride'
  have hcw := C.lt
  have hW0 : W0.heap.size ≤ w.heap.size := C.below.size
  have r0 := heap_new w (.cells #[.int .i64 0, .int .i64 0, .int .i64 0, .string ⟨#[]⟩, .int .i64 0, .int .i64 0, .slice none 0 0] 26)
  have C0 := C.alloc (.cells #[.int .i64 0, .int .i64 0, .int .i64 0, .string ⟨#[]⟩, .int .i64 0, .int .i64 0, .slice none 0 0] 26)
  have K0 : Kb c w (w.alloc (.cells #[.int .i64 0, .int .i64 0, .int .i64 0, .string ⟨#[]⟩, .int .i64 0, .int .i64 0, .slice none 0 0] 26)) := (Kb.refl c w).alloc _
  have hrc : w.heap.size ≠ c := by omega
  clear C
  go_enter Tryd.func12, Tryd.ntmps12
  go_wp2_with fail
  refine (start9_any C0).mono ?_
  generalize w.alloc (.cells #[.int .i64 0, .int .i64 0, .int .i64 0, .string ⟨#[]⟩, .int .i64 0, .int .i64 0, .slice none 0 0] 26) = w1 at *
  rintro e w2 ⟨⟨ls, a2, a3, c2, n3, c3, t9, rfl, ht0, ht5, HT⟩, C2, K2⟩
  have r2 := K2.at hrc r0
  have K3 := K0.trans K2
  clear K0 K2 r0 C0
  go_wp2_with fail
  refine (want9_any C2 ls a2 a3 c2 n3 c3 t9 ht0 ht5 HT).mono ?_
  rintro e w3 ⟨⟨⟨k0, k1, k2, k4, k5⟩, s, rs, ra, rc, rfl, hs, hr, RA⟩, C3, K4⟩
  have r3 := K4.at hrc r2
  have K5 := K3.trans K4
  have hB : w.heap.size < w3.heap.size := lt_of r3
  have h4 : WJ W0 a n cap c w w3.heap.size (.cells #[.int .i64 0, .int .i64 0, .int .i64 0, .string ⟨#[]⟩, .int .i64 0, .int .i64 0, .slice none 0 0] 26) (w3.alloc (.cells #[.int .i64 k0, .int .i64 k1, .int .i64 k2, .string s, .int .i64 k4, .int .i64 k5, .slice ra rs.length rc] 26)) := ⟨⟨⟨k0, k1, k2, k4, k5⟩, s, rs, ra, rc, heap_new w3 _, hs, hr, (RA.lower K3.size).on (new_below w3 _)⟩, C3.alloc _, K5.alloc _, heap_old r3 _⟩
  have hBc : w3.heap.size ≠ c := by omega
  clear r2 r3 K3 K4 K5 C2 C3 RA HT
  go_upto_region 2 with fail
  generalize w3.alloc (.cells #[.int .i64 k0, .int .i64 k1, .int .i64 k2, .string s, .int .i64 k4, .int .i64 k5, .slice ra rs.length rc] 26) = w4 at *
  generalize w3.heap.size = BW at *
  go_wp2_with fail
  refine (below_any h4.i _).mono ?_
  rintro e w20 ⟨⟨sv, rfl, -, -⟩, C20, M20⟩
  have h7 := h4.kb (Kb.moved M20) C20 hcw hB
  clear h4 C20 M20
  go_upto_block 0 with fail
  go_cut [9] from 10 (fun s6 wd => s6 = s6 ∧ WJ W0 a n cap c w BW (.cells #[.int .i64 0, .int .i64 0, .int .i64 0, .string ⟨#[]⟩, .int .i64 0, .int .i64 0, .slice none 0 0] 26) wd)
  case first =>
    by_cases g0 : sv = 0
    · have gb0 : (sv == 0) = true := by simp [g0]
      have gd0 : decide (sv = 0) = true := decide_eq_true g0
      have C21 := h7.i.alloc (.cells #[.int .i64 (-1), .int .i64 999999999, .int .i64 1000000000] 3)
      have h8 := h7.kb ((Kb.refl c w20).alloc (.cells #[.int .i64 (-1), .int .i64 999999999, .int .i64 1000000000] 3)) C21 hcw hB
      have RW : Cur.RowOf (fun _ => True) (w20.alloc (.cells #[.int .i64 (-1), .int .i64 999999999, .int .i64 1000000000] 3)) w20.heap.size 3 := rowOf_new (fun _ => True) w20 [-1, 999999999, 1000000000] 3 (fun z _ => trivial)
      have hc1 : w20.heap.size ≠ c := by have := h7.i.lt; omega
      have HPK : Hid (∀ _ : Unit, _) := fun _ => pickInt_any C21 (fun _ => True) w20.heap.size 3 3 hc1 (by omega) (by omega) RW
      clear h7 RW C21 hc1
      go_wp2_with fail
      refine (HPK.out ()).mono ?_
      rintro e w21 ⟨⟨kk, rfl, -⟩, C21, M21⟩
      have h9 := h8.kb (Kb.moved M21) C21 hcw hB
      clear HPK h8 M21 C21
      obtain ⟨⟨k0, k1, k2, k4, k5⟩, s, rs, ra, rc, x, -, -, -⟩ := id h9.s
      have x_2 : w21.cell? ⟨BW, 2, none⟩ = some (.int .i64 k2) := cell_at x 2
      have f_2 : w21.frozen? ⟨BW, 2, none⟩ = false := frozen_at x 2
      have h10 := h9.set 2 (.int .i64 kk) (h9.s.set_num kk (by omega)) hcw hB hW0
      clear h9 x
      go_wp2
      go_meet
      case rel => exact ⟨by first | trivial | rfl, h10⟩
    have gb0 : (sv == 0) = false := by simp [g0]
    have gd0 : decide (sv = 0) = false := decide_eq_false g0
    by_cases g1 : sv = 1
    · have gb1 : (sv == 1) = true := by simp [g1]
      have gd1 : decide (sv = 1) = true := decide_eq_true g1
      go_wp2
      go_loopw [18] (fun _ wr => WJ W0 a n cap c w BW (.cells #[.int .i64 0, .int .i64 0, .int .i64 0, .string ⟨#[]⟩, .int .i64 0, .int .i64 0, .slice none 0 0] 26) wr) (fun _ wr => 8 - lenW wr BW)
      case atStart => exact h7
      case round =>
        clear h7
        obtain ⟨⟨k0, k1, k2, k4, k5⟩, s, rs, ra, rc, x, hs, hr, R⟩ := id hrel.s
        have x_6 : wr.cell? ⟨BW, 6, none⟩ = some (.slice ra rs.length rc) := cell_at x 6
        have hlq : lenW wr BW = rs.length := by unfold lenW; rw [x_6]
        have CD : Is W0 a n cap c wr.drew := hrel.i.drewN 1
        have hbl := lt_of x
        have HF6 : Hid (∀ v, Kb c wr v → v.cell? ⟨BW, 6, none⟩ = some (.slice ra rs.length rc)) := fun v K => (kb_cell K (p := ⟨BW, 6, none⟩) hBc hbl).trans x_6
        clear x_6
        go_upto_region 6 with fail
        refine wp_region_held_drew (S := (fun w' => Kb c wr w')) (by kernel_rfl) ?_ (fun hHeld => ?_)
        · exact (Kb.refl c wr).drew
        refine wpAnyH_take (i := 0) (v := .pointer (some ⟨BW, 6, none⟩)) rfl (by kernel_rfl) (by kernel_rfl) (by kernel_rfl) (fun _ _ _ h => h) (Or.inl ⟨by kernel_rfl, fun w hSw => by first | (go_simp; done) | (dsimp only at hSw; obtain ⟨hS0⟩ := hSw; go_simp; done) | rfl⟩) (by assumption) ?_
        simp only [Act.put, List.getElem_toArray, List.getElem_cons_succ, List.getElem_cons_zero, List.setIfInBounds_toArray, List.set_cons_succ, List.set_cons_zero]
        refine wpAnyH_take (i := 1) (v := .slice ra rs.length rc) rfl (by kernel_rfl) (by kernel_rfl) (by kernel_rfl) (fun _ _ _ h => h) (Or.inl ⟨by kernel_rfl, fun w hSw => by first | (have z0 := HF6.out _ hSw; go_simp; done) | (go_simp; done) | (dsimp only at hSw; obtain ⟨hS0⟩ := hSw; go_simp; done) | rfl⟩) (by assumption) ?_
        simp only [Act.put, List.getElem_toArray, List.getElem_cons_succ, List.getElem_cons_zero, List.setIfInBounds_toArray, List.set_cons_succ, List.set_cons_zero]
        refine wpAnyH_take (i := 2) (v := .int .i64 rs.length) rfl (by kernel_rfl) (by kernel_rfl) (by kernel_rfl) (fun _ _ _ h => h) (Or.inl ⟨by kernel_rfl, fun w hSw => by first | (go_simp; done) | (dsimp only at hSw; obtain ⟨hS0⟩ := hSw; go_simp; done) | rfl⟩) (by assumption) ?_
        simp only [Act.put, List.getElem_toArray, List.getElem_cons_succ, List.getElem_cons_zero, List.setIfInBounds_toArray, List.set_cons_succ, List.set_cons_zero]
        refine wpAnyH_take (i := 3) (v := .pointer (some ⟨c, 0, none⟩)) rfl (by kernel_rfl) (by kernel_rfl) (by kernel_rfl) (fun _ _ _ h => h) (Or.inl ⟨by kernel_rfl, fun w hSw => by first | (go_simp; done) | (dsimp only at hSw; obtain ⟨hS0⟩ := hSw; go_simp; done) | rfl⟩) (by assumption) ?_
        simp only [Act.put, List.getElem_toArray, List.getElem_cons_succ, List.getElem_cons_zero, List.setIfInBounds_toArray, List.set_cons_succ, List.set_cons_zero]
        refine wpAnyH_ready (rs := [4]) (by kernel_rfl) (by simp) ?_
        refine AllReadyH.cons rfl (fun K hK => ?_) AllReadyH.nil
        go_simp
        go_wp2_with (go_at_call 28; (with_reducible refine (below_any CD _).mono ?_); rintro e w8 ⟨⟨d, rfl, hd0, hd1⟩, C8, M8⟩; have K98 : Kb c wr w8 := Kb.trans (Kb.refl c wr).drew (Kb.moved M8); have hd2 := hd1 (by omega); have w2' := wr64 (x := 6 + d) (by omega) (by omega); have w1 := w2'.1; have w2 := w2'.2; clear w2')
        refine hK.out _ _ ?_ (fun hHeld2 => ?_)
        · first | exact hHeld | exact K98
        clear hK K hHeld
        have hHeld := hHeld2
        clear hHeld2
        refine wpAnyH_take (i := 5) (v := .int .i64 (6 + d)) rfl (by kernel_rfl) (by kernel_rfl) (by kernel_rfl) (fun _ _ _ h => h) (Or.inl ⟨by kernel_rfl, fun w hSw => by first | (rw [show (Value.int IntKind.i64 (6 + d)) = .int .i64 (IntKind.i64.wrap (6 + d)) from by rw [w2]]; go_simp; done) | (go_simp; done) | (dsimp only at hSw; obtain ⟨hS0⟩ := hSw; go_simp; done) | rfl⟩) (by assumption) ?_
        simp only [Act.put, List.getElem_toArray, List.getElem_cons_succ, List.getElem_cons_zero, List.setIfInBounds_toArray, List.set_cons_succ, List.set_cons_zero]
        refine wpAnyH_take (i := 6) (v := .bool (decide ((rs.length : Int) < 6 + d))) rfl (by kernel_rfl) (by kernel_rfl) (by kernel_rfl) (fun _ _ _ h => h) (Or.inl ⟨by kernel_rfl, fun w hSw => by first | (go_simp; done) | (dsimp only at hSw; obtain ⟨hS0⟩ := hSw; go_simp; done) | rfl⟩) (by assumption) ?_
        simp only [Act.put, List.getElem_toArray, List.getElem_cons_succ, List.getElem_cons_zero, List.setIfInBounds_toArray, List.set_cons_succ, List.set_cons_zero]
        refine wpAnyH_done (by kernel_rfl) ?_ _
        have h8 := hrel.kb K98 C8 hcw hB
        have x8 := Kb.at K98 hBc x
        have R8 := R.kb K98 hcw
        clear hHeld HF6 CD w1 w2 M8 C8 hd1 hrel
        by_cases hlt : (rs.length : Int) < 6 + d
        · have dlt : decide ((rs.length : Int) < 6 + d) = true := decide_eq_true hlt
          have hln : rs.length ≤ 6 := by omega
          clear hlt hd0 hd2
          have xA := heap_old x8 (.cells #[.int .i64 1, .int .i64 2, .int .i64 3, .int .i64 4] 43)
          have rA := heap_old h8.r (.cells #[.int .i64 1, .int .i64 2, .int .i64 3, .int .i64 4] 43)
          have lA := heap_new w8 (.cells #[.int .i64 1, .int .i64 2, .int .i64 3, .int .i64 4] 43)
          have CA := h8.i.alloc (.cells #[.int .i64 1, .int .i64 2, .int .i64 3, .int .i64 4] 43)
          have KA := h8.k.alloc (.cells #[.int .i64 1, .int .i64 2, .int .i64 3, .int .i64 4] 43)
          have OA : (w8.alloc (.cells #[.int .i64 1, .int .i64 2, .int .i64 3, .int .i64 4] 43)).ownsRow w.heap.size 43 4 (.slice ra rs.length rc) rs.length (rcells rs) := R8.on (new_below w8 (.cells #[.int .i64 1, .int .i64 2, .int .i64 3, .int .i64 4] 43))
          have k6 : w8.cell? ⟨BW, 6, none⟩ = some (.slice ra rs.length rc) := cell_at x8 6
          have hsA := KA.size
          rw [dlt]
          clear R8 x8 h8
          go_wp2_with (go_loud (refine wpList_plain rfl fun _ hK => wp_append_at _ _ 24 rfl w.heap.size 43 i0 (lgV ⟨0, 0, 0, 0⟩) 4 32 Tryd.underlying24 hi hy0 hy1 hy2 rfl (by decide) _ _ _ rfl OA ⟨w8.heap.size, 0, none⟩ 1 1 [.int .i64 1, .int .i64 2, .int .i64 3, .int .i64 4] rfl rfl (four_new lA) (by intro u hu; simp only [List.mem_cons, List.not_mem_nil, or_false] at hu; rcases hu with rfl | rfl | rfl | rfl <;> rfl) (by unfold maxLen; omega) (by omega) hsA ?_; intro v9 w9 O9 G9 hat; have C9 : Is W0 a n cap c w9 := CA.grown G9 (fun h => (by have := (OA.lt _ h).1; omega)) (fun k h => (by have := (OA.lt _ h).1; omega)); have K9 : Kb c w w9 := KA.grown G9 (fun k h => (OA.lt _ h).1); have x9 : w9.heap[BW]? = _ := (G9.block BW (lt_of xA) (own_ne OA xA (by decide))).trans xA; have r9 : w9.heap[w.heap.size]? = _ := (G9.block _ (lt_of rA) (own_ne OA rA (by decide))).trans rA; obtain ⟨a9, c9, rs9, rfl, hl9, R9⟩ := ride_snoc O9; have z6 : w9.cell? ⟨BW, 6, none⟩ = some (.slice ra rs.length rc) := cell_at x9 6; have fz6 : w9.frozen? ⟨BW, 6, none⟩ = false := frozen_at x9 6; have HS : Hid (WJ W0 a n cap c w BW (.cells #[.int .i64 0, .int .i64 0, .int .i64 0, .string ⟨#[]⟩, .int .i64 0, .int .i64 0, .slice none 0 0] 26) (w9.setCell ⟨BW, 6, none⟩ (.slice a9 rs9.length c9))) := ⟨⟨⟨k0, k1, k2, k4, k5⟩, s, rs9, a9, c9, h_set x9 (i := 6) _, hs, by omega, rideAt_want R9 x9 6 _⟩, C9.set BW 6 _ hBc (by omega), K9.set BW 6 _ (by omega), Tn.h_other r9 (by omega) _⟩; have hlq2 : Hid (lenW (w9.setCell ⟨BW, 6, none⟩ (.slice a9 rs9.length c9)) BW = rs.length + 1) := (by show _ = _; unfold lenW; rw [show (w9.setCell ⟨BW, 6, none⟩ (.slice a9 rs9.length c9)).cell? ⟨BW, 6, none⟩ = some (.slice a9 rs9.length c9) from cell_at (h_set x9 (i := 6) (.slice a9 rs9.length c9)) 6]; exact hl9); clear C9 K9 x9 r9 R9 O9 G9 hat CA KA xA rA lA OA hl9; refine hK _ _ ?_; clear hK))
          go_roundw
          case rel => first | exact HS.out | ((repeat apply Exists.intro); exact ⟨HS.out, rfl⟩)
          case measure => rw [hlq, hlq2.out]; omega
        · have dlt : decide ((rs.length : Int) < 6 + d) = false := decide_eq_false hlt
          rw [dlt]
          clear x8 R8 hlt hd0 hd2
          go_wp2
          go_meet
          case rel => exact ⟨by first | trivial | rfl, h8⟩
    have gb1 : (sv == 1) = false := by simp [g1]
    have gd1 : decide (sv = 1) = false := decide_eq_false g1
    by_cases g2 : sv = 2
    · have gb2 : (sv == 2) = true := by simp [g2]
      have gd2 : decide (sv = 2) = true := decide_eq_true g2
      have C21 := h7.i.alloc (.cells #[.string ⟨#[32]⟩, .string ⟨#[53, 32, 54]⟩, .string ⟨#[97, 32, 32, 98]⟩, .string ⟨#[55]⟩] 9)
      have h8 := h7.kb ((Kb.refl c w20).alloc (.cells #[.string ⟨#[32]⟩, .string ⟨#[53, 32, 54]⟩, .string ⟨#[97, 32, 32, 98]⟩, .string ⟨#[55]⟩] 9)) C21 hcw hB
      have RW : Cur.RowOfS (fun z => z.size ≤ 10) (w20.alloc (.cells #[.string ⟨#[32]⟩, .string ⟨#[53, 32, 54]⟩, .string ⟨#[97, 32, 32, 98]⟩, .string ⟨#[55]⟩] 9)) w20.heap.size 4 := Cur.rowOfS_new (fun z => z.size ≤ 10) w20 [⟨#[32]⟩, ⟨#[53, 32, 54]⟩, ⟨#[97, 32, 32, 98]⟩, ⟨#[55]⟩] 9 (by intro z hz; simp at hz; rcases hz with rfl | rfl | rfl | rfl <;> decide)
      have hc1 : w20.heap.size ≠ c := by have := h7.i.lt; omega
      have HPK : Hid (∀ _ : Unit, _) := fun _ => Cur.pick_any C21 (fun z => z.size ≤ 10) w20.heap.size 4 4 hc1 (by omega) (by omega) RW
      clear h7 RW C21 hc1
      go_wp2_with fail
      refine (HPK.out ()).mono ?_
      rintro e w21 ⟨⟨kk, rfl, hkk⟩, C21, M21⟩
      have h9 := h8.kb (Kb.moved M21) C21 hcw hB
      clear HPK h8 M21 C21
      obtain ⟨⟨k0, k1, k2, k4, k5⟩, s, rs, ra, rc, x, -, -, -⟩ := id h9.s
      have x_3 : w21.cell? ⟨BW, 3, none⟩ = some (.string s) := cell_at x 3
      have f_3 : w21.frozen? ⟨BW, 3, none⟩ = false := frozen_at x 3
      have h10 := h9.set 3 (.string kk) (h9.s.set_name kk hkk) hcw hB hW0
      clear h9 x
      go_wp2
      go_meet
      case rel => exact ⟨by first | trivial | rfl, h10⟩
    have gb2 : (sv == 2) = false := by simp [g2]
    have gd2 : decide (sv = 2) = false := decide_eq_false g2
    go_wp2
    go_meet
    case rel => exact ⟨by first | trivial | rfl, h7⟩
  case rest =>
    obtain ⟨-, hz⟩ := hcut
    clear h7
    obtain ⟨⟨k0, k1, k2, k4, k5⟩, s, rs, ra, rc, x, hs, hr, R⟩ := id hz.s
    have x_0 : wc.cell? ⟨BW, 0, none⟩ = some (.int .i64 k0) := cell_at x 0
    have x_1 : wc.cell? ⟨BW, 1, none⟩ = some (.int .i64 k1) := cell_at x 1
    have x_2 : wc.cell? ⟨BW, 2, none⟩ = some (.int .i64 k2) := cell_at x 2
    have x_3 : wc.cell? ⟨BW, 3, none⟩ = some (.string s) := cell_at x 3
    have x_4 : wc.cell? ⟨BW, 4, none⟩ = some (.int .i64 k4) := cell_at x 4
    have x_5 : wc.cell? ⟨BW, 5, none⟩ = some (.int .i64 k5) := cell_at x 5
    have x_6 : wc.cell? ⟨BW, 6, none⟩ = some (.slice ra rs.length rc) := cell_at x 6
    have HZ : Hid (_ ∧ _ ∧ _) := put7j hz hcw hW0 R #[.int .i64 k0, .int .i64 k1, .int .i64 k2, .string s, .int .i64 k4, .int .i64 k5, .slice ra rs.length rc]
    have hR := hz.r
    have hR9 : (wc.setRow w.heap.size #[.int .i64 k0, .int .i64 k1, .int .i64 k2, .string s, .int .i64 k4, .int .i64 k5, .slice ra rs.length rc]).heap[w.heap.size]? = some (.cells #[.int .i64 k0, .int .i64 k1, .int .i64 k2, .string s, .int .i64 k4, .int .i64 k5, .slice ra rs.length rc] 26 (0, 0)) := setRow_heap wc _ _ #[.int .i64 k0, .int .i64 k1, .int .i64 k2, .string s, .int .i64 k4, .int .i64 k5, .slice ra rs.length rc] _ _ hR
    clear x R hz
    go_wp2_with (refine wpList_store_row rfl 26 _ _ rfl w.heap.size #[.int .i64 k0, .int .i64 k1, .int .i64 k2, .string s, .int .i64 k4, .int .i64 k5, .slice ra rs.length rc] (by kernel_rfl) (by kernel_rfl) 26 #[.int .i64 0, .int .i64 0, .int .i64 0, .string ⟨#[]⟩, .int .i64 0, .int .i64 0, .slice none 0 0] hR (by kernel_rfl) (by kernel_rfl) (by kernel_rfl) ?_; generalize wc.setRow w.heap.size #[.int .i64 k0, .int .i64 k1, .int .i64 k2, .string s, .int .i64 k4, .int .i64 k5, .slice ra rs.length rc] = wz at *; clear hR; apply_assumption; go_wp; refine bodyPost_ret (v := wnV ⟨k0, k1, k2, k4, k5⟩ s ra rs.length rc) (results_cell_row Tryd.results12 _ _ w.heap.size 26 #[.int .i64 k0, .int .i64 k1, .int .i64 k2, .string s, .int .i64 k4, .int .i64 k5, .slice ra rs.length rc] (0, 0) _ (by kernel_rfl) hR9 Tryd.underlying26 rfl (by kernel_rfl)) rfl ?_; exact ⟨⟨⟨k0, k1, k2, k4, k5⟩, s, rs, ra, rc, rfl, hs, hr, HZ.out.1⟩, HZ.out.2.1, HZ.out.2.2⟩)

theorem wl_small {t : Wh} {nm : ByteArray} {ls : List Ri} (hn : nm.size ≤ 10) : (Wn.wlS t nm ls).size ≤ 1000 := by
  unfold Wn.wlS
  split
  · rename_i h
    obtain ⟨h1, h2, h3⟩ := Wn.wl_parts h
    have h4 := Wn.dl_size (Wn.wz t ls) (Wn.wz t ls).length (Nat.le_refl _) (by rw [List.take_length]; exact h1)
    rw [List.take_length, Wn.wz_length] at h4
    rw [ByteArray.size_append]
    omega
  · exact Nat.zero_le _

set_option maxRecDepth 100000 in
set_option maxHeartbeats 4000000 in
theorem drawWL (W0 : World) (a : Option Addr) (n cap : Nat) (hn : n ≤ 1048576) (B : Bytes W0 a n) :
    Calls Tryd.prog 5 #[.slice a n cap] W0 fun e w' => (∃ (h : Wh) (s : ByteArray) (rs : List Ri) (ra : Option Addr) (rc : Nat), e = .returned (wnV h s ra rs.length rc) ∧ s.size ≤ 10 ∧ rs.length ≤ 7 ∧ RideAt w' W0.heap.size ra rc rs) ∧ Below W0.heap.size W0 w' := by
  have N1 := new_below W0 (.cells #[.int .i64 0, .int .i64 0, .int .i64 0, .string ⟨#[]⟩, .int .i64 0, .int .i64 0, .slice none 0 0] 26)
  have p1 := heap_new W0 (.cells #[.int .i64 0, .int .i64 0, .int .i64 0, .string ⟨#[]⟩, .int .i64 0, .int .i64 0, .slice none 0 0] 26)
  have e1 : (W0.alloc (.cells #[.int .i64 0, .int .i64 0, .int .i64 0, .string ⟨#[]⟩, .int .i64 0, .int .i64 0, .slice none 0 0] 26)).heap.size = W0.heap.size + 1 := Array.size_push ..
  go_enter Tryd.func5, Tryd.ntmps5
  go_wp2_with fail
  refine (Cur.new_any (W0.alloc (.cells #[.int .i64 0, .int .i64 0, .int .i64 0, .string ⟨#[]⟩, .int .i64 0, .int .i64 0, .slice none 0 0] 26)) a n cap hn (B.on N1)).mono ?_
  generalize W0.alloc (.cells #[.int .i64 0, .int .i64 0, .int .i64 0, .string ⟨#[]⟩, .int .i64 0, .int .i64 0, .slice none 0 0] 26) = W1 at *
  rintro e w2 ⟨rfl, C2⟩
  have hPc : W0.heap.size ≠ W1.heap.size := by omega
  have p2 := kept C2.below (lt_of p1) p1
  have hsw : W0.heap.size ≤ w2.heap.size := by have := C2.lt; omega
  generalize W1.heap.size = c at *
  clear e1 p1 B
  go_wp2_with fail
  refine (want10_any C2).mono ?_
  rintro e w3 ⟨⟨⟨k0, k1, k2, k4, k5⟩, s, rs, ra, rc, rfl, hs, hr, RA⟩, C3, K3⟩
  have p3 := K3.at hPc p2
  have BL : Below W0.heap.size W0 w3 := N1.trans (C3.below.mono N1.size)
  have O3 := RA.lower hsw
  have hR9 : (w3.setRow W0.heap.size #[.int .i64 k0, .int .i64 k1, .int .i64 k2, .string s, .int .i64 k4, .int .i64 k5, .slice ra rs.length rc]).heap[W0.heap.size]? = some (.cells #[.int .i64 k0, .int .i64 k1, .int .i64 k2, .string s, .int .i64 k4, .int .i64 k5, .slice ra rs.length rc] 26 (0, 0)) := setRow_heap w3 _ _ #[.int .i64 k0, .int .i64 k1, .int .i64 k2, .string s, .int .i64 k4, .int .i64 k5, .slice ra rs.length rc] _ _ p3
  have HZ : Hid (RideAt (w3.setRow W0.heap.size #[.int .i64 k0, .int .i64 k1, .int .i64 k2, .string s, .int .i64 k4, .int .i64 k5, .slice ra rs.length rc]) W0.heap.size ra rc rs ∧ Below W0.heap.size W0 (w3.setRow W0.heap.size #[.int .i64 k0, .int .i64 k1, .int .i64 k2, .string s, .int .i64 k4, .int .i64 k5, .slice ra rs.length rc])) := ⟨O3.keep (by rw [setRow_size]; exact Nat.le_refl _) (fun g cs' f hg => by
    have hne : g ≠ W0.heap.size := by
      rintro rfl
      rw [p3] at hg
      simp at hg
    exact setRow_other w3 _ g _ hne), below_setRow BL (Nat.le_refl _) _⟩
  clear C2 p2 K3 C3 RA O3 BL N1
  go_wp2_with (refine wpList_store_row rfl 26 _ _ rfl W0.heap.size #[.int .i64 k0, .int .i64 k1, .int .i64 k2, .string s, .int .i64 k4, .int .i64 k5, .slice ra rs.length rc] (by kernel_rfl) (by kernel_rfl) 26 #[.int .i64 0, .int .i64 0, .int .i64 0, .string ⟨#[]⟩, .int .i64 0, .int .i64 0, .slice none 0 0] p3 (by kernel_rfl) (by kernel_rfl) (by kernel_rfl) ?_; generalize w3.setRow W0.heap.size #[.int .i64 k0, .int .i64 k1, .int .i64 k2, .string s, .int .i64 k4, .int .i64 k5, .slice ra rs.length rc] = wz at *; clear p3)
  refine bodyPost_ret (v := wnV ⟨k0, k1, k2, k4, k5⟩ s ra rs.length rc) (results_cell_row Tryd.results5 _ _ W0.heap.size 26 #[.int .i64 k0, .int .i64 k1, .int .i64 k2, .string s, .int .i64 k4, .int .i64 k5, .slice ra rs.length rc] (0, 0) _ (by kernel_rfl) hR9 Tryd.underlying26 rfl (by kernel_rfl)) rfl ?_
  exact ⟨⟨⟨k0, k1, k2, k4, k5⟩, s, rs, ra, rc, rfl, hs, hr, HZ.out.1⟩, HZ.out.2⟩

set_option maxRecDepth 100000 in
set_option maxHeartbeats 4000000 in
theorem drawRW (W0 : World) (a : Option Addr) (n cap : Nat) (hn : n ≤ 1048576) (B : Bytes W0 a n) :
    Calls Tryd.prog 10 #[.slice a n cap] W0 fun e w' => (∃ s : ByteArray, e = .returned (.string s) ∧ s.size ≤ 1001) ∧ Below W0.heap.size W0 w' := by
  go_enter Tryd.func10, Tryd.ntmps10
  go_wp2_with fail
  refine (Cur.new_any W0 a n cap hn B).mono ?_
  rintro e w2 ⟨rfl, C2⟩
  go_wp2_with fail
  refine (want10_any C2).mono ?_
  rintro e w3 ⟨⟨t, nm, ls, va, vc, rfl, hnm, hl, O3⟩, C3, K3⟩
  have HP := Wn.specWantLine_val t nm va ls vc w3 (by unfold maxLen; omega) (by omega) O3.rides
  have hps := wl_small (t := t) (ls := ls) hnm
  generalize Wn.wlS t nm ls = s at *
  generalize Wn.wlB t nm ls = ok at *
  clear C2 K3 O3 B
  go_wp2_with fail
  refine HP.mono ?_
  rintro e w4 ⟨rfl, L4⟩
  have C4 := C3.kept L4
  clear HP
  go_wp2_with fail
  refine (Cur.spoil_any C4 s (by omega)).mono ?_
  rintro e w5 ⟨⟨r, rfl, hr⟩, C5, K5⟩
  go_wp2
  go_ret
  exact ⟨⟨r, rfl, by omega⟩, C5.below⟩

end Rd
end Go.Proofs.YtaplbjoghkipdaaDoor

/- The program's guessWant. -/
namespace Go.Proofs.YtaplbjoghkipdaaDoor
namespace Wn
open Go.ChangeShapes Go.WideShapes Go.ChangeAt Go.RowKit
open Pk (own_at own_ge own_below own_form info_of new_below join_below heap_new lt_of kept cell_at heap_old frozen_at)
open Rd (Ri Rides lgV)
open Gt (ML)
set_option linter.unusedSimpArgs false
set_option linter.unusedVariables false

set_option maxRecDepth 100000 in
set_option maxHeartbeats 16000000 in
theorem guess_val (s : ByteArray) (w : World) (hs : s.size ≤ 1048576) (M : ML w) :
    Calls Tryd.prog 21 #[.string s] w fun e w' => (∃ a cap, e = .returned (wnV (gwH s) (gwN s) a (gwR s).length cap) ∧ w'.ownsRow w.heap.size 43 4 (.slice a (gwR s).length cap) (gwR s).length (qcells (gwR s))) ∧ Below w.heap.size w w' := by
  obtain ⟨i0, hi, hz0, hz1, hz2⟩ := info_of Rd.info_ride
  have HML : Hid (∀ W, Below w.heap.size w W → ML W) := fun W L => M.on L
  have HC6 : Hid (∀ W, ML W → _) := fun W h => cutNumbers_val s 6 W hs (by omega) (by omega) h
  rw [show ((6 : Nat) : Int) = 6 from rfl] at HC6
  have HGR : Hid (gwR s = gQ (min (nW s 5) 6) (cZ s 6)) := rfl
  have HGN : Hid (gwN s = gE (min (nW s 5) 6) (cZ s 6)) := rfl
  have HGH : Hid (gwH s = ⟨(nW s 0 : Nat), (nW s 1 : Nat), (nW s 2 : Nat), (nW s 3 : Nat), (nW s 4 : Nat)⟩) := rfl
  have hr0 : (cZ s 6).size ≤ 1048576 := Nat.le_trans (cZ_size s 6) hs
  have hb5 := nW_bd s 5
  generalize gwR s = GR at *
  generalize gwH s = GH at *
  generalize gwN s = GN at *
  generalize cZ s 6 = r0 at *
  have N0 := new_below w (.cells #[.int .i64 0, .int .i64 0, .int .i64 0, .string ⟨#[]⟩, .int .i64 0, .int .i64 0, .slice none 0 0] 26)
  have m0 := heap_new w (.cells #[.int .i64 0, .int .i64 0, .int .i64 0, .string ⟨#[]⟩, .int .i64 0, .int .i64 0, .slice none 0 0] 26)
  go_enter Tryd.func21, Tryd.ntmps21
  go_wp2_with fail
  generalize w.alloc (.cells #[.int .i64 0, .int .i64 0, .int .i64 0, .string ⟨#[]⟩, .int .i64 0, .int .i64 0, .slice none 0 0] 26) = w0 at *
  refine (HC6.out _ (HML.out _ N0)).mono ?_
  rintro e w3 ⟨⟨gx, rfl, hgx0, hgx, hcx⟩, L3⟩
  have m3 := kept L3 (lt_of m0) m0
  have K3 := join_below N0 L3
  have x0 := hcx 0 (by omega)
  have x1 := hcx 1 (by omega)
  have x2 := hcx 2 (by omega)
  have x3 := hcx 3 (by omega)
  have x4 := hcx 4 (by omega)
  have x5 := hcx 5 (by omega)
  clear m0 N0 L3 hcx HC6
  generalize nW s 0 = n0 at *
  generalize nW s 1 = n1 at *
  generalize nW s 2 = n2 at *
  generalize nW s 3 = n3 at *
  generalize nW s 4 = n4 at *
  generalize nW s 5 = n5 at *
  have e0 := World.new_ne w3 ⟨gx, 0, none⟩ x0
  have hx5 : (w3.alloc (.cells #[.int .i64 (n0 : Int), .int .i64 (n1 : Int), .int .i64 (n2 : Int), .string ⟨#[]⟩, .int .i64 (n3 : Int), .int .i64 (n4 : Int), .slice none 0 0] 26)).cell? ⟨gx, 5, none⟩ = some (.int .i64 (n5 : Int)) := by rw [(new_below w3 _).cell (p := ⟨gx, 5, none⟩) hgx]; exact x5
  obtain ⟨MM, hMM⟩ : ∃ MM : Nat, min n5 6 = MM := ⟨_, rfl⟩
  have hMI : min (n5 : Int) 6 = (MM : Int) := by omega
  have hM6 : MM ≤ 6 := by omega
  rw [hMM] at HGR HGN
  clear hMM hb5
  go_wp2
  go_region_held3 (fun w' => w'.cell? ⟨gx, 0, none⟩ = some (.int .i64 (n0 : Int)) ∧ w'.cell? ⟨gx, 1, none⟩ = some (.int .i64 (n1 : Int)) ∧ w'.cell? ⟨gx, 2, none⟩ = some (.int .i64 (n2 : Int)) ∧ w'.cell? ⟨gx, 3, none⟩ = some (.int .i64 (n3 : Int)) ∧ w'.cell? ⟨gx, 4, none⟩ = some (.int .i64 (n4 : Int))) (go_keep) (fail)
  all_goals
    have mT := heap_new w3 (.cells #[.int .i64 (n0 : Int), .int .i64 (n1 : Int), .int .i64 (n2 : Int), .string ⟨#[]⟩, .int .i64 (n3 : Int), .int .i64 (n4 : Int), .slice none 0 0] 26)
    have NT := new_below w3 (.cells #[.int .i64 (n0 : Int), .int .i64 (n1 : Int), .int .i64 (n2 : Int), .string ⟨#[]⟩, .int .i64 (n3 : Int), .int .i64 (n4 : Int), .slice none 0 0] 26)
    have m4 := kept NT (lt_of m3) m3
    have K4 := join_below K3 NT
    have hTR : w3.heap.size ≠ w.heap.size := by have := lt_of m3; omega
    have hTge : w.heap.size ≤ w3.heap.size := K3.size
    clear m3 K3 NT x0 x1 x2 x3 x4 x5 e0 hgx0
    go_wp2
    generalize w3.alloc (.cells #[.int .i64 (n0 : Int), .int .i64 (n1 : Int), .int .i64 (n2 : Int), .string ⟨#[]⟩, .int .i64 (n3 : Int), .int .i64 (n4 : Int), .slice none 0 0] 26) = W3 at *
    generalize w3.heap.size = T at *
    go_loopw [3, 4, 31] (fun _ v i wr => ∃ (k n : Nat) (r : ByteArray) (done : List Ri) (a : Option Addr) (lc : Nat), v = .string r ∧ i = .int .i64 k ∧ k + n = MM ∧ Hid (done.length = k) ∧ r.size ≤ 1048576 ∧ Hid (GR = done ++ gQ n r) ∧ Hid (GN = gE n r) ∧ wr.heap[w.heap.size]? = some (.cells #[.int .i64 0, .int .i64 0, .int .i64 0, .string ⟨#[]⟩, .int .i64 0, .int .i64 0, .slice none 0 0] 26) ∧ wr.heap[T]? = some (.cells #[.int .i64 (n0 : Int), .int .i64 (n1 : Int), .int .i64 (n2 : Int), .string ⟨#[]⟩, .int .i64 (n3 : Int), .int .i64 (n4 : Int), .slice a done.length lc] 26) ∧ wr.ownsRow w.heap.size 43 4 (.slice a done.length lc) done.length (qcells done) ∧ Hid (Below w.heap.size w wr)) (fun _ _ i _ => MM - (intOf i).toNat)
    case atStart => exact ⟨0, MM, r0, [], none, 0, rfl, rfl, by omega, rfl, hr0, HGR, HGN, m4, mT, ⟨rfl, Or.inl ⟨rfl, rfl⟩⟩, by first | exact K4.drew | exact K4⟩
    case round =>
      clear m4 mT K4 HGR HGN hr0 hx5
      obtain ⟨k, n, r, done, la, lc, rfl, rfl, hkn, HDK, hr, HG, HE, m4, mT4, O4, K4⟩ := hrel
      have t6 : wr.cell? ⟨T, 6, none⟩ = some (.slice la done.length lc) := cell_at mT4 6
      have hdk : done.length ≤ 6 := by have := HDK.out; omega
      by_cases hlt : k < MM
      · obtain ⟨n', rfl⟩ : ∃ n', n = n' + 1 := ⟨n - 1, by omega⟩
        have hkI : (k : Int) < (MM : Int) := by omega
        have hwk : IntKind.i64.wrap ((k : Int) + 1) = (k : Int) + 1 := by rw [IntKind.wrap_i64]; omega
        have HC4 : Hid (∀ W, ML W → _) := fun W h => cutNumbers_val r 4 W hr (by omega) (by omega) h
        rw [show ((4 : Nat) : Int) = 4 from rfl] at HC4
        have HLI : Hid (gQ (n' + 1) r = ⟨(nW r 0 : Nat), (nW r 1 : Nat), (nW r 2 : Nat), (nW r 3 : Nat)⟩ :: gQ n' (cZ r 4)) := rfl
        have HLE : Hid (gE (n' + 1) r = gE n' (cZ r 4)) := rfl
        have hr2 : (cZ r 4).size ≤ 1048576 := Nat.le_trans (cZ_size r 4) hr
        rw [HLI.out] at HG
        rw [HLE.out] at HE
        generalize cZ r 4 = r2 at *
        go_wp2_with fail
        refine (HC4.out _ (HML.out _ K4.out)).mono ?_
        rintro e w5 ⟨⟨hx, rfl, hwx, hgx6, hcx6⟩, L5⟩
        have m5 := kept L5 (lt_of m4) m4
        have mT5 := kept L5 (lt_of mT4) mT4
        have O5 := own_below O4 L5 (Nat.le_refl _)
        have K5 := join_below K4.out L5
        have hTw : T < wr.heap.size := lt_of mT4
        have HLT : Hid (∀ k', (Value.slice la done.length lc).ownBlock = some k' → k' < wr.heap.size) := fun k' h => (O4.lt k' h).2
        have x0 := hcx6 0 (by omega)
        have x1 := hcx6 1 (by omega)
        have x2 := hcx6 2 (by omega)
        have x3 := hcx6 3 (by omega)
        clear m4 mT4 O4 K4 L5 t6 HC4 HLI HLE hcx6
        generalize nW r 0 = p0 at *
        generalize nW r 1 = p1 at *
        generalize nW r 2 = p2 at *
        generalize nW r 3 = p3 at *
        have tx : w5.cell? ⟨T, 6, none⟩ = some (.slice la done.length lc) := cell_at mT5 6
        have txA : (w5.alloc (.cells #[.int .i64 (p0 : Int), .int .i64 (p1 : Int), .int .i64 (p2 : Int), .int .i64 (p3 : Int)] 43)).cell? ⟨T, 6, none⟩ = some (.slice la done.length lc) := cell_at (heap_old mT5 _) 6
        have hTx : T ≠ hx := by omega
        have aT : (Value.slice la done.length lc).ownBlock ≠ some T := Pk.own_ne' O5 mT5 (by decide)
        have aX : (Value.slice la done.length lc).ownBlock ≠ some hx := fun h => by have := HLT.out hx h; omega
        have aR : (Value.slice la done.length lc).ownBlock ≠ some w.heap.size := Pk.own_ne' O5 m5 (by decide)
        have htl : T < w5.heap.size := lt_of mT5
        have hkm : done.length + 1 ≤ maxLen := by unfold maxLen; omega
        have hkb : (done.length + 1) * 32 ≤ 140737488355328 := by omega
        have hbs : w.heap.size ≤ w5.heap.size := K5.size
        have HG2 : Hid (GR = (done ++ [⟨p0, p1, p2, p3⟩]) ++ gQ n' r2) := by
          show _ = _
          rw [HG.out, List.append_assoc]
          rfl
        go_wp2
        refine wp_region_held_drew (S := (fun w' => w'.cell? ⟨hx, 0, none⟩ = some (.int .i64 (p0 : Int)) ∧ w'.cell? ⟨hx, 1, none⟩ = some (.int .i64 (p1 : Int)) ∧ w'.cell? ⟨hx, 2, none⟩ = some (.int .i64 (p2 : Int)) ∧ w'.cell? ⟨hx, 3, none⟩ = some (.int .i64 (p3 : Int)))) (by kernel_rfl) ?_ (fun hHeld => ?_)
        · exact ⟨x0, x1, x2, x3⟩
        refine wpAnyH_take (i := 0) (oi := { dst := some 38, op := Op.fieldAddr 26 (Operand.tmp 5) 6, type := 0, pos := "l10_log.go:121", after := #[], guard := none }) (v := ?_) rfl (by kernel_rfl) (by kernel_rfl) (by kernel_rfl) (fun _ _ _ h => h) (Or.inl ⟨by rfl, ?_⟩) (by assumption) ?_
        rotate_left 1
        · (intro wS hSw; (try dsimp only at hSw); go_simp; try (with_reducible rfl))
        (try simp only [Act.put, List.setIfInBounds_toArray, List.set_cons_zero, List.set_cons_succ])
        refine wpAnyH_take (i := 2) (oi := { dst := some 40, op := Op.move (Operand.tmp 3), type := 38, pos := "l10_log.go:121", after := #[], guard := none }) (v := ?_) rfl (by kernel_rfl) (by kernel_rfl) (by kernel_rfl) (fun _ _ _ h => h) (Or.inl ⟨by rfl, ?_⟩) (by assumption) ?_
        rotate_left 1
        · (intro wS hSw; (try dsimp only at hSw); go_simp; try (with_reducible rfl))
        (try simp only [Act.put, List.setIfInBounds_toArray, List.set_cons_zero, List.set_cons_succ])
        refine wpAnyH_take (i := 3) (oi := { dst := some 41, op := Op.indexAddr 38 (Operand.tmp 40) (Operand.const (Value.int IntKind.i64 0)), type := 0, pos := "l10_log.go:121", after := #[{ on := 2, ground := Ground.data }], guard := none }) (v := ?_) rfl (by kernel_rfl) (by kernel_rfl) (by kernel_rfl) (fun _ _ _ h => h) (Or.inl ⟨by rfl, ?_⟩) (by assumption) ?_
        rotate_left 1
        · (intro wS hSw; (try dsimp only at hSw); go_simp; try (with_reducible rfl))
        (try simp only [Act.put, List.setIfInBounds_toArray, List.set_cons_zero, List.set_cons_succ])
        refine wpAnyH_take (i := 4) (oi := { dst := some 42, op := Op.load 3 (Operand.tmp 41), type := 3, pos := "l10_log.go:121", after := #[{ on := 3, ground := Ground.data }], guard := none }) (v := ?_) rfl (by kernel_rfl) (by kernel_rfl) (by kernel_rfl) (fun _ _ _ h => h) (Or.inl ⟨by rfl, ?_⟩) (by assumption) ?_
        rotate_left 1
        · (intro wS hSw; (try dsimp only at hSw); go_simp; try (with_reducible rfl))
        (try simp only [Act.put, List.setIfInBounds_toArray, List.set_cons_zero, List.set_cons_succ])
        refine wpAnyH_take (i := 5) (oi := { dst := some 43, op := Op.move (Operand.tmp 3), type := 38, pos := "l10_log.go:121", after := #[], guard := none }) (v := ?_) rfl (by kernel_rfl) (by kernel_rfl) (by kernel_rfl) (fun _ _ _ h => h) (Or.inl ⟨by rfl, ?_⟩) (by assumption) ?_
        rotate_left 1
        · (intro wS hSw; (try dsimp only at hSw); go_simp; try (with_reducible rfl))
        (try simp only [Act.put, List.setIfInBounds_toArray, List.set_cons_zero, List.set_cons_succ])
        refine wpAnyH_take (i := 6) (oi := { dst := some 44, op := Op.indexAddr 38 (Operand.tmp 43) (Operand.const (Value.int IntKind.i64 1)), type := 0, pos := "l10_log.go:121", after := #[{ on := 5, ground := Ground.data }], guard := none }) (v := ?_) rfl (by kernel_rfl) (by kernel_rfl) (by kernel_rfl) (fun _ _ _ h => h) (Or.inl ⟨by rfl, ?_⟩) (by assumption) ?_
        rotate_left 1
        · (intro wS hSw; (try dsimp only at hSw); go_simp; try (with_reducible rfl))
        (try simp only [Act.put, List.setIfInBounds_toArray, List.set_cons_zero, List.set_cons_succ])
        refine wpAnyH_take (i := 7) (oi := { dst := some 45, op := Op.load 3 (Operand.tmp 44), type := 3, pos := "l10_log.go:121", after := #[{ on := 6, ground := Ground.data }], guard := none }) (v := ?_) rfl (by kernel_rfl) (by kernel_rfl) (by kernel_rfl) (fun _ _ _ h => h) (Or.inl ⟨by rfl, ?_⟩) (by assumption) ?_
        rotate_left 1
        · (intro wS hSw; (try dsimp only at hSw); go_simp; try (with_reducible rfl))
        (try simp only [Act.put, List.setIfInBounds_toArray, List.set_cons_zero, List.set_cons_succ])
        refine wpAnyH_take (i := 8) (oi := { dst := some 46, op := Op.move (Operand.tmp 3), type := 38, pos := "l10_log.go:121", after := #[], guard := none }) (v := ?_) rfl (by kernel_rfl) (by kernel_rfl) (by kernel_rfl) (fun _ _ _ h => h) (Or.inl ⟨by rfl, ?_⟩) (by assumption) ?_
        rotate_left 1
        · (intro wS hSw; (try dsimp only at hSw); go_simp; try (with_reducible rfl))
        (try simp only [Act.put, List.setIfInBounds_toArray, List.set_cons_zero, List.set_cons_succ])
        refine wpAnyH_take (i := 9) (oi := { dst := some 47, op := Op.indexAddr 38 (Operand.tmp 46) (Operand.const (Value.int IntKind.i64 2)), type := 0, pos := "l10_log.go:121", after := #[{ on := 8, ground := Ground.data }], guard := none }) (v := ?_) rfl (by kernel_rfl) (by kernel_rfl) (by kernel_rfl) (fun _ _ _ h => h) (Or.inl ⟨by rfl, ?_⟩) (by assumption) ?_
        rotate_left 1
        · (intro wS hSw; (try dsimp only at hSw); go_simp; try (with_reducible rfl))
        (try simp only [Act.put, List.setIfInBounds_toArray, List.set_cons_zero, List.set_cons_succ])
        refine wpAnyH_take (i := 10) (oi := { dst := some 48, op := Op.load 3 (Operand.tmp 47), type := 3, pos := "l10_log.go:121", after := #[{ on := 9, ground := Ground.data }], guard := none }) (v := ?_) rfl (by kernel_rfl) (by kernel_rfl) (by kernel_rfl) (fun _ _ _ h => h) (Or.inl ⟨by rfl, ?_⟩) (by assumption) ?_
        rotate_left 1
        · (intro wS hSw; (try dsimp only at hSw); go_simp; try (with_reducible rfl))
        (try simp only [Act.put, List.setIfInBounds_toArray, List.set_cons_zero, List.set_cons_succ])
        refine wpAnyH_take (i := 11) (oi := { dst := some 49, op := Op.move (Operand.tmp 3), type := 38, pos := "l10_log.go:121", after := #[], guard := none }) (v := ?_) rfl (by kernel_rfl) (by kernel_rfl) (by kernel_rfl) (fun _ _ _ h => h) (Or.inl ⟨by rfl, ?_⟩) (by assumption) ?_
        rotate_left 1
        · (intro wS hSw; (try dsimp only at hSw); go_simp; try (with_reducible rfl))
        (try simp only [Act.put, List.setIfInBounds_toArray, List.set_cons_zero, List.set_cons_succ])
        refine wpAnyH_take (i := 12) (oi := { dst := some 50, op := Op.indexAddr 38 (Operand.tmp 49) (Operand.const (Value.int IntKind.i64 3)), type := 0, pos := "l10_log.go:121", after := #[{ on := 11, ground := Ground.data }], guard := none }) (v := ?_) rfl (by kernel_rfl) (by kernel_rfl) (by kernel_rfl) (fun _ _ _ h => h) (Or.inl ⟨by rfl, ?_⟩) (by assumption) ?_
        rotate_left 1
        · (intro wS hSw; (try dsimp only at hSw); go_simp; try (with_reducible rfl))
        (try simp only [Act.put, List.setIfInBounds_toArray, List.set_cons_zero, List.set_cons_succ])
        refine wpAnyH_take (i := 13) (oi := { dst := some 51, op := Op.load 3 (Operand.tmp 50), type := 3, pos := "l10_log.go:121", after := #[{ on := 12, ground := Ground.data }], guard := none }) (v := ?_) rfl (by kernel_rfl) (by kernel_rfl) (by kernel_rfl) (fun _ _ _ h => h) (Or.inl ⟨by rfl, ?_⟩) (by assumption) ?_
        rotate_left 1
        · (intro wS hSw; (try dsimp only at hSw); go_simp; try (with_reducible rfl))
        (try simp only [Act.put, List.setIfInBounds_toArray, List.set_cons_zero, List.set_cons_succ])
        refine wpAnyH_take (i := 14) (oi := { dst := some 52, op := Op.build 43 #[(0, Operand.tmp 42), (1, Operand.tmp 45), (2, Operand.tmp 48), (3, Operand.tmp 51)], type := 43, pos := "l10_log.go:121", after := #[{ on := 4, ground := Ground.data }, { on := 7, ground := Ground.data }, { on := 10, ground := Ground.data }, { on := 13, ground := Ground.data }], guard := none }) (v := ?_) rfl (by kernel_rfl) (by kernel_rfl) (by kernel_rfl) (fun _ _ _ h => h) (Or.inl ⟨by rfl, ?_⟩) (by assumption) ?_
        rotate_left 1
        · (intro wS hSw; (try dsimp only at hSw); go_simp; try (with_reducible rfl))
        (try simp only [Act.put, List.setIfInBounds_toArray, List.set_cons_zero, List.set_cons_succ])
        have yy0 : (w5.alloc (.cells #[.int .i64 (p0 : Int), .int .i64 (p1 : Int), .int .i64 (p2 : Int), .int .i64 (p3 : Int)] 43)).cell? ⟨hx, 0, none⟩ = some (.int .i64 (p0 : Int)) := by rw [(new_below w5 _).cell (p := ⟨hx, 0, none⟩) hgx6]; exact x0
        have yy1 : (w5.alloc (.cells #[.int .i64 (p0 : Int), .int .i64 (p1 : Int), .int .i64 (p2 : Int), .int .i64 (p3 : Int)] 43)).cell? ⟨hx, 1, none⟩ = some (.int .i64 (p1 : Int)) := by rw [(new_below w5 _).cell (p := ⟨hx, 1, none⟩) hgx6]; exact x1
        have yy2 : (w5.alloc (.cells #[.int .i64 (p0 : Int), .int .i64 (p1 : Int), .int .i64 (p2 : Int), .int .i64 (p3 : Int)] 43)).cell? ⟨hx, 2, none⟩ = some (.int .i64 (p2 : Int)) := by rw [(new_below w5 _).cell (p := ⟨hx, 2, none⟩) hgx6]; exact x2
        have yy3 : (w5.alloc (.cells #[.int .i64 (p0 : Int), .int .i64 (p1 : Int), .int .i64 (p2 : Int), .int .i64 (p3 : Int)] 43)).cell? ⟨hx, 3, none⟩ = some (.int .i64 (p3 : Int)) := by rw [(new_below w5 _).cell (p := ⟨hx, 3, none⟩) hgx6]; exact x3
        refine wpAnyH_ready (rs := [1, 15]) (by kernel_rfl) (by simp) ?_
        refine AllReadyH.cons (o := { dst := some 39, op := Op.load 24 (Operand.tmp 38), type := 24, pos := "l10_log.go:121", after := #[{ on := 0, ground := Ground.data }], guard := none }) rfl (fun K hK => ?_) ?_
        · go_simp
          refine hK.out _ _ ?_ (fun hHeld => ?_)
          · exact ⟨x0, x1, x2, x3⟩
          clear hK K
          (try simp only [Act.put, List.setIfInBounds_toArray, List.set_cons_zero, List.set_cons_succ])
          refine wpAnyH_ready (rs := [15]) (by kernel_rfl) (by simp) ?_
          refine AllReadyH.cons (o := { dst := some 53, op := Op.buildSlice 24 1 #[(0, Operand.tmp 52)], type := 24, pos := "l10_log.go:121", after := #[{ on := 14, ground := Ground.data }], guard := none }) rfl (fun K hK => ?_) AllReadyH.nil
          go_simp
          refine hK.out _ _ ?_ (fun hHeld => ?_)
          · exact ⟨yy0, yy1, yy2, yy3⟩
          clear hK K
          (try simp only [Act.put, List.setIfInBounds_toArray, List.set_cons_zero, List.set_cons_succ])
          refine wpAnyH_ready (rs := [16]) (by kernel_rfl) (by simp) ?_
          refine AllReadyH.cons (o := { dst := some 54, op := Op.call { callee := Callee.builtin Builtin.append, args := #[Operand.tmp 39, Operand.tmp 53], argTypes := #[24, 24] }, type := 24, pos := "l10_log.go:121", after := #[{ on := 1, ground := Ground.data }, { on := 15, ground := Ground.data }], guard := none }) rfl (fun K hK => ?_) AllReadyH.nil
          refine step_append_lies _ (by rfl) _ _ _ (by rfl) w.heap.size 43 i0 _ 4 32 Tryd.underlying24 hi hz0 hz1 hz2 rfl (by omega) (.slice la done.length lc) done.length (qcells done) (by rfl) ((O5.alloc _).drew) ⟨w5.heap.size, 0, none⟩ 1 1 (qc1 ⟨p0, p1, p2, p3⟩) (by rfl) (by rfl) (World.news_of_block (cs := #[.int .i64 (p0 : Int), .int .i64 (p1 : Int), .int .i64 (p2 : Int), .int .i64 (p3 : Int)]) (t := 43) (fr := (0, 0)) (heap_alloc_new w5 _)) (by simp [qc1, Value.oneCell']) (by omega) hkm hkb (by simp; omega) (w5.heap.size + 1) (by simp) ?_
          intro gg cap6 w6 hown1 hgrow hat hlt
          have mT6 : w6.heap[T]? = some (.cells #[.int .i64 (n0 : Int), .int .i64 (n1 : Int), .int .i64 (n2 : Int), .string ⟨#[]⟩, .int .i64 (n3 : Int), .int .i64 (n4 : Int), .slice la done.length lc] 26) := (by rw [hgrow.block T (by simp; omega) (Ne.symm aT)]; exact heap_old mT5 _)
          have tf6 : w6.frozen? ⟨T, 6, none⟩ = false := frozen_at mT6 6
          have tx6 : w6.cell? ⟨T, 6, none⟩ = some (.slice la done.length lc) := cell_at mT6 6
          have q0 : w6.cell? ⟨hx, 0, none⟩ = some (.int .i64 (p0 : Int)) := (by rw [hgrow.cell_far _ (by simp; omega) (Ne.symm aX)]; exact yy0)
          have q1 : w6.cell? ⟨hx, 1, none⟩ = some (.int .i64 (p1 : Int)) := (by rw [hgrow.cell_far _ (by simp; omega) (Ne.symm aX)]; exact yy1)
          have q2 : w6.cell? ⟨hx, 2, none⟩ = some (.int .i64 (p2 : Int)) := (by rw [hgrow.cell_far _ (by simp; omega) (Ne.symm aX)]; exact yy2)
          have q3 : w6.cell? ⟨hx, 3, none⟩ = some (.int .i64 (p3 : Int)) := (by rw [hgrow.cell_far _ (by simp; omega) (Ne.symm aX)]; exact yy3)
          refine hK.out _ _ ?_ (fun hHeld => ?_)
          · exact ⟨q0, q1, q2, q3⟩
          clear hK K
          (try simp only [Act.put, List.setIfInBounds_toArray, List.set_cons_zero, List.set_cons_succ])
          refine wpAnyH_take (i := 17) (oi := { dst := some 55, op := Op.fieldAddr 26 (Operand.tmp 5) 6, type := 0, pos := "l10_log.go:121", after := #[{ on := 0, ground := Ground.phase }, { on := 1, ground := Ground.phase }, { on := 2, ground := Ground.phase }, { on := 3, ground := Ground.phase }, { on := 4, ground := Ground.phase }, { on := 5, ground := Ground.phase }, { on := 6, ground := Ground.phase }, { on := 7, ground := Ground.phase }, { on := 8, ground := Ground.phase }, { on := 9, ground := Ground.phase }, { on := 10, ground := Ground.phase }, { on := 11, ground := Ground.phase }, { on := 12, ground := Ground.phase }, { on := 13, ground := Ground.phase }, { on := 14, ground := Ground.phase }, { on := 15, ground := Ground.phase }, { on := 16, ground := Ground.phase }], guard := none }) (v := ?_) rfl (by kernel_rfl) (by kernel_rfl) (by kernel_rfl) (fun _ _ _ h => h) (Or.inl ⟨by rfl, ?_⟩) (by assumption) ?_
          rotate_left 1
          · (intro wS hSw; (try dsimp only at hSw); go_simp; try (with_reducible rfl))
          (try simp only [Act.put, List.setIfInBounds_toArray, List.set_cons_zero, List.set_cons_succ])
          refine wpAnyH_ready (rs := [18]) (by kernel_rfl) (by simp) ?_
          refine AllReadyH.cons (o := { dst := none, op := Op.store 24 (Operand.tmp 55) (Operand.tmp 54), type := 0, pos := "l10_log.go:121", after := #[{ on := 17, ground := Ground.data }, { on := 16, ground := Ground.data }, { on := 16, ground := Ground.chain }, { on := 0, ground := Ground.phase }, { on := 1, ground := Ground.phase }, { on := 2, ground := Ground.phase }, { on := 3, ground := Ground.phase }, { on := 4, ground := Ground.phase }, { on := 5, ground := Ground.phase }, { on := 6, ground := Ground.phase }, { on := 7, ground := Ground.phase }, { on := 8, ground := Ground.phase }, { on := 9, ground := Ground.phase }, { on := 10, ground := Ground.phase }, { on := 11, ground := Ground.phase }, { on := 12, ground := Ground.phase }, { on := 13, ground := Ground.phase }, { on := 14, ground := Ground.phase }, { on := 15, ground := Ground.phase }, { on := 16, ground := Ground.phase }], guard := none }) rfl (fun K hK => ?_) AllReadyH.nil
          go_simp
          refine hK.out _ _ ?_ (fun hHeld => ?_)
          · exact ⟨by rw [Tk.cell_other (Ne.symm hTx)]; exact q0, by rw [Tk.cell_other (Ne.symm hTx)]; exact q1, by rw [Tk.cell_other (Ne.symm hTx)]; exact q2, by rw [Tk.cell_other (Ne.symm hTx)]; exact q3⟩
          clear hK K
          (try simp only [Act.put, List.setIfInBounds_toArray, List.set_cons_zero, List.set_cons_succ])
          refine wpAnyH_done (by kernel_rfl) ?_ _
          have hgT : gg ≠ T := by
            rintro rfl
            rcases hat with h | h
            · exact aT h
            · omega
          have mR6 : w6.heap[w.heap.size]? = some (.cells #[.int .i64 0, .int .i64 0, .int .i64 0, .string ⟨#[]⟩, .int .i64 0, .int .i64 0, .slice none 0 0] 26) := (by rw [hgrow.block w.heap.size (by have := lt_of m5; simp; omega) (Ne.symm aR)]; exact heap_old m5 _)
          have mR7 := Tk.h_other (i := 6) mR6 (Ne.symm hTR) (.slice (some ⟨gg, 0, none⟩) (done.length + 1) cap6)
          have mT7 := Tk.h_set (i := 6) mT6 (.slice (some ⟨gg, 0, none⟩) (done.length + 1) cap6)
          have O7 := own_off (b := T) (i := 6) hown1 hgT (.slice (some ⟨gg, 0, none⟩) (done.length + 1) cap6)
          rw [qcells_snoc] at O7
          have hdl : Hid (done.length + 1 = (done ++ [(⟨p0, p1, p2, p3⟩ : Ri)]).length) := by show _ = _; simp
          have K6 : Below w.heap.size w w6 := (K5.alloc hbs _).drew.grown hgrow (by simp; omega) (fun m h => own_ge O5 m h)
          have K7 := K6.setCell (p := ⟨T, 6, none⟩) (by show w.heap.size ≤ T; omega) (.slice (some ⟨gg, 0, none⟩) (done.length + 1) cap6)
          clear hkm hkb hMI hs
          go_wp2
          go_roundw
          case rel => exact ⟨k + 1, n', r2, done ++ [⟨p0, p1, p2, p3⟩], some ⟨gg, 0, none⟩, cap6, rfl, by go_num, by omega, (by show (done ++ [(⟨p0, p1, p2, p3⟩ : Ri)]).length = k + 1; rw [List.length_append, HDK.out]; rfl), hr2, HG2, HE, mR7, by rw [← hdl.out]; exact mT7, by rw [← hdl.out]; exact O7, K7⟩
          case measure => simp [intOf]; omega
        refine AllReadyH.cons (o := { dst := some 53, op := Op.buildSlice 24 1 #[(0, Operand.tmp 52)], type := 24, pos := "l10_log.go:121", after := #[{ on := 14, ground := Ground.data }], guard := none }) rfl (fun K hK => ?_) AllReadyH.nil
        go_simp
        refine hK.out _ _ ?_ (fun hHeld => ?_)
        · exact ⟨yy0, yy1, yy2, yy3⟩
        clear hK K
        (try simp only [Act.put, List.setIfInBounds_toArray, List.set_cons_zero, List.set_cons_succ])
        refine wpAnyH_ready (rs := [1]) (by kernel_rfl) (by simp) ?_
        refine AllReadyH.cons (o := { dst := some 39, op := Op.load 24 (Operand.tmp 38), type := 24, pos := "l10_log.go:121", after := #[{ on := 0, ground := Ground.data }], guard := none }) rfl (fun K hK => ?_) AllReadyH.nil
        go_simp
        refine hK.out _ _ ?_ (fun hHeld => ?_)
        · exact ⟨yy0, yy1, yy2, yy3⟩
        clear hK K
        (try simp only [Act.put, List.setIfInBounds_toArray, List.set_cons_zero, List.set_cons_succ])
        refine wpAnyH_ready (rs := [16]) (by kernel_rfl) (by simp) ?_
        refine AllReadyH.cons (o := { dst := some 54, op := Op.call { callee := Callee.builtin Builtin.append, args := #[Operand.tmp 39, Operand.tmp 53], argTypes := #[24, 24] }, type := 24, pos := "l10_log.go:121", after := #[{ on := 1, ground := Ground.data }, { on := 15, ground := Ground.data }], guard := none }) rfl (fun K hK => ?_) AllReadyH.nil
        refine step_append_lies _ (by rfl) _ _ _ (by rfl) w.heap.size 43 i0 _ 4 32 Tryd.underlying24 hi hz0 hz1 hz2 rfl (by omega) (.slice la done.length lc) done.length (qcells done) (by rfl) ((O5.alloc _).drew) ⟨w5.heap.size, 0, none⟩ 1 1 (qc1 ⟨p0, p1, p2, p3⟩) (by rfl) (by rfl) (World.news_of_block (cs := #[.int .i64 (p0 : Int), .int .i64 (p1 : Int), .int .i64 (p2 : Int), .int .i64 (p3 : Int)]) (t := 43) (fr := (0, 0)) (heap_alloc_new w5 _)) (by simp [qc1, Value.oneCell']) (by omega) hkm hkb (by simp; omega) (w5.heap.size + 1) (by simp) ?_
        intro gg cap6 w6 hown1 hgrow hat hlt
        have mT6 : w6.heap[T]? = some (.cells #[.int .i64 (n0 : Int), .int .i64 (n1 : Int), .int .i64 (n2 : Int), .string ⟨#[]⟩, .int .i64 (n3 : Int), .int .i64 (n4 : Int), .slice la done.length lc] 26) := (by rw [hgrow.block T (by simp; omega) (Ne.symm aT)]; exact heap_old mT5 _)
        have tf6 : w6.frozen? ⟨T, 6, none⟩ = false := frozen_at mT6 6
        have tx6 : w6.cell? ⟨T, 6, none⟩ = some (.slice la done.length lc) := cell_at mT6 6
        have q0 : w6.cell? ⟨hx, 0, none⟩ = some (.int .i64 (p0 : Int)) := (by rw [hgrow.cell_far _ (by simp; omega) (Ne.symm aX)]; exact yy0)
        have q1 : w6.cell? ⟨hx, 1, none⟩ = some (.int .i64 (p1 : Int)) := (by rw [hgrow.cell_far _ (by simp; omega) (Ne.symm aX)]; exact yy1)
        have q2 : w6.cell? ⟨hx, 2, none⟩ = some (.int .i64 (p2 : Int)) := (by rw [hgrow.cell_far _ (by simp; omega) (Ne.symm aX)]; exact yy2)
        have q3 : w6.cell? ⟨hx, 3, none⟩ = some (.int .i64 (p3 : Int)) := (by rw [hgrow.cell_far _ (by simp; omega) (Ne.symm aX)]; exact yy3)
        refine hK.out _ _ ?_ (fun hHeld => ?_)
        · exact ⟨q0, q1, q2, q3⟩
        clear hK K
        (try simp only [Act.put, List.setIfInBounds_toArray, List.set_cons_zero, List.set_cons_succ])
        refine wpAnyH_take (i := 17) (oi := { dst := some 55, op := Op.fieldAddr 26 (Operand.tmp 5) 6, type := 0, pos := "l10_log.go:121", after := #[{ on := 0, ground := Ground.phase }, { on := 1, ground := Ground.phase }, { on := 2, ground := Ground.phase }, { on := 3, ground := Ground.phase }, { on := 4, ground := Ground.phase }, { on := 5, ground := Ground.phase }, { on := 6, ground := Ground.phase }, { on := 7, ground := Ground.phase }, { on := 8, ground := Ground.phase }, { on := 9, ground := Ground.phase }, { on := 10, ground := Ground.phase }, { on := 11, ground := Ground.phase }, { on := 12, ground := Ground.phase }, { on := 13, ground := Ground.phase }, { on := 14, ground := Ground.phase }, { on := 15, ground := Ground.phase }, { on := 16, ground := Ground.phase }], guard := none }) (v := ?_) rfl (by kernel_rfl) (by kernel_rfl) (by kernel_rfl) (fun _ _ _ h => h) (Or.inl ⟨by rfl, ?_⟩) (by assumption) ?_
        rotate_left 1
        · (intro wS hSw; (try dsimp only at hSw); go_simp; try (with_reducible rfl))
        (try simp only [Act.put, List.setIfInBounds_toArray, List.set_cons_zero, List.set_cons_succ])
        refine wpAnyH_ready (rs := [18]) (by kernel_rfl) (by simp) ?_
        refine AllReadyH.cons (o := { dst := none, op := Op.store 24 (Operand.tmp 55) (Operand.tmp 54), type := 0, pos := "l10_log.go:121", after := #[{ on := 17, ground := Ground.data }, { on := 16, ground := Ground.data }, { on := 16, ground := Ground.chain }, { on := 0, ground := Ground.phase }, { on := 1, ground := Ground.phase }, { on := 2, ground := Ground.phase }, { on := 3, ground := Ground.phase }, { on := 4, ground := Ground.phase }, { on := 5, ground := Ground.phase }, { on := 6, ground := Ground.phase }, { on := 7, ground := Ground.phase }, { on := 8, ground := Ground.phase }, { on := 9, ground := Ground.phase }, { on := 10, ground := Ground.phase }, { on := 11, ground := Ground.phase }, { on := 12, ground := Ground.phase }, { on := 13, ground := Ground.phase }, { on := 14, ground := Ground.phase }, { on := 15, ground := Ground.phase }, { on := 16, ground := Ground.phase }], guard := none }) rfl (fun K hK => ?_) AllReadyH.nil
        go_simp
        refine hK.out _ _ ?_ (fun hHeld => ?_)
        · exact ⟨by rw [Tk.cell_other (Ne.symm hTx)]; exact q0, by rw [Tk.cell_other (Ne.symm hTx)]; exact q1, by rw [Tk.cell_other (Ne.symm hTx)]; exact q2, by rw [Tk.cell_other (Ne.symm hTx)]; exact q3⟩
        clear hK K
        (try simp only [Act.put, List.setIfInBounds_toArray, List.set_cons_zero, List.set_cons_succ])
        refine wpAnyH_done (by kernel_rfl) ?_ _
        have hgT : gg ≠ T := by
          rintro rfl
          rcases hat with h | h
          · exact aT h
          · omega
        have mR6 : w6.heap[w.heap.size]? = some (.cells #[.int .i64 0, .int .i64 0, .int .i64 0, .string ⟨#[]⟩, .int .i64 0, .int .i64 0, .slice none 0 0] 26) := (by rw [hgrow.block w.heap.size (by have := lt_of m5; simp; omega) (Ne.symm aR)]; exact heap_old m5 _)
        have mR7 := Tk.h_other (i := 6) mR6 (Ne.symm hTR) (.slice (some ⟨gg, 0, none⟩) (done.length + 1) cap6)
        have mT7 := Tk.h_set (i := 6) mT6 (.slice (some ⟨gg, 0, none⟩) (done.length + 1) cap6)
        have O7 := own_off (b := T) (i := 6) hown1 hgT (.slice (some ⟨gg, 0, none⟩) (done.length + 1) cap6)
        rw [qcells_snoc] at O7
        have hdl : Hid (done.length + 1 = (done ++ [(⟨p0, p1, p2, p3⟩ : Ri)]).length) := by show _ = _; simp
        have K6 : Below w.heap.size w w6 := (K5.alloc hbs _).drew.grown hgrow (by simp; omega) (fun m h => own_ge O5 m h)
        have K7 := K6.setCell (p := ⟨T, 6, none⟩) (by show w.heap.size ≤ T; omega) (.slice (some ⟨gg, 0, none⟩) (done.length + 1) cap6)
        clear hkm hkb hMI hs
        go_wp2
        go_roundw
        case rel => exact ⟨k + 1, n', r2, done ++ [⟨p0, p1, p2, p3⟩], some ⟨gg, 0, none⟩, cap6, rfl, by go_num, by omega, (by show (done ++ [(⟨p0, p1, p2, p3⟩ : Ri)]).length = k + 1; rw [List.length_append, HDK.out]; rfl), hr2, HG2, HE, mR7, by rw [← hdl.out]; exact mT7, by rw [← hdl.out]; exact O7, K7⟩
        case measure => simp [intOf]; omega
      · obtain rfl : k = MM := by omega
        obtain rfl : n = 0 := by omega
        have hkI : ¬ (k : Int) < (k : Int) := by omega
        rw [show gQ 0 r = [] from rfl, List.append_nil] at HG
        rw [show gE 0 r = r from rfl] at HE
        have a0 : wr.cell? ⟨w.heap.size, 0, none⟩ = some (.int .i64 0) := cell_at m4 0
        have a1 : wr.cell? ⟨w.heap.size, 1, none⟩ = some (.int .i64 0) := cell_at m4 1
        have a2 : wr.cell? ⟨w.heap.size, 2, none⟩ = some (.int .i64 0) := cell_at m4 2
        have a3 : wr.cell? ⟨w.heap.size, 3, none⟩ = some (.string ⟨#[]⟩) := cell_at m4 3
        have a4 : wr.cell? ⟨w.heap.size, 4, none⟩ = some (.int .i64 0) := cell_at m4 4
        have a5 : wr.cell? ⟨w.heap.size, 5, none⟩ = some (.int .i64 0) := cell_at m4 5
        have a6 : wr.cell? ⟨w.heap.size, 6, none⟩ = some (.slice none 0 0) := cell_at m4 6
        have f0 : wr.frozen? ⟨w.heap.size, 0, none⟩ = false := frozen_at m4 0
        have f1 : wr.frozen? ⟨w.heap.size, 1, none⟩ = false := frozen_at m4 1
        have f2 : wr.frozen? ⟨w.heap.size, 2, none⟩ = false := frozen_at m4 2
        have f3 : wr.frozen? ⟨w.heap.size, 3, none⟩ = false := frozen_at m4 3
        have f4 : wr.frozen? ⟨w.heap.size, 4, none⟩ = false := frozen_at m4 4
        have f5 : wr.frozen? ⟨w.heap.size, 5, none⟩ = false := frozen_at m4 5
        have f6 : wr.frozen? ⟨w.heap.size, 6, none⟩ = false := frozen_at m4 6
        have b0 : wr.cell? ⟨T, 0, none⟩ = some (.int .i64 (n0 : Int)) := cell_at mT4 0
        have b1 : wr.cell? ⟨T, 1, none⟩ = some (.int .i64 (n1 : Int)) := cell_at mT4 1
        have b2 : wr.cell? ⟨T, 2, none⟩ = some (.int .i64 (n2 : Int)) := cell_at mT4 2
        have b3 : wr.cell? ⟨T, 3, none⟩ = some (.string ⟨#[]⟩) := cell_at mT4 3
        have b4 : wr.cell? ⟨T, 4, none⟩ = some (.int .i64 (n3 : Int)) := cell_at mT4 4
        have b5 : wr.cell? ⟨T, 5, none⟩ = some (.int .i64 (n4 : Int)) := cell_at mT4 5
        have b6 : wr.cell? ⟨T, 6, none⟩ = some (.slice la done.length lc) := cell_at mT4 6
        have fT : wr.frozen? ⟨T, 3, none⟩ = false := frozen_at mT4 3
        obtain rfl : GR = done := HG
        obtain rfl : GN = r := HE
        have OE : Hid (wr.ownsRow w.heap.size 43 4 (.slice la GR.length lc) GR.length (qcells GR)) := O4
        have aR : (Value.slice la GR.length lc).ownBlock ≠ some w.heap.size := Pk.own_ne' O4 m4 (by decide)
        have aT : (Value.slice la GR.length lc).ownBlock ≠ some T := Pk.own_ne' O4 mT4 (by decide)
        have hRT : ¬ w.heap.size = T := fun h => hTR h.symm
        have hTR2 : ¬ T = w.heap.size := hTR
        go_wp2
        refine bodyPost_ret (v := wnV ⟨(n0 : Int), (n1 : Int), (n2 : Int), (n3 : Int), (n4 : Int)⟩ GN la GR.length lc) (by simp [results, Tryd.results21, go_sem, hTR2, hRT, a0, a1, a2, a3, a4, a5, a6]) rfl ?_
        refine ⟨⟨la, lc, by rw [HGH.out], ?_⟩, ?_⟩
        · exact own_offv (own_offv (own_offv (own_offv (own_offv (own_offv (own_offv (own_offv OE.out aT _) aR _) aR _) aR _) aR _) aR _) aR _) aR _
        · (repeat' (first | apply Below.setCell | exact K4.out)) <;> first | (simp; done) | (simp; omega)

end Wn
end Go.Proofs.YtaplbjoghkipdaaDoor

/- The program's ReadWant. -/
namespace Go.Proofs.YtaplbjoghkipdaaDoor
namespace Wn
open Go.ChangeShapes Go.WideShapes Go.ChangeAt Go.RowKit
open Pk (own_at own_ge own_below own_form info_of new_below join_below heap_new lt_of kept cell_at heap_old frozen_at)
open Rd (Ri Rides)
open Gt (ML own_base)
set_option linter.unusedSimpArgs false
set_option linter.unusedVariables false

theorem clone_val (s : ByteArray) (w : World) (hs : s.size ≤ 1048576) :
    Calls Tryd.prog 22 #[.string s] w fun e w' => e = .returned (.string s) ∧ Below w.heap.size w w' := by
  have HC : Hid (∀ W, _) := fun W => Tryd.stringslite_Clone s W (by omega)
  go_enter Tryd.func22, Tryd.ntmps22
  go_wp2_with fail
  refine (HC.out _).mono ?_
  rintro e w1 ⟨rfl, L1⟩
  go_wp2
  go_ret
  exact ⟨rfl, L1⟩

set_option maxRecDepth 100000 in
set_option maxHeartbeats 4000000 in
theorem implGet_val (s : ByteArray) (w : World) (hs : s.size ≤ 1048576) (M : ML w) (Tn : Num.Tens w) :
    Calls Tryd.prog 8 #[.string s] w fun e w' => GetEnd s w.heap.size e w' ∧ Below w.heap.size w w' := by
  have N0 := new_below w (.cells #[.int .i64 0, .int .i64 0, .int .i64 0, .string ⟨#[]⟩, .int .i64 0, .int .i64 0, .slice none 0 0] 26)
  have m0 := heap_new w (.cells #[.int .i64 0, .int .i64 0, .int .i64 0, .string ⟨#[]⟩, .int .i64 0, .int .i64 0, .slice none 0 0] 26)
  have HGV : Hid (∀ W, ML W → _) := fun W h => guess_val s W hs h
  have HUN : Hid (∀ t nm ls, Good s t nm ls → gwH s = t ∧ gwN s = nm ∧ gwR s = ls) := fun t nm ls h => guess_good h
  have hnz : (gwN s).size ≤ 1048576 := Nat.le_trans (gwN_size s) hs
  have hl7 : (gwR s).length ≤ 7 := by have := gwR_length s; omega
  have HPV : Hid (∀ W (a : Option Addr) (lc : Nat), Rides W a (gwR s) → Num.Tens W → _) := fun W a lc h1 h2 => implWantLine_val (gwH s) (gwN s) a (gwR s) lc W (by unfold maxLen; omega) (by omega) h1 h2
  have HCL : Hid (∀ W, _) := fun W => clone_val (gwN s) W hnz
  generalize gwH s = t at *
  generalize gwN s = nm at *
  generalize gwR s = ls at *
  go_enter Tryd.func8, Tryd.ntmps8
  go_wp2_with fail
  generalize w.alloc (.cells #[.int .i64 0, .int .i64 0, .int .i64 0, .string ⟨#[]⟩, .int .i64 0, .int .i64 0, .slice none 0 0] 26) = w0 at *
  refine (HGV.out _ (M.on N0)).mono ?_
  rintro e w1 ⟨⟨a, lc, rfl, O1⟩, L1⟩
  have m1 := kept L1 (lt_of m0) m0
  have K1 := join_below N0 L1
  have NT := new_below w1 (.cells #[.int .i64 t.kd, .int .i64 t.rq, .int .i64 t.od, .string nm, .int .i64 t.cl, .int .i64 t.cd, .slice a ls.length lc] 26)
  have mT := heap_new w1 (.cells #[.int .i64 t.kd, .int .i64 t.rq, .int .i64 t.od, .string nm, .int .i64 t.cl, .int .i64 t.cd, .slice a ls.length lc] 26)
  have m2 := kept NT (lt_of m1) m1
  have K2 := join_below K1 NT
  have O2 := own_below O1 NT (Nat.le_refl _)
  have O3 := own_base O2 (show w.heap.size ≤ w0.heap.size from N0.size)
  have hTR : w1.heap.size ≠ w.heap.size := by have := lt_of m1; omega
  have hTge : w.heap.size ≤ w1.heap.size := by have := lt_of m1; omega
  obtain ⟨a2, lc2, e2, I2⟩ := own_rides O3
  simp only [Value.slice.injEq, true_and] at e2
  obtain ⟨rfl, rfl⟩ := e2
  clear N0 m0 L1 m1 K1 NT O1 O2 HGV
  unfold wnV at HPV
  have t0 : (w1.alloc (.cells #[.int .i64 t.kd, .int .i64 t.rq, .int .i64 t.od, .string nm, .int .i64 t.cl, .int .i64 t.cd, .slice a ls.length lc] 26)).cell? ⟨w1.heap.size, 0, none⟩ = some (.int .i64 t.kd) := cell_at mT 0
  have t1 : (w1.alloc (.cells #[.int .i64 t.kd, .int .i64 t.rq, .int .i64 t.od, .string nm, .int .i64 t.cl, .int .i64 t.cd, .slice a ls.length lc] 26)).cell? ⟨w1.heap.size, 1, none⟩ = some (.int .i64 t.rq) := cell_at mT 1
  have t2 : (w1.alloc (.cells #[.int .i64 t.kd, .int .i64 t.rq, .int .i64 t.od, .string nm, .int .i64 t.cl, .int .i64 t.cd, .slice a ls.length lc] 26)).cell? ⟨w1.heap.size, 2, none⟩ = some (.int .i64 t.od) := cell_at mT 2
  have t3 : (w1.alloc (.cells #[.int .i64 t.kd, .int .i64 t.rq, .int .i64 t.od, .string nm, .int .i64 t.cl, .int .i64 t.cd, .slice a ls.length lc] 26)).cell? ⟨w1.heap.size, 3, none⟩ = some (.string nm) := cell_at mT 3
  have t4 : (w1.alloc (.cells #[.int .i64 t.kd, .int .i64 t.rq, .int .i64 t.od, .string nm, .int .i64 t.cl, .int .i64 t.cd, .slice a ls.length lc] 26)).cell? ⟨w1.heap.size, 4, none⟩ = some (.int .i64 t.cl) := cell_at mT 4
  have t5 : (w1.alloc (.cells #[.int .i64 t.kd, .int .i64 t.rq, .int .i64 t.od, .string nm, .int .i64 t.cl, .int .i64 t.cd, .slice a ls.length lc] 26)).cell? ⟨w1.heap.size, 5, none⟩ = some (.int .i64 t.cd) := cell_at mT 5
  have t6 : (w1.alloc (.cells #[.int .i64 t.kd, .int .i64 t.rq, .int .i64 t.od, .string nm, .int .i64 t.cl, .int .i64 t.cd, .slice a ls.length lc] 26)).cell? ⟨w1.heap.size, 6, none⟩ = some (.slice a ls.length lc) := cell_at mT 6
  go_wp2_with fail
  generalize w1.alloc (.cells #[.int .i64 t.kd, .int .i64 t.rq, .int .i64 t.od, .string nm, .int .i64 t.cl, .int .i64 t.cd, .slice a ls.length lc] 26) = w2 at *
  generalize w1.heap.size = T at *
  have HPU : Hid (∀ _ : Unit, _) := fun _ => HPV.out w2 a lc I2 (Tn.on K2)
  by_cases hok : wlB t nm ls = true
  · by_cases hpt : dl (wz t ls) ++ nm = s
    · rw [wlS_yes hok, hpt, hok] at HPU
      have hg : Good s t nm ls := ⟨hok, hpt⟩
      have HG : Hid (Good s t nm ls) := hg
      refine (HPU.out ()).mono ?_
      rintro e w3 ⟨rfl, L3⟩
      have m3 := kept L3 (lt_of m2) m2
      have mT3 := kept L3 (lt_of mT) mT
      have O4 := own_below O3 L3 (Nat.le_refl _)
      have K3 := join_below K2 L3
      clear HPU HPV m2 mT O3 I2 K2 L3 hg hok hpt t0 t1 t2 t3 t4 t5 t6
      have n1 : w3.cell? ⟨T, 3, none⟩ = some (.string nm) := cell_at mT3 3
      go_wp2_with fail
      refine (HCL.out _).mono ?_
      rintro e w4 ⟨rfl, L4⟩
      have m4 := kept L4 (lt_of m3) m3
      have mT4 := kept L4 (lt_of mT3) mT3
      have O5 := own_below O4 L4 (Nat.le_refl _)
      have K4 := join_below K3 L4
      have mT5 := Tk.h_set (i := 3) mT4 (.string nm)
      have m5 := Tk.h_other (i := 3) m4 (Ne.symm hTR) (.string nm)
      have f1 : w4.frozen? ⟨T, 3, none⟩ = false := frozen_at mT4 3
      have n2 : w4.cell? ⟨T, 3, none⟩ = some (.string nm) := cell_at mT4 3
      have aT : (Value.slice a ls.length lc).ownBlock ≠ some T := Pk.own_ne' O5 mT4 (by decide)
      have aR : (Value.slice a ls.length lc).ownBlock ≠ some w.heap.size := Pk.own_ne' O5 m4 (by decide)
      have O6 : (w4.setCell ⟨T, 3, none⟩ (.string nm)).ownsRow w.heap.size 43 4 (.slice a ls.length lc) ls.length (qcells ls) := own_offv O5 aT _
      have K5 := K4.setCell (p := ⟨T, 3, none⟩) (by show w.heap.size ≤ T; exact hTge) (.string nm)
      clear m3 mT3 O4 K3 L4 HCL n1
      have b0 : (w4.setCell ⟨T, 3, none⟩ (.string nm)).cell? ⟨T, 0, none⟩ = some (.int .i64 t.kd) := cell_at mT5 0
      have b1 : (w4.setCell ⟨T, 3, none⟩ (.string nm)).cell? ⟨T, 1, none⟩ = some (.int .i64 t.rq) := cell_at mT5 1
      have b2 : (w4.setCell ⟨T, 3, none⟩ (.string nm)).cell? ⟨T, 2, none⟩ = some (.int .i64 t.od) := cell_at mT5 2
      have b3 : (w4.setCell ⟨T, 3, none⟩ (.string nm)).cell? ⟨T, 3, none⟩ = some (.string nm) := cell_at mT5 3
      have b4 : (w4.setCell ⟨T, 3, none⟩ (.string nm)).cell? ⟨T, 4, none⟩ = some (.int .i64 t.cl) := cell_at mT5 4
      have b5 : (w4.setCell ⟨T, 3, none⟩ (.string nm)).cell? ⟨T, 5, none⟩ = some (.int .i64 t.cd) := cell_at mT5 5
      have b6 : (w4.setCell ⟨T, 3, none⟩ (.string nm)).cell? ⟨T, 6, none⟩ = some (.slice a ls.length lc) := cell_at mT5 6
      have a0 : (w4.setCell ⟨T, 3, none⟩ (.string nm)).cell? ⟨w.heap.size, 0, none⟩ = some (.int .i64 0) := cell_at m5 0
      have a1 : (w4.setCell ⟨T, 3, none⟩ (.string nm)).cell? ⟨w.heap.size, 1, none⟩ = some (.int .i64 0) := cell_at m5 1
      have a2 : (w4.setCell ⟨T, 3, none⟩ (.string nm)).cell? ⟨w.heap.size, 2, none⟩ = some (.int .i64 0) := cell_at m5 2
      have a3 : (w4.setCell ⟨T, 3, none⟩ (.string nm)).cell? ⟨w.heap.size, 3, none⟩ = some (.string ⟨#[]⟩) := cell_at m5 3
      have a4 : (w4.setCell ⟨T, 3, none⟩ (.string nm)).cell? ⟨w.heap.size, 4, none⟩ = some (.int .i64 0) := cell_at m5 4
      have a5 : (w4.setCell ⟨T, 3, none⟩ (.string nm)).cell? ⟨w.heap.size, 5, none⟩ = some (.int .i64 0) := cell_at m5 5
      have a6 : (w4.setCell ⟨T, 3, none⟩ (.string nm)).cell? ⟨w.heap.size, 6, none⟩ = some (.slice none 0 0) := cell_at m5 6
      have r0 : (w4.setCell ⟨T, 3, none⟩ (.string nm)).frozen? ⟨w.heap.size, 0, none⟩ = false := frozen_at m5 0
      have r1 : (w4.setCell ⟨T, 3, none⟩ (.string nm)).frozen? ⟨w.heap.size, 1, none⟩ = false := frozen_at m5 1
      have r2 : (w4.setCell ⟨T, 3, none⟩ (.string nm)).frozen? ⟨w.heap.size, 2, none⟩ = false := frozen_at m5 2
      have r3 : (w4.setCell ⟨T, 3, none⟩ (.string nm)).frozen? ⟨w.heap.size, 3, none⟩ = false := frozen_at m5 3
      have r4 : (w4.setCell ⟨T, 3, none⟩ (.string nm)).frozen? ⟨w.heap.size, 4, none⟩ = false := frozen_at m5 4
      have r5 : (w4.setCell ⟨T, 3, none⟩ (.string nm)).frozen? ⟨w.heap.size, 5, none⟩ = false := frozen_at m5 5
      have r6 : (w4.setCell ⟨T, 3, none⟩ (.string nm)).frozen? ⟨w.heap.size, 6, none⟩ = false := frozen_at m5 6
      go_wp2
      refine bodyPost_ret (v := .tuple #[wnV t nm a ls.length lc, .bool true]) (by simp [results, Tryd.results8, go_sem, a0, a1, a2, a3, a4, a5, a6]) rfl ?_
      refine ⟨Or.inl ⟨t, nm, ls, a, lc, HG.out, rfl, ?_⟩, ?_⟩
      · exact own_offv (own_offv (own_offv (own_offv (own_offv (own_offv (own_offv O6 aR _) aR _) aR _) aR _) aR _) aR _) aR _
      · (repeat' (first | apply Below.setCell | exact K4)) <;> first | (simp; done) | (simp; omega)
    · rw [wlS_yes hok, hok] at HPU
      have HNG : Hid (∀ t2 nm2 ls2, ¬ Good s t2 nm2 ls2) := fun t2 nm2 ls2 h => by obtain ⟨rfl, rfl, rfl⟩ := HUN.out t2 nm2 ls2 h; exact hpt h.2
      generalize dl (wz t ls) ++ nm = pt at *
      have z1 : ¬ pt.toList = s.toList := fun e => hpt (Go.WideShapes.bytes_inj (by rw [← ByteArray.toList_eq, ← ByteArray.toList_eq]; exact e))
      have z2 : (pt.toList == s.toList) = false := beq_eq_false_iff_ne.2 z1
      refine (HPU.out ()).mono ?_
      rintro e w3 ⟨rfl, L3⟩
      have m3 := kept L3 (lt_of m2) m2
      have K3 := join_below K2 L3
      have a0 : w3.cell? ⟨w.heap.size, 0, none⟩ = some (.int .i64 0) := cell_at m3 0
      have a1 : w3.cell? ⟨w.heap.size, 1, none⟩ = some (.int .i64 0) := cell_at m3 1
      have a2 : w3.cell? ⟨w.heap.size, 2, none⟩ = some (.int .i64 0) := cell_at m3 2
      have a3 : w3.cell? ⟨w.heap.size, 3, none⟩ = some (.string ⟨#[]⟩) := cell_at m3 3
      have a4 : w3.cell? ⟨w.heap.size, 4, none⟩ = some (.int .i64 0) := cell_at m3 4
      have a5 : w3.cell? ⟨w.heap.size, 5, none⟩ = some (.int .i64 0) := cell_at m3 5
      have a6 : w3.cell? ⟨w.heap.size, 6, none⟩ = some (.slice none 0 0) := cell_at m3 6
      have r0 : w3.frozen? ⟨w.heap.size, 0, none⟩ = false := frozen_at m3 0
      have r1 : w3.frozen? ⟨w.heap.size, 1, none⟩ = false := frozen_at m3 1
      have r2 : w3.frozen? ⟨w.heap.size, 2, none⟩ = false := frozen_at m3 2
      have r3 : w3.frozen? ⟨w.heap.size, 3, none⟩ = false := frozen_at m3 3
      have r4 : w3.frozen? ⟨w.heap.size, 4, none⟩ = false := frozen_at m3 4
      have r5 : w3.frozen? ⟨w.heap.size, 5, none⟩ = false := frozen_at m3 5
      have r6 : w3.frozen? ⟨w.heap.size, 6, none⟩ = false := frozen_at m3 6
      go_wp2
      refine bodyPost_ret (v := .tuple #[wnV ⟨0, 0, 0, 0, 0⟩ ⟨#[]⟩ none 0 0, .bool false]) (by simp [results, Tryd.results8, go_sem, a0, a1, a2, a3, a4, a5, a6]) rfl ?_
      refine ⟨Or.inr ⟨HNG.out, rfl⟩, ?_⟩
      (repeat' (first | apply Below.setCell | exact K3)) <;> first | (simp; done) | (simp; omega)
  · have hok8 : wlB t nm ls = false := Bool.eq_false_iff.2 hok
    rw [wlS_no hok8, hok8] at HPU
    have HNG : Hid (∀ t2 nm2 ls2, ¬ Good s t2 nm2 ls2) := fun t2 nm2 ls2 h => by obtain ⟨rfl, rfl, rfl⟩ := HUN.out t2 nm2 ls2 h; exact hok h.1
    refine (HPU.out ()).mono ?_
    rintro e w3 ⟨rfl, L3⟩
    have m3 := kept L3 (lt_of m2) m2
    have K3 := join_below K2 L3
    have a0 : w3.cell? ⟨w.heap.size, 0, none⟩ = some (.int .i64 0) := cell_at m3 0
    have a1 : w3.cell? ⟨w.heap.size, 1, none⟩ = some (.int .i64 0) := cell_at m3 1
    have a2 : w3.cell? ⟨w.heap.size, 2, none⟩ = some (.int .i64 0) := cell_at m3 2
    have a3 : w3.cell? ⟨w.heap.size, 3, none⟩ = some (.string ⟨#[]⟩) := cell_at m3 3
    have a4 : w3.cell? ⟨w.heap.size, 4, none⟩ = some (.int .i64 0) := cell_at m3 4
    have a5 : w3.cell? ⟨w.heap.size, 5, none⟩ = some (.int .i64 0) := cell_at m3 5
    have a6 : w3.cell? ⟨w.heap.size, 6, none⟩ = some (.slice none 0 0) := cell_at m3 6
    have r0 : w3.frozen? ⟨w.heap.size, 0, none⟩ = false := frozen_at m3 0
    have r1 : w3.frozen? ⟨w.heap.size, 1, none⟩ = false := frozen_at m3 1
    have r2 : w3.frozen? ⟨w.heap.size, 2, none⟩ = false := frozen_at m3 2
    have r3 : w3.frozen? ⟨w.heap.size, 3, none⟩ = false := frozen_at m3 3
    have r4 : w3.frozen? ⟨w.heap.size, 4, none⟩ = false := frozen_at m3 4
    have r5 : w3.frozen? ⟨w.heap.size, 5, none⟩ = false := frozen_at m3 5
    have r6 : w3.frozen? ⟨w.heap.size, 6, none⟩ = false := frozen_at m3 6
    go_wp2
    refine bodyPost_ret (v := .tuple #[wnV ⟨0, 0, 0, 0, 0⟩ ⟨#[]⟩ none 0 0, .bool false]) (by simp [results, Tryd.results8, go_sem, a0, a1, a2, a3, a4, a5, a6]) rfl ?_
    refine ⟨Or.inr ⟨HNG.out, rfl⟩, ?_⟩
    (repeat' (first | apply Below.setCell | exact K3)) <;> first | (simp; done) | (simp; omega)

end Wn
end Go.Proofs.YtaplbjoghkipdaaDoor

/- The words of a want's line, read one behind the other: the mathematics. -/
namespace Go.Proofs.YtaplbjoghkipdaaDoor
namespace Wn
open Go.ChangeShapes Go.WideShapes Go.ChangeAt Go.RowKit
open Tk (Nums)
open Num (decS)
open Gt (bl bl_ext bl_append bl_length bl_extract dec_bl dec_no dec_read dec_val' Rd vl rv rv_yes split split_list splG splG_run)
set_option linter.unusedSimpArgs false
set_option linter.unusedVariables false

theorem splG_ne (c : UInt8) : ∀ (l cur : List UInt8), splG c l cur ≠ []
  | [], cur => by simp [splG]
  | x :: l, cur => by
    unfold splG
    split
    · simp
    · exact splG_ne c l _

theorem splG_sum (c : UInt8) : ∀ (l cur : List UInt8), ((splG c l cur).map fun x => x.length + 1).sum = l.length + cur.length + 1
  | [], cur => by simp [splG]
  | x :: l, cur => by
    unfold splG
    split
    · rw [List.map_cons, List.sum_cons, splG_sum c l []]
      simp
      omega
    · rw [splG_sum c l _]
      simp
      omega

theorem splG_flat (zs : List Int) (t : List UInt8) (hz : Nums zs) : splG 32 (flat zs ++ t) [] = (zs.map fun z => bl (decS z)) ++ splG 32 t [] := by
  induction zs with
  | nil => rfl
  | cons z zs ih =>
    have h0 := hz z List.mem_cons_self
    rw [flat_cons, List.append_assoc, List.cons_append, splG_run 32 _ _ [] (dec_blank h0.1), List.nil_append, ih (fun y hy => hz y (List.mem_cons_of_mem _ hy))]
    rfl

/-- Where the words ahead of word k end. -/
def atN (ws : List ByteArray) (k : Nat) : Nat := ((ws.take k).map fun x => x.size + 1).sum

theorem atN_step (ws : List ByteArray) (k : Nat) (h : k < ws.length) : atN ws (k + 1) = atN ws k + ws[k].size + 1 := by
  unfold atN
  rw [List.take_succ_eq_append_getElem h, List.map_append, List.sum_append]
  simp
  omega

theorem atN_all (s : ByteArray) : atN (split 32 s) (split 32 s).length = s.size + 1 := by
  unfold atN
  rw [List.take_length]
  have h := splG_sum 32 (bl s) []
  rw [← split_list, List.map_map, bl_length] at h
  have e : (fun x : ByteArray => x.size + 1) = (fun x : List UInt8 => x.length + 1) ∘ bl := by
    funext x
    show _ = (bl x).length + 1
    rw [bl_length]
  rw [e, h]
  simp

theorem atN_mono (ws : List ByteArray) : ∀ d k, k + d ≤ ws.length → atN ws k ≤ atN ws (k + d)
  | 0, k, _ => Nat.le_refl _
  | d + 1, k, h => by
    have := atN_mono ws d k (by omega)
    rw [show k + (d + 1) = k + d + 1 from by omega, atN_step ws (k + d) (by omega)]
    omega

theorem atN_le (s : ByteArray) (k : Nat) (h : k + 1 ≤ (split 32 s).length) : atN (split 32 s) k ≤ s.size := by
  have h1 := atN_step (split 32 s) k (by omega)
  have h2 := atN_mono (split 32 s) ((split 32 s).length - (k + 1)) (k + 1) (by omega)
  rw [show k + 1 + ((split 32 s).length - (k + 1)) = (split 32 s).length from by omega, atN_all] at h2
  omega

/-- Word i. -/
abbrev wd (ws : List ByteArray) (i : Nat) : ByteArray := ws.getD i ⟨#[]⟩

theorem wd_at (ws : List ByteArray) (i : Nat) (h : i < ws.length) : wd ws i = ws[i] := by
  unfold wd
  rw [List.getD_eq_getElem?_getD, List.getElem?_eq_getElem h]
  rfl

/-- Where the reading of words ends. -/
structure Stop (ws : List ByteArray) (k : Nat) : Prop where
  k30 : k ≤ 30
  kw : k + 1 ≤ ws.length
  rd : ∀ i, i < k → Rd (wd ws i)
  six : ∀ i, 6 ≤ i → i < k → i < 6 + 4 * vl (wd ws 5)
  stop : k + 1 = ws.length ∨ k = 30 ∨ ¬ Rd (wd ws k) ∨ (6 ≤ k ∧ 6 + 4 * vl (wd ws 5) ≤ k)

theorem words_of {s : ByteArray} {zs : List Int} {t : List UInt8} (hz : Nums zs) (hs : bl s = flat zs ++ t) : zs.length + 1 ≤ (split 32 s).length ∧ ∀ i (h : i < zs.length), wd (split 32 s) i = decS zs[i] := by
  have h := split_list 32 s
  rw [hs, splG_flat zs t hz] at h
  have hl : (split 32 s).length = zs.length + (splG 32 t []).length := by
    have := congrArg List.length h
    simpa using this
  have hne : 0 < (splG 32 t []).length := List.length_pos_iff.2 (splG_ne 32 t [])
  refine ⟨by omega, fun i hi => ?_⟩
  rw [wd_at _ i (by omega)]
  apply bl_ext
  have h2 : ((split 32 s).map bl)[i]? = ((zs.map fun z => bl (decS z)) ++ splG 32 t [])[i]? := by rw [h]
  rw [List.getElem?_map, List.getElem?_eq_getElem (by omega), List.getElem?_append_left (by simpa using hi), List.getElem?_map, List.getElem?_eq_getElem hi] at h2
  simpa using h2

/-- What the words tell. -/
def hW (ws : List ByteArray) : Wh := ⟨(vl (wd ws 0) : Nat), (vl (wd ws 1) : Nat), (vl (wd ws 2) : Nat), (vl (wd ws 3) : Nat), (vl (wd ws 4) : Nat)⟩
def rW (ws : List ByteArray) (j : Nat) : Rd.Ri := ⟨(vl (wd ws (6 + 4 * j)) : Nat), (vl (wd ws (6 + 4 * j + 1)) : Nat), (vl (wd ws (6 + 4 * j + 2)) : Nat), (vl (wd ws (6 + 4 * j + 3)) : Nat)⟩
def rsW (ws : List ByteArray) (n : Nat) : List Rd.Ri := (List.range n).map (rW ws)
def nmW (s : ByteArray) (k : Nat) : ByteArray := s.extract (atN (split 32 s) k) s.size

theorem rsW_length (ws : List ByteArray) (n : Nat) : (rsW ws n).length = n := by simp [rsW]
theorem rsW_at (ws : List ByteArray) (n j : Nat) (h : j < (rsW ws n).length) : (rsW ws n)[j] = rW ws j := by simp [rsW]
theorem rsW_step (ws : List ByteArray) (n : Nat) : rsW ws (n + 1) = rsW ws n ++ [rW ws n] := by
  unfold rsW
  rw [List.range_succ, List.map_append]
  rfl

theorem flat_rz (rs : List Rd.Ri) (j : Nat) (h : j < rs.length) : (rs.flatMap rz)[4 * j]? = some rs[j].tr ∧ (rs.flatMap rz)[4 * j + 1]? = some rs[j].dy ∧ (rs.flatMap rz)[4 * j + 2]? = some rs[j].fr ∧ (rs.flatMap rz)[4 * j + 3]? = some rs[j].to := by
  induction rs generalizing j with
  | nil => simp at h
  | cons q rs ih =>
    have e0 : (q :: rs).flatMap rz = q.tr :: q.dy :: q.fr :: q.to :: rs.flatMap rz := rfl
    rw [e0]
    cases j with
    | zero => exact ⟨rfl, rfl, rfl, rfl⟩
    | succ j =>
      have := ih j (by simpa using h)
      rw [show 4 * (j + 1) = 4 * j + 4 from by omega]
      simpa using this

theorem stop_good {s : ByteArray} {k : Nat} {t : Wh} {nm : ByteArray} {ls : List Rd.Ri} (St : Stop (split 32 s) k) (G : Good s t nm ls) : k = 6 + 4 * ls.length ∧ vl (wd (split 32 s) 5) = ls.length ∧ hW (split 32 s) = t ∧ nmW s k = nm ∧ rsW (split 32 s) ls.length = ls := by
  obtain ⟨hn, hl, -⟩ := wl_parts G.1
  have hs : bl s = flat (wz t ls) ++ bl nm := by rw [← G.2, bl_append, dl_bl]
  have hlen := wz_length t ls
  obtain ⟨w1, w2⟩ := words_of hn hs
  have hv : ∀ i (h : i < (wz t ls).length), Rd (wd (split 32 s) i) ∧ (vl (wd (split 32 s) i) : Int) = (wz t ls)[i] := fun i h => by
    rw [w2 i h]
    exact dec_rd (hn _ (List.getElem_mem h))
  have h5 : vl (wd (split 32 s) 5) = ls.length := by
    have e := (hv 5 (by omega)).2
    have e2 : (wz t ls)[5] = (ls.length : Int) := rfl
    rw [e2] at e
    omega
  have hk : k = 6 + 4 * ls.length := by
    have h30 := St.k30
    apply Nat.le_antisymm
    · apply Nat.le_of_not_lt
      intro hlt
      have := St.six (6 + 4 * ls.length) (by omega) hlt
      rw [h5] at this
      omega
    · apply Nat.le_of_not_lt
      intro hlt
      rcases St.stop with e | e | e | e
      · omega
      · omega
      · exact e (hv k (by omega)).1
      · rw [h5] at e
        omega
  refine ⟨hk, h5, ?_, ?_, ?_⟩
  · unfold hW
    rw [(hv 0 (by omega)).2, (hv 1 (by omega)).2, (hv 2 (by omega)).2, (hv 3 (by omega)).2, (hv 4 (by omega)).2]
    rfl
  · have hat : ∀ m, m ≤ (wz t ls).length → atN (split 32 s) m = (flat ((wz t ls).take m)).length := by
      intro m
      induction m with
      | zero => intro _; rfl
      | succ m ih =>
        intro hm
        rw [atN_step _ m (by omega), ih (by omega), ← wd_at _ m (by omega), w2 m (by omega), List.take_succ_eq_append_getElem (by omega)]
        unfold flat
        rw [List.flatMap_append, List.length_append]
        simp
        omega
    have e := hat k (by omega)
    rw [show k = (wz t ls).length from by omega, List.take_length] at e
    apply bl_ext
    unfold nmW
    rw [bl_extract, show k = (wz t ls).length from by omega, e, hs, List.take_of_length_le (by rw [← hs, bl_length]; exact Nat.le_refl _), List.drop_left]
  · apply List.ext_getElem
    · rw [rsW_length]
    · intro j h1 h2
      rw [rsW_at]
      obtain ⟨f0, f1, f2, f3⟩ := flat_rz ls j h2
      have hw : ∀ m, (wz t ls)[6 + m]? = (ls.flatMap rz)[m]? := fun m => by
        unfold wz
        rw [List.getElem?_append_right (by simp)]
        congr 1
        simp
      have g0 := (hv (6 + 4 * j) (by omega)).2
      have g1 := (hv (6 + 4 * j + 1) (by omega)).2
      have g2 := (hv (6 + 4 * j + 2) (by omega)).2
      have g3 := (hv (6 + 4 * j + 3) (by omega)).2
      have e0 := hw (4 * j)
      have e1 := hw (4 * j + 1)
      have e2 := hw (4 * j + 2)
      have e3 := hw (4 * j + 3)
      rw [f0, List.getElem?_eq_getElem (by omega)] at e0
      rw [f1, List.getElem?_eq_getElem (by omega)] at e1
      rw [f2, List.getElem?_eq_getElem (by omega)] at e2
      rw [f3, List.getElem?_eq_getElem (by omega)] at e3
      unfold rW
      rw [g0, g1, g2, g3]
      have k0 := Option.some.inj e0
      have k1 := Option.some.inj e1
      have k2 := Option.some.inj e2
      have k3 := Option.some.inj e3
      show (⟨(wz t ls)[6 + 4 * j], (wz t ls)[6 + (4 * j + 1)], (wz t ls)[6 + (4 * j + 2)], (wz t ls)[6 + (4 * j + 3)]⟩ : Rd.Ri) = ls[j]
      rw [k0, k1, k2, k3]

theorem few_no {s : ByteArray} (h : (split 32 s).length < 7) (t : Wh) (nm : ByteArray) (ls : List Rd.Ri) : ¬ Good s t nm ls := fun G => by
  obtain ⟨hn, hl, -⟩ := wl_parts G.1
  have hs : bl s = flat (wz t ls) ++ bl nm := by rw [← G.2, bl_append, dl_bl]
  have hlen := wz_length t ls
  have := (words_of hn hs).1
  omega

end Wn
end Go.Proofs.YtaplbjoghkipdaaDoor

/- Rows of texts that are the same. -/
namespace Go.Proofs.YtaplbjoghkipdaaDoor
namespace Gt
open Go.ChangeShapes Go.WideShapes Go.ChangeAt Go.RowKit
open Pk (own_at own_ge own_below own_form new_below join_below lt_of cell_at)
set_option linter.unusedSimpArgs false
set_option linter.unusedVariables false

/-- A slice of texts. -/
def Txts (w : World) (v : Value) (l : List ByteArray) : Prop := ∃ a cap, v = .slice a l.length cap ∧ (l.length = 0 ∨ ∃ g, a = some ⟨g, 0, none⟩ ∧ g < w.heap.size ∧ ∀ i (h : i < l.length), w.cell? ⟨g, i, none⟩ = some (.string l[i]))

theorem own_txts {w : World} {base : Nat} {v : Value} {l : List ByteArray} (h : w.ownsRow base 9 1 v l.length (tcells l)) : Txts w v l := by
  by_cases h0 : l.length = 0
  · obtain ⟨a, cap, hv, -⟩ := own_form h
    exact ⟨a, cap, hv, Or.inl h0⟩
  · obtain ⟨g, cap, hv⟩ := own_pos h (by omega)
    subst hv
    refine ⟨_, cap, rfl, Or.inr ⟨g, rfl, ?_, fun i hi => ?_⟩⟩
    · obtain ⟨g', cap', e, h1, h2, -⟩ := own_at h 0 (by omega)
      simp only [Value.slice.injEq, Option.some.injEq, Addr.mk.injEq] at e
      rw [e.1.1]
      exact h2
    · obtain ⟨g', cap', e, h1, h2, u, hu, hc⟩ := own_at h i hi
      simp only [Value.slice.injEq, Option.some.injEq, Addr.mk.injEq] at e
      rw [tcells_at l i hi] at hu
      rw [e.1.1, hc, ← Option.some.inj hu]

theorem Txts.on {w w1 : World} {v : Value} {l : List ByteArray} (h : Txts w v l) (L : Below w.heap.size w w1) : Txts w1 v l := by
  obtain ⟨a, cap, hv, h2⟩ := h
  refine ⟨a, cap, hv, ?_⟩
  rcases h2 with h2 | ⟨g, ha, hg, hc⟩
  · exact Or.inl h2
  · exact Or.inr ⟨g, ha, Nat.lt_of_lt_of_le hg L.size, fun i hi => by rw [L.cell (p := ⟨g, i, none⟩) hg]; exact hc i hi⟩

end Gt
end Go.Proofs.YtaplbjoghkipdaaDoor

/- Contracts of the laws' own helpers over orders: marked from any number on, and held against the marks. -/
import Derived.Test.YtehmlnojjfeheaaGreatOfMarkR
import Derived.Test.YtehmlnojjfeheaaGreatOfGen
import Derived.Test.YtehmlnojjfeheaaGreatLgMark
namespace Go.Proofs.YtehmlnojjfeheaaGreat
namespace Of
open Go.ChangeShapes Go.WideShapes Go.ChangeAt Go.RowKit Go.Joins
open Pk (new_below join_below cell_at heap_new frozen_at lt_of kept heap_old info_of Room)
open Tn (Band)
open Od (Oo)
set_option linter.unusedSimpArgs false
set_option linter.unusedVariables false

/-- All old blocks but those from lo to hi are as they were. -/
structure Fb (lo hi : Nat) (w w' : World) : Prop where
  os : w'.os = w.os
  tape : w'.tape = w.tape
  output : w'.output = w.output
  size : w.heap.size ≤ w'.heap.size
  block : ∀ b, b < w.heap.size → b < lo ∨ hi ≤ b → w'.heap[b]? = w.heap[b]?

theorem Fb.refl (lo hi : Nat) (w : World) : Fb lo hi w w := ⟨rfl, rfl, rfl, Nat.le_refl _, fun _ _ _ => rfl⟩

theorem Fb.trans {lo hi : Nat} {a b c : World} (h : Fb lo hi a b) (k : Fb lo hi b c) : Fb lo hi a c :=
  ⟨k.os.trans h.os, k.tape.trans h.tape, k.output.trans h.output, Nat.le_trans h.size k.size, fun i h1 h2 => (k.block i (Nat.lt_of_lt_of_le h1 h.size) h2).trans (h.block i h1 h2)⟩

theorem Fb.wide {lo hi lo' hi' : Nat} {w w' : World} (h : Fb lo hi w w') (h1 : lo' ≤ lo) (h2 : hi ≤ hi') : Fb lo' hi' w w' :=
  ⟨h.os, h.tape, h.output, h.size, fun b hb hc => h.block b hb (by omega)⟩

theorem Fb.of {lo hi : Nat} {w w' : World} (L : Below w.heap.size w w') : Fb lo hi w w' := ⟨L.os, L.tape, L.output, L.size, fun b h _ => L.block b h⟩

theorem Fb.band {lo hi : Nat} {w w' : World} (L : Band lo hi w w') : Fb lo hi w w' := ⟨L.os, L.tape, L.output, by rw [L.size]; exact Nat.le_refl _, fun b _ h => L.block b h⟩

theorem Fb.cell {lo hi : Nat} {w w' : World} (L : Fb lo hi w w') {p : Addr} (h : p.block < w.heap.size) (h2 : p.block < lo ∨ hi ≤ p.block) : w'.cell? p = w.cell? p := World.cell?_of_block (L.block p.block h h2)

theorem Fb.frozen {lo hi : Nat} {w w' : World} (L : Fb lo hi w w') {p : Addr} (h : p.block < w.heap.size) (h2 : p.block < lo ∨ hi ≤ p.block) : w'.frozen? p = w.frozen? p := World.frozen?_of_block (L.block p.block h h2)

theorem Fb.set {lo hi : Nat} {a w : World} (h : Fb lo hi a w) {g : Nat} (h1 : lo ≤ g) (h2 : g < hi) (i : Nat) (u : Value) : Fb lo hi a (w.setCell ⟨g, i, none⟩ u) := by
  have L := (Below.refl 0 w).setCell (p := ⟨g, i, none⟩) (Nat.zero_le _) u
  refine ⟨L.os.trans h.os, L.tape.trans h.tape, L.output.trans h.output, by rw [World.size_setCell]; exact h.size, fun b hb hc => ?_⟩
  rw [Below.heap_setCell w ⟨g, i, none⟩ u b (by show b ≠ g; omega)]
  exact h.block b hb hc

theorem Fb.below {lo hi B : Nat} {a w w' : World} (L : Below B a w) (h : Fb lo hi w w') (h1 : B ≤ lo) (h2 : B ≤ w.heap.size) : Below B a w' :=
  ⟨h.os.trans L.os, h.tape.trans L.tape, h.output.trans L.output, Nat.le_trans L.size h.size, fun k hk => (h.block k (by omega) (Or.inl (by omega))).trans (L.block k hk)⟩

theorem Fb.kept {lo hi b : Nat} {w w' : World} (h : Fb lo hi w w') {x : Obj} (hx : w.heap[b]? = some x) (hb : b < lo ∨ hi ≤ b) : w'.heap[b]? = some x := by
  rw [h.block b (lt_of hx) hb]
  exact hx

/-- A text of a mark, from any number. -/
theorem markText_z (z : Int) (w : World) (h1 : 1 ≤ z) (h2 : z ≤ 1152921504606846976) :
    Calls Tryz.prog 64 #[.int .i64 z] w fun e w' => e = .returned (.string (Gt.mkT z.toNat)) ∧ Below w.heap.size w w' := by
  have h := Gt.markText_val z.toNat w (by omega) (by omega)
  rwa [show ((z.toNat : Nat) : Int) = z from by omega] at h

/-- The mark that order k begins with. -/
def offO (z0 : Int) (ts : List Oo) : Nat → Int
  | 0 => z0
  | k + 1 => offO z0 ts k + 8 + 4 * (((ts[k]?).map (fun t => t.l.length)).getD 0 : Nat)

theorem offO_step (z0 : Int) (ts : List Oo) (k : Nat) (h : k < ts.length) : offO z0 ts (k + 1) = offO z0 ts k + 8 + 4 * (ts[k].l.length : Int) := by
  show offO z0 ts k + 8 + 4 * ((((ts[k]?).map (fun t => t.l.length)).getD 0 : Nat) : Int) = _
  rw [List.getElem?_eq_getElem h]
  rfl

theorem offO_bd (z0 : Int) (ts : List Oo) (hs : ∀ i (h : i < ts.length), ts[i].l.length ≤ 1048576) (k : Nat) (hk : k ≤ ts.length) : z0 ≤ offO z0 ts k ∧ offO z0 ts k ≤ z0 + 4194312 * (k : Int) := by
  induction k with
  | zero => exact ⟨by show z0 ≤ z0; omega, by show z0 ≤ _; omega⟩
  | succ k ih =>
    have := ih (by omega)
    have := hs k (by omega)
    rw [offO_step z0 ts k (by omega)]
    omega

/-- A list of orders that may be marked. -/
structure McO (w : World) (lo hi g : Nat) (gf : Nat → Nat) (ts : List Oo) : Prop where
  room : Room w g (ts.length * 9)
  each : ∀ i (h : i < ts.length), ∃ a c, w.cell? ⟨g, i * 9 + 5, none⟩ = some (.slice a ts[i].l.length c) ∧ (ts[i].l.length = 0 ∨ (a = some ⟨gf i, 0, none⟩ ∧ lo ≤ gf i ∧ gf i < hi ∧ gf i ≠ g ∧ Room w (gf i) (ts[i].l.length * 4)))

/-- Their rides lie apart. -/
def ApO (gf : Nat → Nat) (ts : List Oo) : Prop := ∀ i j (hi : i < ts.length) (hj : j < ts.length), i ≠ j → ts[i].l.length ≠ 0 → ts[j].l.length ≠ 0 → gf i ≠ gf j

theorem McO.set {w : World} {lo hi g : Nat} {gf : Nat → Nat} {ts : List Oo} (h : McO w lo hi g gf ts) (k r : Nat) (hr : r < 9) (hr5 : r ≠ 5) (u : Value) : McO (w.setCell ⟨g, k * 9 + r, none⟩ u) lo hi g gf ts := by
  refine ⟨h.room.set g _ u, fun i hi => ?_⟩
  obtain ⟨a, c, h1, h2⟩ := h.each i hi
  exact ⟨a, c, by rw [Od.set_cell h1, if_neg (by omega)], h2.imp_right fun ⟨q1, q2, q3, q4, q5⟩ => ⟨q1, q2, q3, q4, q5.set g _ u⟩⟩

theorem McO.same {w w1 : World} {lo hi g : Nat} {gf : Nat → Nat} {ts : List Oo} (h : McO w lo hi g gf ts) (hg : lo ≤ g ∧ g < hi) (hc : ∀ b i, lo ≤ b → b < hi → w1.cell? ⟨b, i, none⟩ = w.cell? ⟨b, i, none⟩ ∧ w1.frozen? ⟨b, i, none⟩ = w.frozen? ⟨b, i, none⟩) : McO w1 lo hi g gf ts := by
  refine ⟨fun j hj => ?_, fun i hi => ?_⟩
  · rw [(hc g j hg.1 hg.2).1, (hc g j hg.1 hg.2).2]
    exact h.room j hj
  · obtain ⟨a, c, h1, h2⟩ := h.each i hi
    refine ⟨a, c, by rw [(hc g _ hg.1 hg.2).1]; exact h1, h2.imp_right fun ⟨q1, q2, q3, q4, q5⟩ => ⟨q1, q2, q3, q4, fun j hj => ?_⟩⟩
    rw [(hc (gf i) j q2 q3).1, (hc (gf i) j q2 q3).2]
    exact q5 j hj

theorem McO.on {w w1 : World} {lo hi g : Nat} {gf : Nat → Nat} {ts : List Oo} (h : McO w lo hi g gf ts) (hg : lo ≤ g ∧ g < hi) (L : Below w.heap.size w w1) (hh : hi ≤ w.heap.size) : McO w1 lo hi g gf ts :=
  h.same hg fun b i h1 h2 => ⟨L.cell (p := ⟨b, i, none⟩) (show b < _ by omega), L.frozen (p := ⟨b, i, none⟩) (show b < _ by omega)⟩

theorem McO.band {w w1 : World} {lo hi g k : Nat} {gf : Nat → Nat} {ts : List Oo} (h : McO w lo hi g gf ts) (L : Band k (k + 1) w w1) (hk : k ≠ g) (hR : ∀ m, Room w k m → Room w1 k m) : McO w1 lo hi g gf ts := by
  have hc : ∀ b i, b ≠ k → w1.cell? ⟨b, i, none⟩ = w.cell? ⟨b, i, none⟩ := fun b i hb => World.cell?_of_block (L.block b (by omega))
  have hf : ∀ b i, b ≠ k → w1.frozen? ⟨b, i, none⟩ = w.frozen? ⟨b, i, none⟩ := fun b i hb => World.frozen?_of_block (L.block b (by omega))
  have hm : ∀ b m, Room w b m → Room w1 b m := by
    intro b m h
    by_cases e : b = k
    · subst e; exact hR m h
    · intro j hj
      rw [hc b j e, hf b j e]
      exact h j hj
  refine ⟨hm g _ h.room, fun i hi => ?_⟩
  obtain ⟨a, c, h1, h2⟩ := h.each i hi
  exact ⟨a, c, by rw [hc g _ (fun h => hk h.symm)]; exact h1, h2.imp_right fun ⟨q1, q2, q3, q4, q5⟩ => ⟨q1, q2, q3, q4, hm _ _ q5⟩⟩

/-- One order's marks. -/
structure RowO (w : World) (g : Nat) (i m : Nat) (gi : Nat) (z : Int) : Prop where
  c0 : w.cell? ⟨g, i * 9, none⟩ = some (.int .i64 z)
  c1 : w.cell? ⟨g, i * 9 + 1, none⟩ = some (.int .i64 (z + 1))
  c2 : w.cell? ⟨g, i * 9 + 2, none⟩ = some (.string (Gt.mkT (z + 2).toNat))
  c3 : w.cell? ⟨g, i * 9 + 3, none⟩ = some (.int .i64 (z + 3))
  c4 : w.cell? ⟨g, i * 9 + 4, none⟩ = some (.int .i64 (z + 4))
  c6 : w.cell? ⟨g, i * 9 + 6, none⟩ = some (.int .i64 (z + 5 + 4 * (m : Int)))
  c7 : w.cell? ⟨g, i * 9 + 7, none⟩ = some (.int .i64 (z + 5 + 4 * (m : Int) + 1))
  c8 : w.cell? ⟨g, i * 9 + 8, none⟩ = some (.int .i64 (z + 5 + 4 * (m : Int) + 2))
  md : m = 0 ∨ MarkedD w gi m (z + 5)

/-- The first k orders bear their marks. -/
def MTO (z0 : Int) (w : World) (g : Nat) (gf : Nat → Nat) (ts : List Oo) (k : Nat) : Prop := ∀ i (h : i < ts.length), i < k → RowO w g i ts[i].l.length (gf i) (offO z0 ts i)

theorem RowO.same {w w1 : World} {g i m gi : Nat} {z : Int} (h : RowO w g i m gi z) (hg : ∀ r, r < 9 → w1.cell? ⟨g, i * 9 + r, none⟩ = w.cell? ⟨g, i * 9 + r, none⟩) (hd : m = 0 ∨ ∀ j, w1.cell? ⟨gi, j, none⟩ = w.cell? ⟨gi, j, none⟩) : RowO w1 g i m gi z := by
  refine ⟨by rw [show i * 9 = i * 9 + 0 from rfl, hg 0 (by omega)]; exact h.c0, by rw [hg 1 (by omega)]; exact h.c1, by rw [hg 2 (by omega)]; exact h.c2, by rw [hg 3 (by omega)]; exact h.c3, by rw [hg 4 (by omega)]; exact h.c4, by rw [hg 6 (by omega)]; exact h.c6, by rw [hg 7 (by omega)]; exact h.c7, by rw [hg 8 (by omega)]; exact h.c8, ?_⟩
  rcases h.md with h0 | hm
  · exact Or.inl h0
  rcases hd with h0 | hd
  · exact Or.inl h0
  refine Or.inr fun j hj => ?_
  rw [hd, hd, hd, hd]
  exact hm j hj

/-- Two cells of an order marked, three, and three more. -/
def sA (w : World) (g k : Nat) (z : Int) : World := (w.setCell ⟨g, k * 9, none⟩ (.int .i64 z)).setCell ⟨g, k * 9 + 1, none⟩ (.int .i64 (z + 1))
def sB (w : World) (g k : Nat) (z : Int) : World := ((w.setCell ⟨g, k * 9 + 2, none⟩ (.string (Gt.mkT (z + 2).toNat))).setCell ⟨g, k * 9 + 3, none⟩ (.int .i64 (z + 3))).setCell ⟨g, k * 9 + 4, none⟩ (.int .i64 (z + 4))
def sC (w : World) (g k : Nat) (z : Int) : World := ((w.setCell ⟨g, k * 9 + 6, none⟩ (.int .i64 z)).setCell ⟨g, k * 9 + 7, none⟩ (.int .i64 (z + 1))).setCell ⟨g, k * 9 + 8, none⟩ (.int .i64 (z + 2))

theorem sA_cell {w : World} {g i k : Nat} {z : Int} {v : Value} (h : w.cell? ⟨g, i, none⟩ = some v) : (sA w g k z).cell? ⟨g, i, none⟩ = some (if i = k * 9 + 1 then .int .i64 (z + 1) else if i = k * 9 then .int .i64 z else v) := Od.set_cell (Od.set_cell h)
theorem sB_cell {w : World} {g i k : Nat} {z : Int} {v : Value} (h : w.cell? ⟨g, i, none⟩ = some v) : (sB w g k z).cell? ⟨g, i, none⟩ = some (if i = k * 9 + 4 then .int .i64 (z + 4) else if i = k * 9 + 3 then .int .i64 (z + 3) else if i = k * 9 + 2 then .string (Gt.mkT (z + 2).toNat) else v) := Od.set_cell (Od.set_cell (Od.set_cell h))
theorem sC_cell {w : World} {g i k : Nat} {z : Int} {v : Value} (h : w.cell? ⟨g, i, none⟩ = some v) : (sC w g k z).cell? ⟨g, i, none⟩ = some (if i = k * 9 + 8 then .int .i64 (z + 2) else if i = k * 9 + 7 then .int .i64 (z + 1) else if i = k * 9 + 6 then .int .i64 z else v) := Od.set_cell (Od.set_cell (Od.set_cell h))
theorem sA_other {w : World} {g k : Nat} {z : Int} {p : Addr} (h : p.block ≠ g) : (sA w g k z).cell? p = w.cell? p := by
  unfold sA
  rw [Od.cell_other h, Od.cell_other h]
theorem sB_other {w : World} {g k : Nat} {z : Int} {p : Addr} (h : p.block ≠ g) : (sB w g k z).cell? p = w.cell? p := by
  unfold sB
  rw [Od.cell_other h, Od.cell_other h, Od.cell_other h]
theorem sC_other {w : World} {g k : Nat} {z : Int} {p : Addr} (h : p.block ≠ g) : (sC w g k z).cell? p = w.cell? p := by
  unfold sC
  rw [Od.cell_other h, Od.cell_other h, Od.cell_other h]
theorem sA_size (w : World) (g k : Nat) (z : Int) : (sA w g k z).heap.size = w.heap.size := by
  unfold sA
  rw [World.size_setCell, World.size_setCell]
theorem sB_size (w : World) (g k : Nat) (z : Int) : (sB w g k z).heap.size = w.heap.size := by
  unfold sB
  rw [World.size_setCell, World.size_setCell, World.size_setCell]
theorem sC_size (w : World) (g k : Nat) (z : Int) : (sC w g k z).heap.size = w.heap.size := by
  unfold sC
  rw [World.size_setCell, World.size_setCell, World.size_setCell]

theorem McO.sA {w : World} {lo hi g : Nat} {gf : Nat → Nat} {ts : List Oo} (h : McO w lo hi g gf ts) (k : Nat) (z : Int) : McO (sA w g k z) lo hi g gf ts := (h.set k 0 (by omega) (by omega) _).set k 1 (by omega) (by omega) _
theorem McO.sB {w : World} {lo hi g : Nat} {gf : Nat → Nat} {ts : List Oo} (h : McO w lo hi g gf ts) (k : Nat) (z : Int) : McO (sB w g k z) lo hi g gf ts := ((h.set k 2 (by omega) (by omega) _).set k 3 (by omega) (by omega) _).set k 4 (by omega) (by omega) _
theorem McO.sC {w : World} {lo hi g : Nat} {gf : Nat → Nat} {ts : List Oo} (h : McO w lo hi g gf ts) (k : Nat) (z : Int) : McO (sC w g k z) lo hi g gf ts := ((h.set k 6 (by omega) (by omega) _).set k 7 (by omega) (by omega) _).set k 8 (by omega) (by omega) _
theorem Fb.sA {lo hi g : Nat} {a w : World} (h : Fb lo hi a w) (h1 : lo ≤ g) (h2 : g < hi) (k : Nat) (z : Int) : Fb lo hi a (sA w g k z) := (h.set h1 h2 _ _).set h1 h2 _ _
theorem Fb.sB {lo hi g : Nat} {a w : World} (h : Fb lo hi a w) (h1 : lo ≤ g) (h2 : g < hi) (k : Nat) (z : Int) : Fb lo hi a (sB w g k z) := ((h.set h1 h2 _ _).set h1 h2 _ _).set h1 h2 _ _
theorem Fb.sC {lo hi g : Nat} {a w : World} (h : Fb lo hi a w) (h1 : lo ≤ g) (h2 : g < hi) (k : Nat) (z : Int) : Fb lo hi a (sC w g k z) := ((h.set h1 h2 _ _).set h1 h2 _ _).set h1 h2 _ _

/-- What one round does to the orders. -/
theorem round_O {z0 : Int} {wr w2 w4 : World} {lo hi g k gi : Nat} {gf : Nat → Nat} {ts : List Oo} (M : McO wr lo hi g gf ts) (hk : k < ts.length) (hg1 : lo ≤ g) (hg2 : g < hi) (hh : hi ≤ wr.heap.size)
    (L : Below (sA wr g k (offO z0 ts k)).heap.size (sA wr g k (offO z0 ts k)) w2) (B : Band gi (gi + 1) (sB w2 g k (offO z0 ts k)) w4) (hgi : gi ≠ g) (hR : ∀ m, Room (sB w2 g k (offO z0 ts k)) gi m → Room w4 gi m) (hb : (lo ≤ gi ∧ gi < hi) ∨ wr.heap.size ≤ gi) (hm : ts[k].l.length ≠ 0 → gi = gf k ∧ MarkedD w4 gi ts[k].l.length (offO z0 ts k + 5)) (hn0 : ts[k].l.length = 0 → wr.heap.size ≤ gi) :
    McO (sC w4 g k (offO z0 ts k + 5 + 4 * (ts[k].l.length : Int))) lo hi g gf ts ∧ Fb lo hi wr (sC w4 g k (offO z0 ts k + 5 + 4 * (ts[k].l.length : Int))) ∧ (ApO gf ts → MTO z0 wr g gf ts k → MTO z0 (sC w4 g k (offO z0 ts k + 5 + 4 * (ts[k].l.length : Int))) g gf ts (k + 1)) := by
  rw [sA_size] at L
  have M1 := M.sA k (offO z0 ts k)
  have M2 := M1.on ⟨hg1, hg2⟩ (by rw [sA_size]; exact L) (by rw [sA_size]; exact hh)
  have M3 := M2.sB k (offO z0 ts k)
  have M4 := M3.band B hgi hR
  have M5 := M4.sC k (offO z0 ts k + 5 + 4 * (ts[k].l.length : Int))
  have F1 : Fb lo hi wr (Of.sA wr g k (offO z0 ts k)) := (Fb.refl lo hi wr).sA hg1 hg2 _ _
  have F2 : Fb lo hi wr w2 := F1.trans (Fb.of (by rw [sA_size]; exact L))
  have F3 : Fb lo hi wr (Of.sB w2 g k (offO z0 ts k)) := F2.sB hg1 hg2 _ _
  have F4 : Fb lo hi wr w4 := ⟨B.os.trans F3.os, B.tape.trans F3.tape, B.output.trans F3.output, by rw [B.size]; exact F3.size, fun b h1 h2 => (B.block b (by omega)).trans (F3.block b h1 h2)⟩
  have F5 := F4.sC hg1 hg2 k (offO z0 ts k + 5 + 4 * (ts[k].l.length : Int))
  have hgw : g < wr.heap.size := by omega
  have c2 : ∀ i, w2.cell? ⟨g, i, none⟩ = (Of.sA wr g k (offO z0 ts k)).cell? ⟨g, i, none⟩ := fun i => L.cell (p := ⟨g, i, none⟩) hgw
  have c4 : ∀ b i, b ≠ gi → w4.cell? ⟨b, i, none⟩ = (Of.sB w2 g k (offO z0 ts k)).cell? ⟨b, i, none⟩ := fun b i hb => World.cell?_of_block (B.block b (by omega))
  refine ⟨M5, F5, fun A T i hi' hik => ?_⟩
  have cell : ∀ j v, wr.cell? ⟨g, j, none⟩ = some v → (Of.sC w4 g k (offO z0 ts k + 5 + 4 * (ts[k].l.length : Int))).cell? ⟨g, j, none⟩ = some (if j = k * 9 + 8 then .int .i64 (offO z0 ts k + 5 + 4 * (ts[k].l.length : Int) + 2) else if j = k * 9 + 7 then .int .i64 (offO z0 ts k + 5 + 4 * (ts[k].l.length : Int) + 1) else if j = k * 9 + 6 then .int .i64 (offO z0 ts k + 5 + 4 * (ts[k].l.length : Int)) else if j = k * 9 + 4 then .int .i64 (offO z0 ts k + 4) else if j = k * 9 + 3 then .int .i64 (offO z0 ts k + 3) else if j = k * 9 + 2 then .string (Gt.mkT (offO z0 ts k + 2).toNat) else if j = k * 9 + 1 then .int .i64 (offO z0 ts k + 1) else if j = k * 9 then .int .i64 (offO z0 ts k) else v) := by
    intro j v hv
    refine sC_cell ?_
    rw [c4 g j (fun h => hgi h.symm)]
    refine sB_cell ?_
    rw [c2]
    exact sA_cell hv
  by_cases e : i = k
  · subst e
    obtain ⟨⟨v0, e0⟩, -⟩ := M.room (i * 9) (by omega)
    obtain ⟨⟨v1, e1⟩, -⟩ := M.room (i * 9 + 1) (by omega)
    obtain ⟨⟨v2, e2⟩, -⟩ := M.room (i * 9 + 2) (by omega)
    obtain ⟨⟨v3, e3⟩, -⟩ := M.room (i * 9 + 3) (by omega)
    obtain ⟨⟨v4, e4⟩, -⟩ := M.room (i * 9 + 4) (by omega)
    obtain ⟨⟨v6, e6⟩, -⟩ := M.room (i * 9 + 6) (by omega)
    obtain ⟨⟨v7, e7⟩, -⟩ := M.room (i * 9 + 7) (by omega)
    obtain ⟨⟨v8, e8⟩, -⟩ := M.room (i * 9 + 8) (by omega)
    refine ⟨by rw [cell _ _ e0]; simp, by rw [cell _ _ e1]; simp, by rw [cell _ _ e2]; simp, by rw [cell _ _ e3]; simp, by rw [cell _ _ e4]; simp, by rw [cell _ _ e6]; simp, by rw [cell _ _ e7]; simp, by rw [cell _ _ e8]; simp, ?_⟩
    by_cases h0 : ts[i].l.length = 0
    · exact Or.inl h0
    · obtain ⟨q1, q2⟩ := hm h0
      subst q1
      refine Or.inr fun j hj => ?_
      rw [sC_other (show gf i ≠ g from hgi), sC_other (show gf i ≠ g from hgi), sC_other (show gf i ≠ g from hgi), sC_other (show gf i ≠ g from hgi)]
      exact q2 j hj
  · refine (T i hi' (by omega)).same (fun r hr => ?_) ?_
    · obtain ⟨⟨v, hv⟩, -⟩ := M.room (i * 9 + r) (by omega)
      rw [cell _ _ hv, hv]
      rw [if_neg (by omega), if_neg (by omega), if_neg (by omega), if_neg (by omega), if_neg (by omega), if_neg (by omega), if_neg (by omega), if_neg (by omega)]
    · by_cases h0 : ts[i].l.length = 0
      · exact Or.inl h0
      · refine Or.inr fun j => ?_
        obtain ⟨a, c, -, h2⟩ := M.each i hi'
        obtain ⟨-, q2, q3, q4, -⟩ := h2.resolve_left h0
        have hne : gf i ≠ gi := by
          by_cases hk0 : ts[k].l.length = 0
          · have := hn0 hk0; omega
          · rw [(hm hk0).1]; exact A i k hi' hk e h0 hk0
        rw [sC_other (show gf i ≠ g from q4), c4 _ _ hne, sB_other (show gf i ≠ g from q4), L.cell (p := ⟨gf i, j, none⟩) (show gf i < _ by omega), sA_other (show gf i ≠ g from q4)]

end Of
end Go.Proofs.YtehmlnojjfeheaaGreat

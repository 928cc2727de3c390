/- An office that was copied, marked from any number on, and held against the marks. -/
import Derived.Test.YtehmlnojjfeheaaGreatPfWalk
import Derived.Test.YtehmlnojjfeheaaGreatOfMark2Z
namespace Go.Proofs.YtehmlnojjfeheaaGreat
namespace Of
open Go.ChangeShapes Go.WideShapes Go.ChangeAt Go.RowKit Go.Joins
open Pk (new_below join_below cell_at heap_new frozen_at lt_of kept heap_old info_of Room)
open Tn (Band Tr)
open Od (Oo)
set_option linter.unusedSimpArgs false
set_option linter.unusedVariables false

/-- What hangs on the blocks from l to h alone. -/
def Loc (l h : Nat) (Q : World → Prop) : Prop := ∀ w w1 : World, Q w → w.heap.size ≤ w1.heap.size → (∀ b, l ≤ b → b < h → w1.heap[b]? = w.heap[b]?) → Q w1

theorem Loc.fb {l h lo hi : Nat} {Q : World → Prop} (q : Loc l h Q) {w w1 : World} (hq : Q w) (F : Fb lo hi w w1) (hh : h ≤ w.heap.size) (hd : h ≤ lo ∨ hi ≤ l) : Q w1 := q w w1 hq F.size fun b h1 h2 => F.block b (by omega) (by omega)

theorem Loc.on {l h : Nat} {Q : World → Prop} (q : Loc l h Q) {w w1 : World} (hq : Q w) (L : Below w.heap.size w w1) (hh : h ≤ w.heap.size) : Q w1 := q w w1 hq L.size fun b h1 h2 => L.block b (by omega)

/-- A row that may be written. -/
def Rm (l h : Nat) (a : Option Addr) (n s : Nat) (w : World) : Prop := n = 0 ∨ ∃ g, a = some ⟨g, 0, none⟩ ∧ l ≤ g ∧ g < h ∧ h ≤ w.heap.size ∧ Room w g (n * s)

theorem Rm.loc (l h : Nat) (a : Option Addr) (n s : Nat) : Loc l h (Rm l h a n s) := by
  intro w w1 q hs hb
  rcases q with q | ⟨g, q1, q2, q3, q4, q5⟩
  · exact Or.inl q
  · refine Or.inr ⟨g, q1, q2, q3, Nat.le_trans q4 hs, fun j hj => ?_⟩
    rw [World.cell?_of_block (a := ⟨g, j, none⟩) (hb g q2 q3), World.frozen?_of_block (a := ⟨g, j, none⟩) (hb g q2 q3)]
    exact q5 j hj

/-- Orders that may be marked. -/
def Mo (l h : Nat) (a : Option Addr) (gf : Nat → Nat) (ts : List Oo) (w : World) : Prop := ts.length = 0 ∨ ∃ g, a = some ⟨g, 0, none⟩ ∧ l ≤ g ∧ g < h ∧ h ≤ w.heap.size ∧ McO w l h g gf ts

theorem Mo.loc (l h : Nat) (a : Option Addr) (gf : Nat → Nat) (ts : List Oo) : Loc l h (Mo l h a gf ts) := by
  intro w w1 q hs hb
  rcases q with q | ⟨g, q1, q2, q3, q4, q5⟩
  · exact Or.inl q
  · exact Or.inr ⟨g, q1, q2, q3, Nat.le_trans q4 hs, q5.same ⟨q2, q3⟩ fun b i h1 h2 => ⟨World.cell?_of_block (a := ⟨b, i, none⟩) (hb b h1 h2), World.frozen?_of_block (a := ⟨b, i, none⟩) (hb b h1 h2)⟩⟩

/-- Orders that bear their marks. -/
def Lo (l h : Nat) (a : Option Addr) (gf : Nat → Nat) (ts : List Oo) (z : Int) (w : World) : Prop := ts.length = 0 ∨ ∃ g, a = some ⟨g, 0, none⟩ ∧ l ≤ g ∧ g < h ∧ h ≤ w.heap.size ∧ McO w l h g gf ts ∧ MTO z w g gf ts ts.length

theorem Lo.loc (l h : Nat) (a : Option Addr) (gf : Nat → Nat) (ts : List Oo) (z : Int) : Loc l h (Lo l h a gf ts z) := by
  intro w w1 q hs hb
  rcases q with q | ⟨g, q1, q2, q3, q4, q5, q6⟩
  · exact Or.inl q
  · have hc : ∀ b i, l ≤ b → b < h → w1.cell? ⟨b, i, none⟩ = w.cell? ⟨b, i, none⟩ ∧ w1.frozen? ⟨b, i, none⟩ = w.frozen? ⟨b, i, none⟩ := fun b i h1 h2 => ⟨World.cell?_of_block (a := ⟨b, i, none⟩) (hb b h1 h2), World.frozen?_of_block (a := ⟨b, i, none⟩) (hb b h1 h2)⟩
    refine Or.inr ⟨g, q1, q2, q3, Nat.le_trans q4 hs, q5.same ⟨q2, q3⟩ hc, fun i hi hik => ?_⟩
    refine (q6 i hi hik).same (fun r _ => (hc g _ q2 q3).1) ?_
    obtain ⟨a', c', -, r2⟩ := q5.each i hi
    exact r2.imp_right fun ⟨_, s2, s3, _, _⟩ j => (hc _ j s2 s3).1

/-- Trains that may be marked. -/
def Lu (l h : Nat) (a : Option Addr) (gf cf : Nat → Nat) (ts : List Tr) (w : World) : Prop := ts.length = 0 ∨ ∃ g, a = some ⟨g, 0, none⟩ ∧ l ≤ g ∧ g < h ∧ h ≤ w.heap.size ∧ Mc w l h g gf cf ts

theorem Lu.loc (l h : Nat) (a : Option Addr) (gf cf : Nat → Nat) (ts : List Tr) : Loc l h (Lu l h a gf cf ts) := by
  intro w w1 q hs hb
  rcases q with q | ⟨g, q1, q2, q3, q4, q5⟩
  · exact Or.inl q
  · exact Or.inr ⟨g, q1, q2, q3, Nat.le_trans q4 hs, q5.away ⟨q2, q3⟩ fun p h1 h2 => ⟨World.cell?_of_block (hb p.block h1 h2), World.frozen?_of_block (hb p.block h1 h2)⟩⟩

theorem LT.loc (z0 : Int) (l h : Nat) (a : Option Addr) (gf cf : Nat → Nat) (ts : List Tr) : Loc l h (fun w => LT z0 w l h a gf cf ts) := fun w w1 q hs hb => LT.away q hs fun p h1 h2 => ⟨World.cell?_of_block (hb p.block h1 h2), World.frozen?_of_block (hb p.block h1 h2)⟩

/-- Edges, holds, replies that bear their marks. -/
def Le (l h : Nat) (a : Option Addr) (n : Nat) (z : Int) (w : World) : Prop := n = 0 ∨ ∃ g, a = some ⟨g, 0, none⟩ ∧ l ≤ g ∧ g < h ∧ h ≤ w.heap.size ∧ MarkedE w g n z
def Lh (l h : Nat) (a : Option Addr) (n : Nat) (z : Int) (w : World) : Prop := n = 0 ∨ ∃ g, a = some ⟨g, 0, none⟩ ∧ l ≤ g ∧ g < h ∧ h ≤ w.heap.size ∧ MarkedH w g n z
def Lr (l h : Nat) (a : Option Addr) (n : Nat) (z : Int) (w : World) : Prop := n = 0 ∨ ∃ g, a = some ⟨g, 0, none⟩ ∧ l ≤ g ∧ g < h ∧ h ≤ w.heap.size ∧ MarkedR w g n z

theorem Le.loc (l h : Nat) (a : Option Addr) (n : Nat) (z : Int) : Loc l h (Le l h a n z) := by
  intro w w1 q hs hb
  rcases q with q | ⟨g, q1, q2, q3, q4, q5⟩
  · exact Or.inl q
  · refine Or.inr ⟨g, q1, q2, q3, Nat.le_trans q4 hs, fun i hi => ?_⟩
    have hc : ∀ j, w1.cell? ⟨g, j, none⟩ = w.cell? ⟨g, j, none⟩ := fun j => World.cell?_of_block (a := ⟨g, j, none⟩) (hb g q2 q3)
    simp only [hc]
    exact q5 i hi

theorem Lh.loc (l h : Nat) (a : Option Addr) (n : Nat) (z : Int) : Loc l h (Lh l h a n z) := by
  intro w w1 q hs hb
  rcases q with q | ⟨g, q1, q2, q3, q4, q5⟩
  · exact Or.inl q
  · refine Or.inr ⟨g, q1, q2, q3, Nat.le_trans q4 hs, fun i hi => ?_⟩
    have hc : ∀ j, w1.cell? ⟨g, j, none⟩ = w.cell? ⟨g, j, none⟩ := fun j => World.cell?_of_block (a := ⟨g, j, none⟩) (hb g q2 q3)
    simp only [hc]
    exact q5 i hi

theorem Lr.loc (l h : Nat) (a : Option Addr) (n : Nat) (z : Int) : Loc l h (Lr l h a n z) := by
  intro w w1 q hs hb
  rcases q with q | ⟨g, q1, q2, q3, q4, q5⟩
  · exact Or.inl q
  · refine Or.inr ⟨g, q1, q2, q3, Nat.le_trans q4 hs, fun i hi => ?_⟩
    have hc : ∀ j, w1.cell? ⟨g, j, none⟩ = w.cell? ⟨g, j, none⟩ := fun j => World.cell?_of_block (a := ⟨g, j, none⟩) (hb g q2 q3)
    simp only [hc]
    exact q5 i hi

/-- The parts, marked. -/
theorem markE_z {l h n c : Nat} {a : Option Addr} {z : Int} {w : World} (hn : n ≤ 1048576) (hz : 0 ≤ z) (hz2 : z ≤ 1152921504606846976) (q : Rm l h a n 3 w) :
    Calls Tryz.prog 33 #[.slice a n c, .int .i64 z] w fun e w' => e = .returned (.int .i64 (z + 3 * (n : Int))) ∧ Fb l h w w' ∧ Le l h a n z w' := by
  rcases q with q | ⟨g, q1, q2, q3, q4, q5⟩
  · refine (markEdgeS_val a w.heap.size n c z w hn hz hz2 (Or.inl q)).mono ?_
    rintro e w' ⟨rfl, B, -, -⟩
    exact ⟨rfl, ⟨B.os, B.tape, B.output, Nat.le_of_eq B.size.symm, fun b h1 _ => B.block b (Or.inl h1)⟩, Or.inl q⟩
  · refine (markEdgeS_val a g n c z w hn hz hz2 (Or.inr ⟨q1, q5⟩)).mono ?_
    rintro e w' ⟨rfl, B, M, -⟩
    exact ⟨rfl, (Fb.band B).wide q2 (by omega), Or.inr ⟨g, q1, q2, q3, by rw [B.size]; exact q4, M⟩⟩

theorem markH_z {l h n c : Nat} {a : Option Addr} {z : Int} {w : World} (hn : n ≤ 1048576) (hz : 0 ≤ z) (hz2 : z ≤ 1152921504606846976) (q : Rm l h a n 7 w) :
    Calls Tryz.prog 34 #[.slice a n c, .int .i64 z] w fun e w' => e = .returned (.int .i64 (z + 7 * (n : Int))) ∧ Fb l h w w' ∧ Lh l h a n z w' := by
  rcases q with q | ⟨g, q1, q2, q3, q4, q5⟩
  · refine (markHoldS_z a w.heap.size n c z w hn hz hz2 (Or.inl q)).mono ?_
    rintro e w' ⟨rfl, B, -, -⟩
    exact ⟨rfl, ⟨B.os, B.tape, B.output, Nat.le_of_eq B.size.symm, fun b h1 _ => B.block b (Or.inl h1)⟩, Or.inl q⟩
  · refine (markHoldS_z a g n c z w hn hz hz2 (Or.inr ⟨q1, q5⟩)).mono ?_
    rintro e w' ⟨rfl, B, M, -⟩
    exact ⟨rfl, (Fb.band B).wide q2 (by omega), Or.inr ⟨g, q1, q2, q3, by rw [B.size]; exact q4, M⟩⟩

theorem markR_z {l h n c : Nat} {a : Option Addr} {z : Int} {w : World} (hn : n ≤ 1048576) (hz : 0 ≤ z) (hz2 : z ≤ 1152921504606846976) (q : Rm l h a n 4 w) :
    Calls Tryz.prog 36 #[.slice a n c, .int .i64 z] w fun e w' => e = .returned (.int .i64 (z + 4 * (n : Int))) ∧ Fb l h w w' ∧ Lr l h a n z w' := by
  rcases q with q | ⟨g, q1, q2, q3, q4, q5⟩
  · refine (markReplyS_z a w.heap.size n c z w hn hz hz2 (Or.inl q)).mono ?_
    rintro e w' ⟨rfl, B, -, -⟩
    exact ⟨rfl, ⟨B.os, B.tape, B.output, Nat.le_of_eq B.size.symm, fun b h1 _ => B.block b (Or.inl h1)⟩, Or.inl q⟩
  · refine (markReplyS_z a g n c z w hn hz hz2 (Or.inr ⟨q1, q5⟩)).mono ?_
    rintro e w' ⟨rfl, B, M, -⟩
    exact ⟨rfl, (Fb.band B).wide q2 (by omega), Or.inr ⟨g, q1, q2, q3, by rw [B.size]; exact q4, M⟩⟩

theorem markT_z {l h c : Nat} {a : Option Addr} {gf cf : Nat → Nat} {ts : List Tr} {z : Int} {w : World} (hn : ts.length ≤ 40) (hs : ∀ i (h : i < ts.length), ts[i].l.length ≤ 20) (hz : 0 ≤ z) (hz2 : z ≤ 1000000000000000) (q : Lu l h a gf cf ts w) :
    Calls Tryz.prog 32 #[.slice a ts.length c, .int .i64 z] w fun e w' => e = .returned (.int .i64 (off z ts ts.length)) ∧ Fb l h w w' ∧ LT z w' l h a gf cf ts := by
  rcases q with q | ⟨g, q1, q2, q3, q4, q5⟩
  · rw [off_nil q, q]
    refine (markTrainS_nil a c z w).mono ?_
    rintro e w' ⟨rfl, rfl⟩
    exact ⟨rfl, Fb.refl _ _ _, Or.inl q⟩
  · subst q1
    refine (markTrainS_own z hz (by omega) l h g gf cf ts c w hn hs q2 q3 q5).mono ?_
    rintro e w' ⟨rfl, B, T, M⟩
    exact ⟨rfl, Fb.band B, Or.inr ⟨g, rfl, q2, q3, by rw [B.size]; exact q4, M, T⟩⟩

theorem offO_nil {z : Int} {ts : List Oo} (h : ts.length = 0) : offO z ts ts.length = z := by rw [h]; rfl

theorem markO_z {l h c : Nat} {a : Option Addr} {gf : Nat → Nat} {ts : List Oo} {z : Int} {w : World} (hn : ts.length ≤ 1048576) (hs : ∀ i (h : i < ts.length), ts[i].l.length ≤ 1048576) (hz : 1 ≤ z) (hz2 : z ≤ 1000000000000000) (q : Mo l h a gf ts w) :
    Calls Tryz.prog 35 #[.slice a ts.length c, .int .i64 z] w fun e w' => e = .returned (.int .i64 (offO z ts ts.length)) ∧ Fb l h w w' ∧ (ApO gf ts → Lo l h a gf ts z w') := by
  rcases q with q | ⟨g, q1, q2, q3, q4, q5⟩
  · rw [offO_nil q, q]
    refine (markOrderS_nil a c z w).mono ?_
    rintro e w' ⟨rfl, rfl⟩
    exact ⟨rfl, Fb.refl _ _ _, fun _ => Or.inl q⟩
  · subst q1
    refine (markOrderS_val z hz hz2 l h g gf ts c w hn hs q2 q3 q4 q5).mono ?_
    rintro e w' ⟨rfl, B, M, T⟩
    exact ⟨rfl, B, fun A => Or.inr ⟨g, rfl, q2, q3, Nat.le_trans q4 B.size, M, T A⟩⟩

/-- The parts, held against their marks. -/
theorem heldE_z {l h n c : Nat} {a : Option Addr} {z : Int} {w : World} (hn : n ≤ 1048576) (hz : 0 ≤ z) (hz2 : z ≤ 1152921504606846976) (q : Le l h a n z w) :
    Calls Tryz.prog 67 #[.slice a n c, .int .i64 z] w fun e w' => e = .returned (.int .i64 (z + 3 * (n : Int))) ∧ Below w.heap.size w w' := by
  rcases q with q | ⟨g, q1, q2, q3, q4, q5⟩
  · refine (heldEdgeS_val a w.heap.size n c z w hn hz hz2 (Or.inl q) (fun i hi => by omega)).mono ?_
    rintro e w' ⟨rfl, rfl⟩
    exact ⟨rfl, Below.refl _ _⟩
  · refine (heldEdgeS_val a g n c z w hn hz hz2 (Or.inr q1) q5).mono ?_
    rintro e w' ⟨rfl, rfl⟩
    exact ⟨rfl, Below.refl _ _⟩

theorem heldH_z {l h n c : Nat} {a : Option Addr} {z : Int} {w : World} (hn : n ≤ 1048576) (hz : 0 ≤ z) (hz2 : z ≤ 1152921504606846976) (q : Lh l h a n z w) :
    Calls Tryz.prog 68 #[.slice a n c, .int .i64 z] w fun e w' => e = .returned (.int .i64 (z + 7 * (n : Int))) ∧ Below w.heap.size w w' := by
  rcases q with q | ⟨g, q1, q2, q3, q4, q5⟩
  · refine (heldHoldS_z a w.heap.size n c z w hn hz hz2 (Or.inl q) (fun i hi => by omega)).mono ?_
    rintro e w' ⟨rfl, rfl⟩
    exact ⟨rfl, Below.refl _ _⟩
  · refine (heldHoldS_z a g n c z w hn hz hz2 (Or.inr q1) q5).mono ?_
    rintro e w' ⟨rfl, rfl⟩
    exact ⟨rfl, Below.refl _ _⟩

theorem heldR_z {l h n c : Nat} {a : Option Addr} {z : Int} {w : World} (hn : n ≤ 1048576) (hz : 0 ≤ z) (hz2 : z ≤ 1152921504606846976) (q : Lr l h a n z w) :
    Calls Tryz.prog 70 #[.slice a n c, .int .i64 z] w fun e w' => e = .returned (.int .i64 (z + 4 * (n : Int))) ∧ Below w.heap.size w w' := by
  rcases q with q | ⟨g, q1, q2, q3, q4, q5⟩
  · refine (heldReplyS_z a w.heap.size n c z w hn hz hz2 (Or.inl q) (fun i hi => by omega)).mono ?_
    rintro e w' ⟨rfl, rfl⟩
    exact ⟨rfl, Below.refl _ _⟩
  · refine (heldReplyS_z a g n c z w hn hz hz2 (Or.inr q1) q5).mono ?_
    rintro e w' ⟨rfl, rfl⟩
    exact ⟨rfl, Below.refl _ _⟩

theorem heldT_z {l h c : Nat} {a : Option Addr} {gf cf : Nat → Nat} {ts : List Tr} {z : Int} {w : World} (hn : ts.length ≤ 40) (hs : ∀ i (h : i < ts.length), ts[i].l.length ≤ 20) (hz : 0 ≤ z) (hz2 : z ≤ 1000000000000000) (q : LT z w l h a gf cf ts) :
    Calls Tryz.prog 66 #[.slice a ts.length c, .int .i64 z] w fun e w' => e = .returned (.int .i64 (off z ts ts.length)) ∧ Below w.heap.size w w' := by
  rcases q with q | ⟨g, q1, q2, q3, q4, q5, q6⟩
  · rw [off_nil q, q]
    refine (heldTrainS_nil a c z w).mono ?_
    rintro e w' ⟨rfl, rfl⟩
    exact ⟨rfl, Below.refl _ _⟩
  · subst q1
    refine (heldTrainS_own z hz (by omega) l h g gf cf ts c w hn hs q5 q6).mono ?_
    rintro e w' ⟨rfl, rfl⟩
    exact ⟨rfl, Below.refl _ _⟩

theorem heldO_z {l h c : Nat} {a : Option Addr} {gf : Nat → Nat} {ts : List Oo} {z : Int} {w : World} (hn : ts.length ≤ 1048576) (hs : ∀ i (h : i < ts.length), ts[i].l.length ≤ 1048576) (hz : 1 ≤ z) (hz2 : z ≤ 1000000000000000) (q : Lo l h a gf ts z w) :
    Calls Tryz.prog 69 #[.slice a ts.length c, .int .i64 z] w fun e w' => e = .returned (.int .i64 (offO z ts ts.length)) ∧ Below w.heap.size w w' := by
  rcases q with q | ⟨g, q1, q2, q3, q4, q5, q6⟩
  · rw [offO_nil q, q]
    refine (heldOrderS_nil a c z w).mono ?_
    rintro e w' ⟨rfl, rfl⟩
    exact ⟨rfl, Below.refl _ _⟩
  · subst q1
    exact heldOrderS_val z hz hz2 l h g gf ts c w hn hs q2 q3 q4 q5 q6

end Of
end Go.Proofs.YtehmlnojjfeheaaGreat

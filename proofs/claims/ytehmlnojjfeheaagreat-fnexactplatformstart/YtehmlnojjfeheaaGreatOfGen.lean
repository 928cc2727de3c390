/- opened, closed and copyOffice of the program, over any office whose lists are slices as they come. -/
import Derived.Test.YtehmlnojjfeheaaGreatOfOrdC
import Derived.Test.YtehmlnojjfeheaaGreatOfAnyZ
import Derived.Deep.Cut
namespace Go.Proofs.YtehmlnojjfeheaaGreat
namespace Of
open Go.ChangeShapes Go.WideShapes Go.ChangeAt Go.RowKit
open Pk (new_below join_below cell_at heap_new frozen_at lt_of kept heap_old info_of Room own_form)
open Rd (Ri Rides)
open Od (Oo)
open Tn (Tr Trains)
set_option linter.unusedSimpArgs false
set_option linter.unusedVariables false

theorem holds_cells {w : World} {b o : Nat} {l : List Se.Hl} (I : Se.Holds w (some ⟨b, o, none⟩) l) : ∀ j, j < l.length * 7 → ∃ v, w.cell? ⟨b, o + j, none⟩ = some v ∧ v.oneCell' = true := by
  intro j hj
  rcases I with h | ⟨b', o', e, hb, hc⟩
  · subst h; simp at hj
  · simp only [Option.some.injEq, Addr.mk.injEq, and_true] at e
    obtain ⟨rfl, rfl⟩ := e
    obtain ⟨c0, c1, c2, c3, c4, c5, c6⟩ := hc (j / 7) (by omega)
    have hq : j % 7 = 0 ∨ j % 7 = 1 ∨ j % 7 = 2 ∨ j % 7 = 3 ∨ j % 7 = 4 ∨ j % 7 = 5 ∨ j % 7 = 6 := by omega
    rcases hq with h | h | h | h | h | h | h
    · exact ⟨_, by rw [show o + j = o + j / 7 * 7 by omega]; exact c0, rfl⟩
    · exact ⟨_, by rw [show o + j = o + j / 7 * 7 + 1 by omega]; exact c1, rfl⟩
    · exact ⟨_, by rw [show o + j = o + j / 7 * 7 + 2 by omega]; exact c2, rfl⟩
    · exact ⟨_, by rw [show o + j = o + j / 7 * 7 + 3 by omega]; exact c3, rfl⟩
    · exact ⟨_, by rw [show o + j = o + j / 7 * 7 + 4 by omega]; exact c4, rfl⟩
    · exact ⟨_, by rw [show o + j = o + j / 7 * 7 + 5 by omega]; exact c5, rfl⟩
    · exact ⟨_, by rw [show o + j = o + j / 7 * 7 + 6 by omega]; exact c6, rfl⟩

theorem holds_moved {w w' : World} {b o g : Nat} {l : List Se.Hl} (I : Se.Holds w (some ⟨b, o, none⟩) l) (hg : g < w'.heap.size) (hc : ∀ j, j < l.length * 7 → w'.cell? ⟨g, j, none⟩ = w.cell? ⟨b, o + j, none⟩) : Se.Holds w' (some ⟨g, 0, none⟩) l := by
  rcases I with h | ⟨b', o', e, hb, hcc⟩
  · exact Or.inl h
  · simp only [Option.some.injEq, Addr.mk.injEq, and_true] at e
    obtain ⟨rfl, rfl⟩ := e
    refine Or.inr ⟨g, 0, rfl, hg, fun i hi => ?_⟩
    obtain ⟨c0, c1, c2, c3, c4, c5, c6⟩ := hcc i hi
    rw [show 0 + i * 7 = i * 7 by omega, hc (i * 7) (by omega), hc (i * 7 + 1) (by omega), hc (i * 7 + 2) (by omega), hc (i * 7 + 3) (by omega), hc (i * 7 + 4) (by omega), hc (i * 7 + 5) (by omega), hc (i * 7 + 6) (by omega)]
    exact ⟨c0, by rw [← Nat.add_assoc]; exact c1, by rw [← Nat.add_assoc]; exact c2, by rw [← Nat.add_assoc]; exact c3, by rw [← Nat.add_assoc]; exact c4, by rw [← Nat.add_assoc]; exact c5, by rw [← Nat.add_assoc]; exact c6⟩

/-- A list of records in a block of its own from lo to hi, which may be written; or none. -/
def FlH (w : World) (lo hi : Nat) (a : Option Addr) (l : List Se.Hl) : Prop := l.length = 0 ∨ ∃ g, a = some ⟨g, 0, none⟩ ∧ lo ≤ g ∧ g < hi ∧ hi ≤ w.heap.size ∧ Se.Holds w (some ⟨g, 0, none⟩) l ∧ Room w g (l.length * 7)

theorem FlH.list {w : World} {lo hi : Nat} {a : Option Addr} {l : List Se.Hl} (h : FlH w lo hi a l) : Se.Holds w a l := by
  rcases h with h | ⟨g, rfl, -, -, -, h, -⟩
  · exact Or.inl (List.eq_nil_of_length_eq_zero h)
  · exact h

theorem FlH.of {w w1 : World} {b o : Nat} {a : Option Addr} {l : List Se.Hl} (I : Se.Holds w (some ⟨b, o, none⟩) l) (C : Cloned w w1 a b o l.length 7) : FlH w1 w.heap.size w1.heap.size a l := by
  rcases C with h | ⟨g, rfl, h1, h2, h3, h4⟩
  · exact Or.inl h
  · refine Or.inr ⟨g, rfl, h1, h2, Nat.le_refl _, holds_moved I h2 h3, fun j hj => ?_⟩
    obtain ⟨v, hv, -⟩ := holds_cells I j hj
    exact ⟨⟨v, by rw [h3 j hj]; exact hv⟩, h4 j⟩

theorem FlH.kh {w w1 : World} {lo lo' hi : Nat} {a : Option Addr} {l : List Se.Hl} (h : FlH w lo hi a l) (k : Kh lo' w w1) (hl : lo' ≤ lo) : FlH w1 lo hi a l := by
  rcases h with h | ⟨g, rfl, h1, h2, h3, h4, h5⟩
  · exact Or.inl h
  · refine Or.inr ⟨g, rfl, h1, h2, Nat.le_trans h3 k.1, holds_kp h4 (Nat.le_trans hl h1) ⟨k.1, fun p q1 q2 => World.cell?_of_block (k.2 p.block q1 q2)⟩, fun j hj => ?_⟩
    have hb := k.2 g (by omega) (by omega)
    rw [World.cell?_of_block (a := ⟨g, j, none⟩) hb, World.frozen?_of_block (a := ⟨g, j, none⟩) hb]
    exact h5 j hj

theorem edges_moved {w w' : World} {b o g : Nat} {l : List Tf.Ed} (I : Tf.Edges w (some ⟨b, o, none⟩) l) (hg : g < w'.heap.size) (hc : ∀ j, j < l.length * 3 → w'.cell? ⟨g, j, none⟩ = w.cell? ⟨b, o + j, none⟩) : Tf.Edges w' (some ⟨g, 0, none⟩) l := by
  rcases I with h | ⟨b', o', e, hb, hcc⟩
  · exact Or.inl h
  · simp only [Option.some.injEq, Addr.mk.injEq, and_true] at e
    obtain ⟨rfl, rfl⟩ := e
    refine Or.inr ⟨g, 0, rfl, hg, fun i hi => ?_⟩
    obtain ⟨c0, c1, c2⟩ := hcc i hi
    rw [show 0 + i * 3 = i * 3 by omega, hc (i * 3) (by omega), hc (i * 3 + 1) (by omega), hc (i * 3 + 2) (by omega)]
    exact ⟨c0, by rw [← Nat.add_assoc]; exact c1, by rw [← Nat.add_assoc]; exact c2⟩

/-- A list of records in a block of its own from lo to hi, which may be written; or none. -/
def FlE (w : World) (lo hi : Nat) (a : Option Addr) (l : List Tf.Ed) : Prop := l.length = 0 ∨ ∃ g, a = some ⟨g, 0, none⟩ ∧ lo ≤ g ∧ g < hi ∧ hi ≤ w.heap.size ∧ Tf.Edges w (some ⟨g, 0, none⟩) l ∧ Room w g (l.length * 3)

theorem FlE.list {w : World} {lo hi : Nat} {a : Option Addr} {l : List Tf.Ed} (h : FlE w lo hi a l) : Tf.Edges w a l := by
  rcases h with h | ⟨g, rfl, -, -, -, h, -⟩
  · exact Or.inl (List.eq_nil_of_length_eq_zero h)
  · exact h

theorem FlE.of {w w1 : World} {b o : Nat} {a : Option Addr} {l : List Tf.Ed} (I : Tf.Edges w (some ⟨b, o, none⟩) l) (C : Cloned w w1 a b o l.length 3) : FlE w1 w.heap.size w1.heap.size a l := by
  rcases C with h | ⟨g, rfl, h1, h2, h3, h4⟩
  · exact Or.inl h
  · refine Or.inr ⟨g, rfl, h1, h2, Nat.le_refl _, edges_moved I h2 h3, fun j hj => ?_⟩
    obtain ⟨v, hv, -⟩ := edges_cells I j hj
    exact ⟨⟨v, by rw [h3 j hj]; exact hv⟩, h4 j⟩

theorem FlE.kh {w w1 : World} {lo lo' hi : Nat} {a : Option Addr} {l : List Tf.Ed} (h : FlE w lo hi a l) (k : Kh lo' w w1) (hl : lo' ≤ lo) : FlE w1 lo hi a l := by
  rcases h with h | ⟨g, rfl, h1, h2, h3, h4, h5⟩
  · exact Or.inl h
  · refine Or.inr ⟨g, rfl, h1, h2, Nat.le_trans h3 k.1, edges_kp h4 (Nat.le_trans hl h1) ⟨k.1, fun p q1 q2 => World.cell?_of_block (k.2 p.block q1 q2)⟩, fun j hj => ?_⟩
    have hb := k.2 g (by omega) (by omega)
    rw [World.cell?_of_block (a := ⟨g, j, none⟩) hb, World.frozen?_of_block (a := ⟨g, j, none⟩) hb]
    exact h5 j hj

theorem reps_cells {w : World} {b o : Nat} {l : List Rp.Rr} (I : Rp.Replys w (some ⟨b, o, none⟩) l) : ∀ j, j < l.length * 4 → ∃ v, w.cell? ⟨b, o + j, none⟩ = some v ∧ v.oneCell' = true := by
  intro j hj
  rcases I with h | ⟨b', o', e, hb, hc⟩
  · subst h; simp at hj
  · simp only [Option.some.injEq, Addr.mk.injEq, and_true] at e
    obtain ⟨rfl, rfl⟩ := e
    obtain ⟨c0, c1, c2, c3⟩ := hc (j / 4) (by omega)
    have hq : j % 4 = 0 ∨ j % 4 = 1 ∨ j % 4 = 2 ∨ j % 4 = 3 := by omega
    rcases hq with h | h | h | h
    · exact ⟨_, by rw [show o + j = o + j / 4 * 4 by omega]; exact c0, rfl⟩
    · exact ⟨_, by rw [show o + j = o + j / 4 * 4 + 1 by omega]; exact c1, rfl⟩
    · exact ⟨_, by rw [show o + j = o + j / 4 * 4 + 2 by omega]; exact c2, rfl⟩
    · exact ⟨_, by rw [show o + j = o + j / 4 * 4 + 3 by omega]; exact c3, rfl⟩

theorem reps_moved {w w' : World} {b o g : Nat} {l : List Rp.Rr} (I : Rp.Replys w (some ⟨b, o, none⟩) l) (hg : g < w'.heap.size) (hc : ∀ j, j < l.length * 4 → w'.cell? ⟨g, j, none⟩ = w.cell? ⟨b, o + j, none⟩) : Rp.Replys w' (some ⟨g, 0, none⟩) l := by
  rcases I with h | ⟨b', o', e, hb, hcc⟩
  · exact Or.inl h
  · simp only [Option.some.injEq, Addr.mk.injEq, and_true] at e
    obtain ⟨rfl, rfl⟩ := e
    refine Or.inr ⟨g, 0, rfl, hg, fun i hi => ?_⟩
    obtain ⟨c0, c1, c2, c3⟩ := hcc i hi
    rw [show 0 + i * 4 = i * 4 by omega, hc (i * 4) (by omega), hc (i * 4 + 1) (by omega), hc (i * 4 + 2) (by omega), hc (i * 4 + 3) (by omega)]
    exact ⟨c0, by rw [← Nat.add_assoc]; exact c1, by rw [← Nat.add_assoc]; exact c2, by rw [← Nat.add_assoc]; exact c3⟩

/-- A list of records in a block of its own from lo to hi, which may be written; or none. -/
def FlR (w : World) (lo hi : Nat) (a : Option Addr) (l : List Rp.Rr) : Prop := l.length = 0 ∨ ∃ g, a = some ⟨g, 0, none⟩ ∧ lo ≤ g ∧ g < hi ∧ hi ≤ w.heap.size ∧ Rp.Replys w (some ⟨g, 0, none⟩) l ∧ Room w g (l.length * 4)

theorem FlR.list {w : World} {lo hi : Nat} {a : Option Addr} {l : List Rp.Rr} (h : FlR w lo hi a l) : Rp.Replys w a l := by
  rcases h with h | ⟨g, rfl, -, -, -, h, -⟩
  · exact Or.inl (List.eq_nil_of_length_eq_zero h)
  · exact h

theorem FlR.of {w w1 : World} {b o : Nat} {a : Option Addr} {l : List Rp.Rr} (I : Rp.Replys w (some ⟨b, o, none⟩) l) (C : Cloned w w1 a b o l.length 4) : FlR w1 w.heap.size w1.heap.size a l := by
  rcases C with h | ⟨g, rfl, h1, h2, h3, h4⟩
  · exact Or.inl h
  · refine Or.inr ⟨g, rfl, h1, h2, Nat.le_refl _, reps_moved I h2 h3, fun j hj => ?_⟩
    obtain ⟨v, hv, -⟩ := reps_cells I j hj
    exact ⟨⟨v, by rw [h3 j hj]; exact hv⟩, h4 j⟩

theorem FlR.kh {w w1 : World} {lo lo' hi : Nat} {a : Option Addr} {l : List Rp.Rr} (h : FlR w lo hi a l) (k : Kh lo' w w1) (hl : lo' ≤ lo) : FlR w1 lo hi a l := by
  rcases h with h | ⟨g, rfl, h1, h2, h3, h4, h5⟩
  · exact Or.inl h
  · refine Or.inr ⟨g, rfl, h1, h2, Nat.le_trans h3 k.1, reps_kp h4 (Nat.le_trans hl h1) ⟨k.1, fun p q1 q2 => World.cell?_of_block (k.2 p.block q1 q2)⟩, fun j hj => ?_⟩
    have hb := k.2 g (by omega) (by omega)
    rw [World.cell?_of_block (a := ⟨g, j, none⟩) hb, World.frozen?_of_block (a := ⟨g, j, none⟩) hb]
    exact h5 j hj

theorem Lm.kh {w w1 : World} {lo lo' mid : Nat} {a : Option Addr} {gf cf : Nat → Nat} {ts : List Tr} (h : Lm w lo mid a gf cf ts) (k : Kh lo' w w1) (hl : lo' ≤ lo) : Lm w1 lo mid a gf cf ts := by
  rcases Nat.lt_or_ge mid lo with hm | hm
  · rcases h with h | ⟨g, -, h1, h2, -⟩
    · exact Or.inl h
    · omega
  · exact (le_kh (a3 := none) (es := []) hm ⟨h, Or.inl rfl⟩ ⟨k.1, fun b h1 h2 => k.2 b (Nat.le_trans hl h1) h2⟩).1

/-- A list of orders in blocks of its own from lo to hi. -/
def LmO (w : World) (lo hi : Nat) (a : Option Addr) (gf : Nat → Nat) (ts : List Oo) : Prop := ts.length = 0 ∨ ∃ g, a = some ⟨g, 0, none⟩ ∧ lo ≤ g ∧ g < hi ∧ hi ≤ w.heap.size ∧ CpO w lo g gf ts.length ts ∧ ∀ i (h : i < ts.length), ts[i].l.length ≠ 0 → gf i < hi

theorem LtO.lm {w : World} {lo : Nat} {a : Option Addr} {gf : Nat → Nat} {ts : List Oo} (h : LtO w lo a gf ts.length ts) : LmO w lo w.heap.size a gf ts := by
  rcases h with h | ⟨g, h1, h2, h3, h4⟩
  · exact Or.inl h
  · refine Or.inr ⟨g, h1, h2, h3, Nat.le_refl _, h4, fun i hi h0 => ?_⟩
    obtain ⟨_, _, -, q⟩ := h4.each i hi hi
    exact (q.resolve_left h0).2.2.2.1

theorem LmO.orders {w : World} {lo hi : Nat} {a : Option Addr} {gf : Nat → Nat} {ts : List Oo} (h : LmO w lo hi a gf ts) : Od.Orders w a ts := by
  rcases h with h | ⟨g, h1, h2, h3, h4, h5, -⟩
  · exact LtO.orders (lo := lo) (gf := gf) (Or.inl h)
  · exact LtO.orders (lo := lo) (gf := gf) (Or.inr ⟨g, h1, h2, Nat.lt_of_lt_of_le h3 h4, h5⟩)

theorem LmO.kh {w w1 : World} {lo lo' hi : Nat} {a : Option Addr} {gf : Nat → Nat} {ts : List Oo} (h : LmO w lo hi a gf ts) (k : Kh lo' w w1) (hl : lo' ≤ lo) : LmO w1 lo hi a gf ts := by
  have hc : ∀ b i, lo ≤ b → b < w.heap.size → w1.cell? ⟨b, i, none⟩ = w.cell? ⟨b, i, none⟩ := fun b i h1 h2 => World.cell?_of_block (k.2 b (Nat.le_trans hl h1) h2)
  have hf : ∀ b i, lo ≤ b → b < w.heap.size → w1.frozen? ⟨b, i, none⟩ = w.frozen? ⟨b, i, none⟩ := fun b i h1 h2 => World.frozen?_of_block (k.2 b (Nat.le_trans hl h1) h2)
  have kp : Kp lo w w1 := ⟨k.1, fun p h1 h2 => World.cell?_of_block (k.2 p.block (Nat.le_trans hl h1) h2)⟩
  rcases h with h0 | ⟨g, q0, q1, q2, q3, q4, q5⟩
  · exact Or.inl h0
  · refine Or.inr ⟨g, q0, q1, q2, Nat.le_trans q3 k.1, ⟨fun j hj => ?_, fun i hi => (q4.nums i hi).on fun j => hc g j q1 (by omega), fun i hi hk => ?_, q4.apart, fun i hi hk => by omega⟩, q5⟩
    · rw [hc g j q1 (by omega), hf g j q1 (by omega)]
      exact q4.room j hj
    · obtain ⟨a, c, r, r0⟩ := q4.each i hi hk
      refine ⟨a, c, by rw [hc g _ q1 (by omega)]; exact r, r0.imp_right fun ⟨r1, r2, r3, r4, r5, r6⟩ => ⟨r1, r2, r3, Nat.lt_of_lt_of_le r4 k.1, rides_kp r5 r2 kp, fun j hj => ?_⟩⟩
      rw [hc (gf i) j r2 r4, hf (gf i) j r2 r4]
      exact r6 j hj

/-- A whole office that was copied: each list in blocks of its own. -/
structure OG (w : World) (m0 m1 m2 m3 m4 m5 : Nat) (x : Pl) (o : Offc) (gf cf hf : Nat → Nat) : Prop where
  ho : FlH w m0 m1 x.a2 o.ho
  ln : Lm w m1 m2 x.a0 gf cf o.ln
  ta : FlE w m2 m3 x.a1 o.ta
  od : LmO w m3 m4 x.a3 hf o.od
  to : FlR w m4 m5 x.a4 o.to
  le : m0 ≤ m1 ∧ m1 ≤ m2 ∧ m2 ≤ m3 ∧ m3 ≤ m4 ∧ m4 ≤ m5 ∧ m5 ≤ w.heap.size

theorem OG.kh {w w1 : World} {m0 m1 m2 m3 m4 m5 : Nat} {x : Pl} {o : Offc} {gf cf hf : Nat → Nat} (h : OG w m0 m1 m2 m3 m4 m5 x o gf cf hf) (k : Kh m0 w w1) : OG w1 m0 m1 m2 m3 m4 m5 x o gf cf hf := by
  obtain ⟨l1, l2, l3, l4, l5, l6⟩ := h.le
  exact ⟨h.ho.kh k (Nat.le_refl _), h.ln.kh k l1, h.ta.kh k (by omega), h.od.kh k (by omega), h.to.kh k (by omega), l1, l2, l3, l4, l5, Nat.le_trans l6 k.1⟩

theorem OG.in {w : World} {m0 m1 m2 m3 m4 m5 : Nat} {x : Pl} {o : Offc} {gf cf hf : Nat → Nat} (h : OG w m0 m1 m2 m3 m4 m5 x o gf cf hf) : In w x o := ⟨h.ln.lt.trains, h.ta.list, h.ho.list, h.od.orders, h.to.list⟩

theorem OrdS.on {w w1 : World} {b p : Nat} {ts : List Oo} (h : OrdS w b p ts) (L : Below w.heap.size w w1) (hb : b < w.heap.size) : OrdS w1 b p ts := by
  intro i hi
  obtain ⟨h1, bi, oi, ci, h2, h3, h4⟩ := h i hi
  exact ⟨h1.on fun j => L.cell (p := ⟨b, j, none⟩) hb, bi, oi, ci, Nat.lt_of_lt_of_le h2 L.size, by rw [L.cell (p := ⟨b, p + i * 9 + 5, none⟩) hb]; exact h3, h4.on L⟩

theorem Kh.setG {lo g i : Nat} {w W : World} {v : Value} (k : Kh lo w W) (h : g < lo) : Kh lo w (W.setCell ⟨g, i, none⟩ v) := ⟨by rw [World.size_setCell]; exact k.1, fun b h1 h2 => by rw [Below.heap_setCell W ⟨g, i, none⟩ v b (by show b ≠ g; omega)]; exact k.2 b h1 h2⟩
theorem Kh.drewG {lo : Nat} {w W : World} (k : Kh lo w W) : Kh lo w W.drew := k

set_option maxRecDepth 100000 in
set_option maxHeartbeats 8000000 in
theorem openedG_val (HCS : ∀ (s : ByteArray) (W : World), s.size ≤ 1048576 → Calls Tryz.prog 109 #[.string s] W fun e w' => e = .returned (.string s) ∧ Below W.heap.size W w') (b0 p0 b1 p1 b2 p2 b3 p3 b4 p4 k0 k1 k2 k3 k4 : Nat) (o : Offc) (w : World) (hb0 : b0 < w.heap.size) (hb1 : b1 < w.heap.size) (hb2 : b2 < w.heap.size) (hb3 : b3 < w.heap.size) (hb4 : b4 < w.heap.size) (hn : o.ln.length ≤ 1048576 ∧ o.ta.length ≤ 1048576 ∧ o.ho.length ≤ 1048576 ∧ o.od.length ≤ 1048576 ∧ o.to.length ≤ 1048576) (hs : ∀ i (h : i < o.ln.length), 1 ≤ o.ln[i].l.length ∧ o.ln[i].l.length ≤ 1048576) (hr : ∀ i (h : i < o.od.length), o.od[i].l.length ≤ 1048576 ∧ o.od[i].h.nm.size ≤ 1048576) (I0 : Trains w (some ⟨b0, p0, none⟩) o.ln) (I1 : Tf.Edges w (some ⟨b1, p1, none⟩) o.ta) (I2 : Se.Holds w (some ⟨b2, p2, none⟩) o.ho) (I3 : OrdS w b3 p3 o.od) (I4 : Rp.Replys w (some ⟨b4, p4, none⟩) o.to) :
    Calls Tryz.prog 56 #[.agg #[.slice (some ⟨b0, p0, none⟩) o.ln.length k0, .slice (some ⟨b1, p1, none⟩) o.ta.length k1, .slice (some ⟨b2, p2, none⟩) o.ho.length k2, .slice (some ⟨b3, p3, none⟩) o.od.length k3, .slice (some ⟨b4, p4, none⟩) o.to.length k4, .int .i64 o.td]] w fun e w' => ∃ (x : Pl) (m0 m1 m2 m3 m4 m5 : Nat) (gf cf hf : Nat → Nat), e = .returned (.agg #[.slice x.a2 o.ho.length x.c2, .slice x.a0 o.ln.length x.c0, .slice x.a1 o.ta.length x.c1, .slice x.a3 o.od.length x.c3, .slice x.a4 o.to.length x.c4, .int .i64 o.td]) ∧ w.heap.size ≤ m0 ∧ OG w' m0 m1 m2 m3 m4 m5 x o gf cf hf ∧ Below w.heap.size w w' := by
  have j0 : ((w.alloc (.cells #[.slice (some ⟨b0, p0, none⟩) o.ln.length k0, .slice (some ⟨b1, p1, none⟩) o.ta.length k1, .slice (some ⟨b2, p2, none⟩) o.ho.length k2, .slice (some ⟨b3, p3, none⟩) o.od.length k3, .slice (some ⟨b4, p4, none⟩) o.to.length k4, .int .i64 o.td] 36)).alloc (.cells #[.slice none 0 0, .slice none 0 0, .slice none 0 0, .slice none 0 0, .slice none 0 0, .int .i64 0] 108)).heap[w.heap.size]? = some (.cells #[.slice (some ⟨b0, p0, none⟩) o.ln.length k0, .slice (some ⟨b1, p1, none⟩) o.ta.length k1, .slice (some ⟨b2, p2, none⟩) o.ho.length k2, .slice (some ⟨b3, p3, none⟩) o.od.length k3, .slice (some ⟨b4, p4, none⟩) o.to.length k4, .int .i64 o.td] 36) := heap_old (heap_new w _) _
  have j1 : ((w.alloc (.cells #[.slice (some ⟨b0, p0, none⟩) o.ln.length k0, .slice (some ⟨b1, p1, none⟩) o.ta.length k1, .slice (some ⟨b2, p2, none⟩) o.ho.length k2, .slice (some ⟨b3, p3, none⟩) o.od.length k3, .slice (some ⟨b4, p4, none⟩) o.to.length k4, .int .i64 o.td] 36)).alloc (.cells #[.slice none 0 0, .slice none 0 0, .slice none 0 0, .slice none 0 0, .slice none 0 0, .int .i64 0] 108)).heap[w.heap.size + 1]? = some (.cells #[.slice none 0 0, .slice none 0 0, .slice none 0 0, .slice none 0 0, .slice none 0 0, .int .i64 0] 108) := by rw [← show (w.alloc (.cells #[.slice (some ⟨b0, p0, none⟩) o.ln.length k0, .slice (some ⟨b1, p1, none⟩) o.ta.length k1, .slice (some ⟨b2, p2, none⟩) o.ho.length k2, .slice (some ⟨b3, p3, none⟩) o.od.length k3, .slice (some ⟨b4, p4, none⟩) o.to.length k4, .int .i64 o.td] 36)).heap.size = w.heap.size + 1 from Array.size_push ..]; exact heap_new _ _
  have N : Below w.heap.size w ((w.alloc (.cells #[.slice (some ⟨b0, p0, none⟩) o.ln.length k0, .slice (some ⟨b1, p1, none⟩) o.ta.length k1, .slice (some ⟨b2, p2, none⟩) o.ho.length k2, .slice (some ⟨b3, p3, none⟩) o.od.length k3, .slice (some ⟨b4, p4, none⟩) o.to.length k4, .int .i64 o.td] 36)).alloc (.cells #[.slice none 0 0, .slice none 0 0, .slice none 0 0, .slice none 0 0, .slice none 0 0, .int .i64 0] 108)) := join_below (new_below _ _) (new_below _ _)
  go_enter Tryz.func56, Tryz.ntmps56
  go_wp2
  generalize ((w.alloc (.cells #[.slice (some ⟨b0, p0, none⟩) o.ln.length k0, .slice (some ⟨b1, p1, none⟩) o.ta.length k1, .slice (some ⟨b2, p2, none⟩) o.ho.length k2, .slice (some ⟨b3, p3, none⟩) o.od.length k3, .slice (some ⟨b4, p4, none⟩) o.to.length k4, .int .i64 o.td] 36)).alloc (.cells #[.slice none 0 0, .slice none 0 0, .slice none 0 0, .slice none 0 0, .slice none 0 0, .int .i64 0] 108)) = v0 at *
  have hv0 : w.heap.size + 1 < v0.heap.size := lt_of j1
  have HH : Hid (∀ W, Below v0.heap.size v0 W → _) := fun W (L : Below v0.heap.size v0 W) => clone_holds b2 p2 o.ho.length k2 W hn.2.2.1 (by have := L.size; omega) (holds_cells ((I2.on N).on L))
  have HL : Hid (∀ W, Below v0.heap.size v0 W → _) := fun W (L : Below v0.heap.size v0 W) => copyLines_val b0 p0 o.ln k0 W hn.1 (by have := L.size; omega) hs ((I0.on N).on L)
  have HE : Hid (∀ W, Below v0.heap.size v0 W → _) := fun W (L : Below v0.heap.size v0 W) => clone_edges b1 p1 o.ta.length k1 W hn.2.1 (by have := L.size; omega) (edges_cells ((I1.on N).on L))
  have HO : Hid (∀ W, Below v0.heap.size v0 W → _) := fun W (L : Below v0.heap.size v0 W) => copyOrders_val HCS b3 p3 o.od k3 W hn.2.2.2.1 (by have := L.size; omega) hr ((I3.on N (by omega)).on L (by omega))
  have HR : Hid (∀ W, Below v0.heap.size v0 W → _) := fun W (L : Below v0.heap.size v0 W) => clone_reps b4 p4 o.to.length k4 W hn.2.2.2.2 (by have := L.size; omega) (reps_cells ((I4.on N).on L))
  have HFH : Hid (∀ (W W1 : World) (a : Option Addr), Below v0.heap.size v0 W → Cloned W W1 a b2 p2 o.ho.length 7 → FlH W1 W.heap.size W1.heap.size a o.ho) := fun W W1 a L C => FlH.of ((I2.on N).on L) C
  have HFE : Hid (∀ (W W1 : World) (a : Option Addr), Below v0.heap.size v0 W → Cloned W W1 a b1 p1 o.ta.length 3 → FlE W1 W.heap.size W1.heap.size a o.ta) := fun W W1 a L C => FlE.of ((I1.on N).on L) C
  have HFR : Hid (∀ (W W1 : World) (a : Option Addr), Below v0.heap.size v0 W → Cloned W W1 a b4 p4 o.to.length 4 → FlR W1 W.heap.size W1.heap.size a o.to) := fun W W1 a L C => FlR.of ((I4.on N).on L) C
  clear I0 I1 I2 I3 I4 hs hr hn HCS hb0 hb1 hb2 hb3 hb4
  have s0 : v0.cell? ⟨w.heap.size, 0, none⟩ = some (.slice (some ⟨b0, p0, none⟩) o.ln.length k0) := cell_at j0 0
  have s1 : v0.cell? ⟨w.heap.size, 1, none⟩ = some (.slice (some ⟨b1, p1, none⟩) o.ta.length k1) := cell_at j0 1
  have s2 : v0.cell? ⟨w.heap.size, 2, none⟩ = some (.slice (some ⟨b2, p2, none⟩) o.ho.length k2) := cell_at j0 2
  have s3 : v0.cell? ⟨w.heap.size, 3, none⟩ = some (.slice (some ⟨b3, p3, none⟩) o.od.length k3) := cell_at j0 3
  have s4 : v0.cell? ⟨w.heap.size, 4, none⟩ = some (.slice (some ⟨b4, p4, none⟩) o.to.length k4) := cell_at j0 4
  have s5 : v0.cell? ⟨w.heap.size, 5, none⟩ = some (.int .i64 o.td) := cell_at j0 5
  go_region_held3 (fun w' => w'.cell? ⟨w.heap.size, 0, none⟩ = some (.slice (some ⟨b0, p0, none⟩) o.ln.length k0) ∧ w'.cell? ⟨w.heap.size, 1, none⟩ = some (.slice (some ⟨b1, p1, none⟩) o.ta.length k1) ∧ w'.cell? ⟨w.heap.size, 2, none⟩ = some (.slice (some ⟨b2, p2, none⟩) o.ho.length k2) ∧ w'.cell? ⟨w.heap.size, 3, none⟩ = some (.slice (some ⟨b3, p3, none⟩) o.od.length k3) ∧ w'.cell? ⟨w.heap.size, 4, none⟩ = some (.slice (some ⟨b4, p4, none⟩) o.to.length k4) ∧ w'.cell? ⟨w.heap.size, 5, none⟩ = some (.int .i64 o.td)) (go_keep) (first
    | (go_at_call 86; (with_reducible refine (HH.out _ ?_).mono ?_); (first | with_reducible exact Below.refl _ _ | with_reducible exact (Below.refl _ _).drew); rintro e y1 ⟨a2, c2, rfl, C1, L0⟩; have Ly1 : Below v0.heap.size v0 y1 := (by first | with_reducible exact L0 | exact ((Below.refl _ _).drew).trans L0); have My1 : Below v0.heap.size v0 y1 := Ly1; have ny1 := kept Ly1 (lt_of j0) j0; have qy1 := kept Ly1 (lt_of j1) j1; have t0 : y1.cell? ⟨w.heap.size, 0, none⟩ = some (.slice (some ⟨b0, p0, none⟩) o.ln.length k0) := cell_at ny1 0; have t1 : y1.cell? ⟨w.heap.size, 1, none⟩ = some (.slice (some ⟨b1, p1, none⟩) o.ta.length k1) := cell_at ny1 1; have t2 : y1.cell? ⟨w.heap.size, 2, none⟩ = some (.slice (some ⟨b2, p2, none⟩) o.ho.length k2) := cell_at ny1 2; have t3 : y1.cell? ⟨w.heap.size, 3, none⟩ = some (.slice (some ⟨b3, p3, none⟩) o.od.length k3) := cell_at ny1 3; have t4 : y1.cell? ⟨w.heap.size, 4, none⟩ = some (.slice (some ⟨b4, p4, none⟩) o.to.length k4) := cell_at ny1 4; have t5 : y1.cell? ⟨w.heap.size, 5, none⟩ = some (.int .i64 o.td) := cell_at ny1 5; clear L0)
    | (go_at_call 87; (with_reducible refine (HL.out _ ?_).mono ?_); (first | with_reducible exact My1 | with_reducible exact My1.drew); rintro e y2 ⟨a0, c0, gf, cf, rfl, T2, L0⟩; have Ly2 : Below y1.heap.size y1 y2 := (by first | with_reducible exact L0 | exact ((Below.refl _ _).drew).trans L0); have My2 : Below v0.heap.size v0 y2 := join_below My1 Ly2; have ny2 := kept Ly2 (lt_of ny1) ny1; have qy2 := kept Ly2 (lt_of qy1) qy1; have t0 : y2.cell? ⟨w.heap.size, 0, none⟩ = some (.slice (some ⟨b0, p0, none⟩) o.ln.length k0) := cell_at ny2 0; have t1 : y2.cell? ⟨w.heap.size, 1, none⟩ = some (.slice (some ⟨b1, p1, none⟩) o.ta.length k1) := cell_at ny2 1; have t2 : y2.cell? ⟨w.heap.size, 2, none⟩ = some (.slice (some ⟨b2, p2, none⟩) o.ho.length k2) := cell_at ny2 2; have t3 : y2.cell? ⟨w.heap.size, 3, none⟩ = some (.slice (some ⟨b3, p3, none⟩) o.od.length k3) := cell_at ny2 3; have t4 : y2.cell? ⟨w.heap.size, 4, none⟩ = some (.slice (some ⟨b4, p4, none⟩) o.to.length k4) := cell_at ny2 4; have t5 : y2.cell? ⟨w.heap.size, 5, none⟩ = some (.int .i64 o.td) := cell_at ny2 5; clear L0)
    | (go_at_call 88; (with_reducible refine (HE.out _ ?_).mono ?_); (first | with_reducible exact My2 | with_reducible exact My2.drew); rintro e y3 ⟨a1, c1, rfl, C3, L0⟩; have Ly3 : Below y2.heap.size y2 y3 := (by first | with_reducible exact L0 | exact ((Below.refl _ _).drew).trans L0); have My3 : Below v0.heap.size v0 y3 := join_below My2 Ly3; have ny3 := kept Ly3 (lt_of ny2) ny2; have qy3 := kept Ly3 (lt_of qy2) qy2; have t0 : y3.cell? ⟨w.heap.size, 0, none⟩ = some (.slice (some ⟨b0, p0, none⟩) o.ln.length k0) := cell_at ny3 0; have t1 : y3.cell? ⟨w.heap.size, 1, none⟩ = some (.slice (some ⟨b1, p1, none⟩) o.ta.length k1) := cell_at ny3 1; have t2 : y3.cell? ⟨w.heap.size, 2, none⟩ = some (.slice (some ⟨b2, p2, none⟩) o.ho.length k2) := cell_at ny3 2; have t3 : y3.cell? ⟨w.heap.size, 3, none⟩ = some (.slice (some ⟨b3, p3, none⟩) o.od.length k3) := cell_at ny3 3; have t4 : y3.cell? ⟨w.heap.size, 4, none⟩ = some (.slice (some ⟨b4, p4, none⟩) o.to.length k4) := cell_at ny3 4; have t5 : y3.cell? ⟨w.heap.size, 5, none⟩ = some (.int .i64 o.td) := cell_at ny3 5; clear L0)
    | (go_at_call 89; (with_reducible refine (HO.out _ ?_).mono ?_); (first | with_reducible exact My3 | with_reducible exact My3.drew); rintro e y4 ⟨a3, c3, hf, rfl, T4, L0⟩; have Ly4 : Below y3.heap.size y3 y4 := (by first | with_reducible exact L0 | exact ((Below.refl _ _).drew).trans L0); have My4 : Below v0.heap.size v0 y4 := join_below My3 Ly4; have ny4 := kept Ly4 (lt_of ny3) ny3; have qy4 := kept Ly4 (lt_of qy3) qy3; have t0 : y4.cell? ⟨w.heap.size, 0, none⟩ = some (.slice (some ⟨b0, p0, none⟩) o.ln.length k0) := cell_at ny4 0; have t1 : y4.cell? ⟨w.heap.size, 1, none⟩ = some (.slice (some ⟨b1, p1, none⟩) o.ta.length k1) := cell_at ny4 1; have t2 : y4.cell? ⟨w.heap.size, 2, none⟩ = some (.slice (some ⟨b2, p2, none⟩) o.ho.length k2) := cell_at ny4 2; have t3 : y4.cell? ⟨w.heap.size, 3, none⟩ = some (.slice (some ⟨b3, p3, none⟩) o.od.length k3) := cell_at ny4 3; have t4 : y4.cell? ⟨w.heap.size, 4, none⟩ = some (.slice (some ⟨b4, p4, none⟩) o.to.length k4) := cell_at ny4 4; have t5 : y4.cell? ⟨w.heap.size, 5, none⟩ = some (.int .i64 o.td) := cell_at ny4 5; clear L0)
    | (go_at_call 90; (with_reducible refine (HR.out _ ?_).mono ?_); (first | with_reducible exact My4 | with_reducible exact My4.drew); rintro e y5 ⟨a4, c4, rfl, C5, L0⟩; have Ly5 : Below y4.heap.size y4 y5 := (by first | with_reducible exact L0 | exact ((Below.refl _ _).drew).trans L0); have My5 : Below v0.heap.size v0 y5 := join_below My4 Ly5; have ny5 := kept Ly5 (lt_of ny4) ny4; have qy5 := kept Ly5 (lt_of qy4) qy4; have t0 : y5.cell? ⟨w.heap.size, 0, none⟩ = some (.slice (some ⟨b0, p0, none⟩) o.ln.length k0) := cell_at ny5 0; have t1 : y5.cell? ⟨w.heap.size, 1, none⟩ = some (.slice (some ⟨b1, p1, none⟩) o.ta.length k1) := cell_at ny5 1; have t2 : y5.cell? ⟨w.heap.size, 2, none⟩ = some (.slice (some ⟨b2, p2, none⟩) o.ho.length k2) := cell_at ny5 2; have t3 : y5.cell? ⟨w.heap.size, 3, none⟩ = some (.slice (some ⟨b3, p3, none⟩) o.od.length k3) := cell_at ny5 3; have t4 : y5.cell? ⟨w.heap.size, 4, none⟩ = some (.slice (some ⟨b4, p4, none⟩) o.to.length k4) := cell_at ny5 4; have t5 : y5.cell? ⟨w.heap.size, 5, none⟩ = some (.int .i64 o.td) := cell_at ny5 5; clear L0; have z0 : y5.cell? ⟨w.heap.size + 1, 0, none⟩ = some (.slice none 0 0) := cell_at qy5 0; have z1 : y5.cell? ⟨w.heap.size + 1, 1, none⟩ = some (.slice none 0 0) := cell_at qy5 1; have z2 : y5.cell? ⟨w.heap.size + 1, 2, none⟩ = some (.slice none 0 0) := cell_at qy5 2; have z3 : y5.cell? ⟨w.heap.size + 1, 3, none⟩ = some (.slice none 0 0) := cell_at qy5 3; have z4 : y5.cell? ⟨w.heap.size + 1, 4, none⟩ = some (.slice none 0 0) := cell_at qy5 4; have z5 : y5.cell? ⟨w.heap.size + 1, 5, none⟩ = some (.int .i64 0) := cell_at qy5 5; have f0 : y5.frozen? ⟨w.heap.size + 1, 0, none⟩ = false := frozen_at qy5 0; have f1 : y5.frozen? ⟨w.heap.size + 1, 1, none⟩ = false := frozen_at qy5 1; have f2 : y5.frozen? ⟨w.heap.size + 1, 2, none⟩ = false := frozen_at qy5 2; have f3 : y5.frozen? ⟨w.heap.size + 1, 3, none⟩ = false := frozen_at qy5 3; have f4 : y5.frozen? ⟨w.heap.size + 1, 4, none⟩ = false := frozen_at qy5 4; have f5 : y5.frozen? ⟨w.heap.size + 1, 5, none⟩ = false := frozen_at qy5 5))
  all_goals
    go_wp2
    refine bodyPost_ret (v := .agg #[.slice a2 o.ho.length c2, .slice a0 o.ln.length c0, .slice a1 o.ta.length c1, .slice a3 o.od.length c3, .slice a4 o.to.length c4, .int .i64 o.td]) (by simp [results, Tryz.results56, go_sem, z0, z1, z2, z3, z4, z5]) rfl ?_
    have G1 := HFH.out v0 y1 a2 (Below.refl _ _) C1
    have G3 := HFE.out y2 y3 a1 My2 C3
    have G5 := HFR.out y4 y5 a4 My4 C5
    have h1 : v0.heap.size ≤ y1.heap.size := Ly1.size
    have h2 : y1.heap.size ≤ y2.heap.size := Ly2.size
    have h3 : y2.heap.size ≤ y3.heap.size := Ly3.size
    have h4 : y3.heap.size ≤ y4.heap.size := Ly4.size
    have h5 : y4.heap.size ≤ y5.heap.size := Ly5.size
    have e2 : Below y1.heap.size y1 y5 := join_below (join_below (join_below Ly2 Ly3) Ly4) Ly5
    have e3 : Below y2.heap.size y2 y5 := join_below (join_below Ly3 Ly4) Ly5
    have e4 : Below y3.heap.size y3 y5 := join_below Ly4 Ly5
    have GG : OG y5 v0.heap.size y1.heap.size y2.heap.size y3.heap.size y4.heap.size y5.heap.size ⟨a0, a1, a2, a3, a4, c0, c1, c2, c3, c4⟩ o gf cf hf := ⟨G1.kh ((Kh.refl _ _).of e2) (Nat.le_refl _), (Lt.lm T2).kh ((Kh.refl _ _).of e3) (Nat.le_refl _), G3.kh ((Kh.refl _ _).of e4) (Nat.le_refl _), (LtO.lm T4).kh ((Kh.refl _ _).of Ly5) (Nat.le_refl _), G5, h1, h2, h3, h4, h5, Nat.le_refl _⟩
    refine ⟨⟨a0, a1, a2, a3, a4, c0, c1, c2, c3, c4⟩, _, _, _, _, _, _, gf, cf, hf, rfl, by omega, GG.kh ?_, ?_⟩
    · (repeat' (first | with_reducible exact Kh.refl _ _ | with_reducible apply Kh.setG | with_reducible apply Kh.drewG)) <;> omega
    · (repeat' (first | with_reducible exact join_below N My5 | with_reducible apply Below.setCell | with_reducible apply Below.drew)) <;> first | (simp; done) | (simp; omega)

end Of
end Go.Proofs.YtehmlnojjfeheaaGreat

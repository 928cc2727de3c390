/- Contracts of the laws' own helpers over centres: their size, a copy, two of them held against each other, marked and held against the marks. -/
import Derived.Test.YtbmfhdlbbaabgaaHnOff
import Derived.Test.YtbmfhdlbbaabgaaHnOpen
import Derived.Test.YtbmfhdlbbaabgaaHnMark
import Derived.Lib.SmallJoins
namespace Go.Proofs.Ytbmfhdlbbaabgaa
namespace Hn
open Go.ChangeShapes Go.WideShapes Go.ChangeAt Go.RowKit Go.Joins
open Pk (new_below join_below cell_at heap_new frozen_at lt_of kept heap_old Drawn info_of Room)
set_option linter.unusedSimpArgs false
set_option linter.unusedVariables false

/-- What a centre holds. -/
structure Ctr where
  ve : Int
  ol : List Int
  sl : List Ct

/-- Where its lists lie. -/
structure Pl where
  a : Option Addr
  c : Nat
  b : Option Addr
  d : Nat

/-- It as a value, and as a block. -/
abbrev ceV (x : Pl) (o : Ctr) : Value := .agg #[.int .i64 o.ve, .slice x.a o.ol.length x.c, .slice x.b o.sl.length x.d]
abbrev ceB (x : Pl) (o : Ctr) (t : TypeId) : Obj := .cells #[.int .i64 o.ve, .slice x.a o.ol.length x.c, .slice x.b o.sl.length x.d] t

/-- Its lists lie there. -/
structure In (w : World) (x : Pl) (o : Ctr) : Prop where
  off : Ints w x.a o.ol
  seen : Controls w x.b o.sl

theorem In.on {w w1 : World} {x : Pl} {o : Ctr} (h : In w x o) (L : Below w.heap.size w w1) : In w1 x o := ⟨h.off.on L, h.seen.on L⟩

theorem named {P : Program} {f : FuncId} {args : Array Value} {w : World} {post : Ending → World → Prop} (h : ∀ W, W = w → Calls P f args W post) : Calls P f args w post := h w rfl

theorem h_set {w : World} {c i : Nat} {cs : Array Value} {t : TypeId} {f : Nat × Nat} (h : w.heap[c]? = some (.cells cs t f)) (u : Value) : (w.setCell ⟨c, i, none⟩ u).heap[c]? = some (.cells (cs.setIfInBounds i u) t f) := by
  unfold World.setCell
  simp [Array.getElem?_modify, h]

theorem h_other {w : World} {c g i : Nat} {x : Obj} (h : w.heap[c]? = some x) (hne : c ≠ g) (u : Value) : (w.setCell ⟨g, i, none⟩ u).heap[c]? = some x := by
  rw [Below.heap_setCell w ⟨g, i, none⟩ u c hne]
  exact h

theorem two_blocks (w : World) (a b : Obj) : ((w.alloc a).alloc b).heap[w.heap.size]? = some a ∧ ((w.alloc a).alloc b).heap[w.heap.size + 1]? = some b ∧ ((w.alloc a).alloc b).heap.size = w.heap.size + 1 + 1 := by
  have e1 : (w.alloc a).heap.size = w.heap.size + 1 := Array.size_push ..
  refine ⟨heap_old (heap_new w a) b, ?_, ?_⟩
  · rw [← e1]; exact heap_new (w.alloc a) b
  · rw [← e1]; exact Array.size_push ..

theorem three_blocks (w : World) (a b c : Obj) : (((w.alloc a).alloc b).alloc c).heap[w.heap.size]? = some a ∧ (((w.alloc a).alloc b).alloc c).heap[w.heap.size + 1]? = some b ∧ (((w.alloc a).alloc b).alloc c).heap[w.heap.size + 1 + 1]? = some c := by
  have e1 : (w.alloc a).heap.size = w.heap.size + 1 := Array.size_push ..
  have e2 : ((w.alloc a).alloc b).heap.size = w.heap.size + 1 + 1 := by rw [← e1]; exact Array.size_push ..
  refine ⟨heap_old (heap_old (heap_new w a) b) c, ?_, ?_⟩
  · rw [← e1]; exact heap_old (heap_new (w.alloc a) b) c
  · rw [← e2]; exact heap_new ((w.alloc a).alloc b) c

/-- Its lists lie in the blocks g1 and g2, from lo on, which are its own. -/
structure Mine (lo : Nat) (w : World) (x : Pl) (o : Ctr) (g1 g2 : Nat) : Prop where
  ne : g1 ≠ g2
  lo1 : lo ≤ g1
  lo2 : lo ≤ g2
  off : o.ol.length = 0 ∨ (x.a = some ⟨g1, 0, none⟩ ∧ g1 < w.heap.size ∧ Room w g1 o.ol.length)
  seen : o.sl.length = 0 ∨ (x.b = some ⟨g2, 0, none⟩ ∧ g2 < w.heap.size ∧ Room w g2 (o.sl.length * 6))

theorem Mine.on {lo : Nat} {w w1 : World} {x : Pl} {o : Ctr} {g1 g2 : Nat} (h : Mine lo w x o g1 g2) (L : Below w.heap.size w w1) : Mine lo w1 x o g1 g2 :=
  ⟨h.ne, h.lo1, h.lo2, h.off.imp_right fun ⟨h1, h2, h3⟩ => ⟨h1, Nat.lt_of_lt_of_le h2 L.size, h3.on L h2⟩, h.seen.imp_right fun ⟨h1, h2, h3⟩ => ⟨h1, Nat.lt_of_lt_of_le h2 L.size, h3.on L h2⟩⟩

/-- Of the blocks that there were all are kept but some from lo up to hi. -/
structure Brd (lo hi : Nat) (w w' : World) : Prop where
  os : w'.os = w.os
  tape : w'.tape = w.tape
  output : w'.output = w.output
  size : w.heap.size ≤ w'.heap.size
  block : ∀ b, b < w.heap.size → b < lo ∨ hi ≤ b → w'.heap[b]? = w.heap[b]?

theorem Brd.of {lo hi : Nat} {w w' : World} (h : Below w.heap.size w w') : Brd lo hi w w' := ⟨h.os, h.tape, h.output, h.size, fun b hb _ => h.block b hb⟩

theorem Brd.band {lo hi lo' hi' : Nat} {w w' : World} (h : Band lo' hi' w w') (h1 : lo ≤ lo') (h2 : hi' ≤ hi) : Brd lo hi w w' := ⟨h.os, h.tape, h.output, Nat.le_of_eq h.size.symm, fun b _ hb => h.block b (by omega)⟩

theorem Brd.trans {lo hi : Nat} {a b c : World} (h : Brd lo hi a b) (k : Brd lo hi b c) : Brd lo hi a c :=
  ⟨k.os.trans h.os, k.tape.trans h.tape, k.output.trans h.output, Nat.le_trans h.size k.size, fun i hi h' => (k.block i (Nat.lt_of_lt_of_le hi h.size) h').trans (h.block i hi h')⟩

theorem Brd.below {lo hi B : Nat} {a w w' : World} (h : Brd lo hi w w') (L : Below B a w) (hB : B ≤ lo) (hs : B ≤ a.heap.size) : Below B a w' :=
  ⟨h.os.trans L.os, h.tape.trans L.tape, h.output.trans L.output, Nat.le_trans L.size h.size, fun k hk => (h.block k (Nat.lt_of_lt_of_le (Nat.lt_of_lt_of_le hk hs) L.size) (Or.inl (by omega))).trans (L.block k hk)⟩

/-- Its lists lie below lo or from hi on. -/
def Far (lo hi : Nat) (x : Pl) (o : Ctr) : Prop := (∀ b u, x.a = some ⟨b, u, none⟩ → o.ol ≠ [] → b < lo ∨ hi ≤ b) ∧ ∀ b u, x.b = some ⟨b, u, none⟩ → o.sl ≠ [] → b < lo ∨ hi ≤ b

theorem Far.of {lo hi : Nat} {w : World} {x : Pl} {o : Ctr} (h : In w x o) (hl : w.heap.size ≤ lo) : Far lo hi x o := by
  refine ⟨fun b u e hne => ?_, fun b u e hne => ?_⟩
  · rcases h.off with h0 | ⟨b', o', e', hb, -⟩
    · exact absurd h0 hne
    · rw [e] at e'
      simp only [Option.some.injEq, Addr.mk.injEq] at e'
      omega
  · rcases h.seen with h0 | ⟨b', o', e', hb, -⟩
    · exact absurd h0 hne
    · rw [e] at e'
      simp only [Option.some.injEq, Addr.mk.injEq] at e'
      omega

theorem Far.mine {lo hi : Nat} {w : World} {x : Pl} {o : Ctr} {g1 g2 : Nat} (h : Mine hi w x o g1 g2) : Far lo hi x o := by
  refine ⟨fun b u e hne => ?_, fun b u e hne => ?_⟩
  · rcases h.off with h0 | ⟨h1, -, -⟩
    · exact absurd (List.eq_nil_of_length_eq_zero h0) hne
    · rw [e] at h1
      simp only [Option.some.injEq, Addr.mk.injEq] at h1
      have := h.lo1
      omega
  · rcases h.seen with h0 | ⟨h1, -, -⟩
    · exact absurd (List.eq_nil_of_length_eq_zero h0) hne
    · rw [e] at h1
      simp only [Option.some.injEq, Addr.mk.injEq] at h1
      have := h.lo2
      omega

theorem Ints.brd {lo hi : Nat} {w w1 : World} {a : Option Addr} {zs : List Int} (h : Ints w a zs) (L : Brd lo hi w w1) (ha : ∀ b o, a = some ⟨b, o, none⟩ → zs ≠ [] → b < lo ∨ hi ≤ b) : Ints w1 a zs := by
  rcases h with h | ⟨b, o, rfl, hlt, hc⟩
  · exact Or.inl h
  · by_cases hz : zs = []
    · exact Or.inl hz
    · exact Or.inr ⟨b, o, rfl, Nat.lt_of_lt_of_le hlt L.size, fun i hi => by rw [World.cell?_of_block (a := ⟨b, o + i, none⟩) (L.block b hlt (ha b o rfl hz))]; exact hc i hi⟩

theorem Controls.brd {lo hi : Nat} {w w1 : World} {a : Option Addr} {ps : List Ct} (h : Controls w a ps) (L : Brd lo hi w w1) (ha : ∀ b o, a = some ⟨b, o, none⟩ → ps ≠ [] → b < lo ∨ hi ≤ b) : Controls w1 a ps := by
  rcases h with h | ⟨b, o, rfl, hlt, hc⟩
  · exact Or.inl h
  · by_cases hz : ps = []
    · exact Or.inl hz
    · have hb := L.block b hlt (ha b o rfl hz)
      exact Or.inr ⟨b, o, rfl, Nat.lt_of_lt_of_le hlt L.size, fun i hi => by rw [World.cell?_of_block (a := ⟨b, o + i * 6, none⟩) hb, World.cell?_of_block (a := ⟨b, o + i * 6 + 1, none⟩) hb, World.cell?_of_block (a := ⟨b, o + i * 6 + 2, none⟩) hb, World.cell?_of_block (a := ⟨b, o + i * 6 + 3, none⟩) hb, World.cell?_of_block (a := ⟨b, o + i * 6 + 4, none⟩) hb, World.cell?_of_block (a := ⟨b, o + i * 6 + 5, none⟩) hb]; exact hc i hi⟩

theorem In.brd {lo hi : Nat} {w w1 : World} {x : Pl} {o : Ctr} (h : In w x o) (L : Brd lo hi w w1) (F : Far lo hi x o) : In w1 x o := ⟨h.off.brd L F.1, h.seen.brd L F.2⟩

theorem Room.brd {lo hi : Nat} {w w1 : World} {g m : Nat} (h : Room w g m) (L : Brd lo hi w w1) (h0 : g < w.heap.size) (hg : g < lo ∨ hi ≤ g) : Room w1 g m := by
  intro j hj
  rw [World.cell?_of_block (a := ⟨g, j, none⟩) (L.block g h0 hg), World.frozen?_of_block (a := ⟨g, j, none⟩) (L.block g h0 hg)]
  exact h j hj

theorem Mine.brd {lo hi lo' : Nat} {w w1 : World} {x : Pl} {o : Ctr} {g1 g2 : Nat} (h : Mine lo' w x o g1 g2) (L : Brd lo hi w w1) (hh : hi ≤ lo') : Mine lo' w1 x o g1 g2 :=
  ⟨h.ne, h.lo1, h.lo2, h.off.imp_right fun ⟨h1, h2, h3⟩ => ⟨h1, Nat.lt_of_lt_of_le h2 L.size, Room.brd h3 L h2 (Or.inr (Nat.le_trans hh h.lo1))⟩, h.seen.imp_right fun ⟨h1, h2, h3⟩ => ⟨h1, Nat.lt_of_lt_of_le h2 L.size, Room.brd h3 L h2 (Or.inr (Nat.le_trans hh h.lo2))⟩⟩

/-- The marks of a centre. -/
structure Mks (w : World) (o : Ctr) (g1 g2 : Nat) : Prop where
  off : Mkd 1 w g1 o.ol.length
  seen : Marked (1 + (o.ol.length : Int)) w g2 o.sl.length
  lt1 : o.ol.length = 0 ∨ g1 < w.heap.size
  lt2 : o.sl.length = 0 ∨ g2 < w.heap.size

theorem Mks.on {w w1 : World} {o : Ctr} {g1 g2 : Nat} (h : Mks w o g1 g2) (L : Below w.heap.size w w1) : Mks w1 o g1 g2 := by
  refine ⟨?_, ?_, h.lt1.imp_right fun k => Nat.lt_of_lt_of_le k L.size, h.lt2.imp_right fun k => Nat.lt_of_lt_of_le k L.size⟩
  · rcases h.lt1 with h0 | h0
    · intro i hi; omega
    · exact h.off.on L h0
  · rcases h.lt2 with h0 | h0
    · intro i hi; omega
    · exact h.seen.on L h0

theorem Brd.one {lo hi g : Nat} {w w' : World} (h : Band g (g + 1) w w') (hc : w.heap.size ≤ g ∨ (lo ≤ g ∧ g < hi)) : Brd lo hi w w' := ⟨h.os, h.tape, h.output, Nat.le_of_eq h.size.symm, fun b h0 hb => h.block b (by omega)⟩

theorem Mkd.band {w w1 : World} {g n lo hi : Nat} {z : Int} (h : Mkd z w g n) (L : Band lo hi w w1) (hg : g < lo ∨ hi ≤ g) : Mkd z w1 g n := by
  intro i hi'
  rw [World.cell?_of_block (a := ⟨g, i, none⟩) (L.block g hg)]
  exact h i hi'

end Hn
end Go.Proofs.Ytbmfhdlbbaabgaa

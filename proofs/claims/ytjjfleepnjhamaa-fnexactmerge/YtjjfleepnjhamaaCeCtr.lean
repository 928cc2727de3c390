/- Contracts of the laws' own helpers over centres: their size, a copy, two of them held against each other, marked and held against the marks. -/
import Derived.Test.YtjjfleepnjhamaaHnOff
import Derived.Test.YtjjfleepnjhamaaHnOpen
import Derived.Test.YtjjfleepnjhamaaHnMark
import Derived.Lib.SmallJoins
namespace Go.Proofs.Ytjjfleepnjhamaa
namespace Hn
open Go.ChangeShapes Go.WideShapes Go.ChangeAt Go.RowKit Go.Joins
open Pk (new_below join_below cell_at heap_new frozen_at lt_of kept heap_old Drawn info_of Room)
set_option linter.unusedSimpArgs false
set_option linter.unusedVariables false

/-- What a centre holds. -/
structure Ctr where
  ve : Int
  ol : List Int
  sl : List Ct

/-- Where its lists lie. -/
structure Pl where
  a : Option Addr
  c : Nat
  b : Option Addr
  d : Nat

/-- It as a value, and as a block. -/
abbrev ceV (x : Pl) (o : Ctr) : Value := .agg #[.int .i64 o.ve, .slice x.a o.ol.length x.c, .slice x.b o.sl.length x.d]
abbrev ceB (x : Pl) (o : Ctr) (t : TypeId) : Obj := .cells #[.int .i64 o.ve, .slice x.a o.ol.length x.c, .slice x.b o.sl.length x.d] t

/-- Its lists lie there. -/
structure In (w : World) (x : Pl) (o : Ctr) : Prop where
  off : Ints w x.a o.ol
  seen : Controls w x.b o.sl

theorem In.on {w w1 : World} {x : Pl} {o : Ctr} (h : In w x o) (L : Below w.heap.size w w1) : In w1 x o := ⟨h.off.on L, h.seen.on L⟩

theorem named {P : Program} {f : FuncId} {args : Array Value} {w : World} {post : Ending → World → Prop} (h : ∀ W, W = w → Calls P f args W post) : Calls P f args w post := h w rfl

theorem h_set {w : World} {c i : Nat} {cs : Array Value} {t : TypeId} {f : Nat × Nat} (h : w.heap[c]? = some (.cells cs t f)) (u : Value) : (w.setCell ⟨c, i, none⟩ u).heap[c]? = some (.cells (cs.setIfInBounds i u) t f) := by
  unfold World.setCell
  simp [Array.getElem?_modify, h]

theorem h_other {w : World} {c g i : Nat} {x : Obj} (h : w.heap[c]? = some x) (hne : c ≠ g) (u : Value) : (w.setCell ⟨g, i, none⟩ u).heap[c]? = some x := by
  rw [Below.heap_setCell w ⟨g, i, none⟩ u c hne]
  exact h

theorem two_blocks (w : World) (a b : Obj) : ((w.alloc a).alloc b).heap[w.heap.size]? = some a ∧ ((w.alloc a).alloc b).heap[w.heap.size + 1]? = some b ∧ ((w.alloc a).alloc b).heap.size = w.heap.size + 1 + 1 := by
  have e1 : (w.alloc a).heap.size = w.heap.size + 1 := Array.size_push ..
  refine ⟨heap_old (heap_new w a) b, ?_, ?_⟩
  · rw [← e1]; exact heap_new (w.alloc a) b
  · rw [← e1]; exact Array.size_push ..

theorem three_blocks (w : World) (a b c : Obj) : (((w.alloc a).alloc b).alloc c).heap[w.heap.size]? = some a ∧ (((w.alloc a).alloc b).alloc c).heap[w.heap.size + 1]? = some b ∧ (((w.alloc a).alloc b).alloc c).heap[w.heap.size + 1 + 1]? = some c := by
  have e1 : (w.alloc a).heap.size = w.heap.size + 1 := Array.size_push ..
  have e2 : ((w.alloc a).alloc b).heap.size = w.heap.size + 1 + 1 := by rw [← e1]; exact Array.size_push ..
  refine ⟨heap_old (heap_old (heap_new w a) b) c, ?_, ?_⟩
  · rw [← e1]; exact heap_old (heap_new (w.alloc a) b) c
  · rw [← e2]; exact heap_new ((w.alloc a).alloc b) c

theorem szCentre_yes (x : Pl) (o : Ctr) (z : Int) (w : World) (hz : z ≤ 1048576) (h : (o.ol.length : Int) + (o.sl.length : Int) ≤ z) :
    Calls Try.prog 9 #[ceV x o, .int .i64 z] w fun e w' => e = .returned (.int .i64 (z - (o.ol.length : Int) - (o.sl.length : Int))) ∧ Below w.heap.size w w' := by
  have hd : decide (z - (o.ol.length : Int) < 0) = false := decide_eq_false (by omega)
  have hd2 : decide (z - (o.ol.length : Int) - (o.sl.length : Int) < 0) = false := decide_eq_false (by omega)
  have N := new_below w (ceB x o 25)
  go_enter Try.func9, Try.ntmps9
  go_wp2_with fail
  refine (szIntS_yes x.a o.ol.length x.c z _ hz (by omega)).mono ?_
  rintro e w1 ⟨rfl, rfl⟩
  go_wp2_with fail
  refine (szControlS_yes x.b o.sl.length x.d _ _ (by omega) (by omega)).mono ?_
  rintro e w1 ⟨rfl, rfl⟩
  go_wp2
  go_ret
  exact ⟨rfl, N⟩

theorem szCentre_no (x : Pl) (o : Ctr) (z : Int) (w : World) (hz : z ≤ 1048576) (h0 : 0 ≤ z) (hm : o.ol.length ≤ maxLen) (hm2 : o.sl.length ≤ maxLen) (h : ¬ (o.ol.length : Int) + (o.sl.length : Int) ≤ z) :
    Calls Try.prog 9 #[ceV x o, .int .i64 z] w fun e w' => e = .returned (.int .i64 (-1)) ∧ Below w.heap.size w w' := by
  have N := new_below w (ceB x o 25)
  have HM : Hid (o.ol.length ≤ maxLen) := hm
  have HM2 : Hid (o.sl.length ≤ maxLen) := hm2
  clear hm hm2
  by_cases h1 : (o.ol.length : Int) ≤ z
  · have hd : decide (z - (o.ol.length : Int) < 0) = false := decide_eq_false (by omega)
    go_enter Try.func9, Try.ntmps9
    go_wp2_with fail
    refine (szIntS_yes x.a o.ol.length x.c z _ hz h1).mono ?_
    rintro e w1 ⟨rfl, rfl⟩
    go_wp2_with fail
    refine (szControlS_no x.b o.sl.length x.d _ _ (by omega) (by omega) HM2.out (by omega)).mono ?_
    rintro e w1 ⟨rfl, rfl⟩
    go_wp2
    go_ret
    exact ⟨rfl, N⟩
  · go_enter Try.func9, Try.ntmps9
    go_wp2_with fail
    refine (szIntS_no x.a o.ol.length x.c z _ hz h0 HM.out (by omega)).mono ?_
    rintro e w1 ⟨rfl, rfl⟩
    go_wp2
    go_ret
    exact ⟨rfl, N⟩

set_option maxRecDepth 100000 in
set_option maxHeartbeats 4000000 in
theorem eqCentre_same (x y : Pl) (o : Ctr) (w : World) (hz : o.ol.length ≤ 1048576) (hz2 : o.sl.length ≤ 1048576) (I : In w x o) (J : In w y o) :
    Calls Try.prog 13 #[ceV x o, ceV y o] w fun e w' => e = .returned (.bool true) ∧ Below w.heap.size w w' := by
  have HZ : Hid (o.ol.length ≤ 1048576 ∧ o.sl.length ≤ 1048576) := ⟨hz, hz2⟩
  have N := join_below (new_below w (ceB x o 30)) (new_below _ (ceB y o 30))
  have m := heap_old (heap_new w (ceB x o 30)) (ceB y o 30)
  have n := heap_new (w.alloc (ceB x o 30)) (ceB y o 30)
  have e1 : (w.alloc (ceB x o 30)).heap.size = w.heap.size + 1 := Array.size_push ..
  rw [e1] at n
  clear hz hz2 e1
  go_enter Try.func13, Try.ntmps13
  go_wp2_with fail
  refine named fun W hW => ?_
  rw [← hW] at N m n
  clear hW
  refine (eqIntS_same x.a y.a o.ol x.c y.c _ HZ.out.1 (I.off.on N) (J.off.on N)).mono ?_
  rintro e v1 ⟨rfl, D1⟩
  have L1 := D1.below W.heap.size
  have m1 := kept L1 (lt_of m) m
  have n1 := kept L1 (lt_of n) n
  have N1 := join_below N L1
  clear m n N L1 D1
  have c8 : v1.cell? ⟨w.heap.size, 2, none⟩ = some (.slice x.b o.sl.length x.d) := cell_at m1 2
  have d8 : v1.cell? ⟨w.heap.size + 1, 2, none⟩ = some (.slice y.b o.sl.length y.d) := cell_at n1 2
  go_wp2_with fail
  refine (eqControlS_same x.b y.b o.sl x.d y.d _ HZ.out.2 (I.seen.on N1) (J.seen.on N1)).mono ?_
  rintro e v2 ⟨rfl, L2⟩
  have N2 := join_below N1 L2
  go_wp2
  go_ret
  exact ⟨rfl, N2⟩

/-- Its lists lie in the blocks g1 and g2, from lo on, which are its own. -/
structure Mine (lo : Nat) (w : World) (x : Pl) (o : Ctr) (g1 g2 : Nat) : Prop where
  ne : g1 ≠ g2
  lo1 : lo ≤ g1
  lo2 : lo ≤ g2
  off : o.ol.length = 0 ∨ (x.a = some ⟨g1, 0, none⟩ ∧ g1 < w.heap.size ∧ Room w g1 o.ol.length)
  seen : o.sl.length = 0 ∨ (x.b = some ⟨g2, 0, none⟩ ∧ g2 < w.heap.size ∧ Room w g2 (o.sl.length * 6))

theorem Mine.on {lo : Nat} {w w1 : World} {x : Pl} {o : Ctr} {g1 g2 : Nat} (h : Mine lo w x o g1 g2) (L : Below w.heap.size w w1) : Mine lo w1 x o g1 g2 :=
  ⟨h.ne, h.lo1, h.lo2, h.off.imp_right fun ⟨h1, h2, h3⟩ => ⟨h1, Nat.lt_of_lt_of_le h2 L.size, h3.on L h2⟩, h.seen.imp_right fun ⟨h1, h2, h3⟩ => ⟨h1, Nat.lt_of_lt_of_le h2 L.size, h3.on L h2⟩⟩

/-- Of the blocks that there were all are kept but some from lo up to hi. -/
structure Brd (lo hi : Nat) (w w' : World) : Prop where
  os : w'.os = w.os
  tape : w'.tape = w.tape
  output : w'.output = w.output
  size : w.heap.size ≤ w'.heap.size
  block : ∀ b, b < w.heap.size → b < lo ∨ hi ≤ b → w'.heap[b]? = w.heap[b]?

theorem Brd.of {lo hi : Nat} {w w' : World} (h : Below w.heap.size w w') : Brd lo hi w w' := ⟨h.os, h.tape, h.output, h.size, fun b hb _ => h.block b hb⟩

theorem Brd.band {lo hi lo' hi' : Nat} {w w' : World} (h : Band lo' hi' w w') (h1 : lo ≤ lo') (h2 : hi' ≤ hi) : Brd lo hi w w' := ⟨h.os, h.tape, h.output, Nat.le_of_eq h.size.symm, fun b _ hb => h.block b (by omega)⟩

theorem Brd.trans {lo hi : Nat} {a b c : World} (h : Brd lo hi a b) (k : Brd lo hi b c) : Brd lo hi a c :=
  ⟨k.os.trans h.os, k.tape.trans h.tape, k.output.trans h.output, Nat.le_trans h.size k.size, fun i hi h' => (k.block i (Nat.lt_of_lt_of_le hi h.size) h').trans (h.block i hi h')⟩

theorem Brd.below {lo hi B : Nat} {a w w' : World} (h : Brd lo hi w w') (L : Below B a w) (hB : B ≤ lo) (hs : B ≤ a.heap.size) : Below B a w' :=
  ⟨h.os.trans L.os, h.tape.trans L.tape, h.output.trans L.output, Nat.le_trans L.size h.size, fun k hk => (h.block k (Nat.lt_of_lt_of_le (Nat.lt_of_lt_of_le hk hs) L.size) (Or.inl (by omega))).trans (L.block k hk)⟩

/-- Its lists lie below lo or from hi on. -/
def Far (lo hi : Nat) (x : Pl) (o : Ctr) : Prop := (∀ b u, x.a = some ⟨b, u, none⟩ → o.ol ≠ [] → b < lo ∨ hi ≤ b) ∧ ∀ b u, x.b = some ⟨b, u, none⟩ → o.sl ≠ [] → b < lo ∨ hi ≤ b

theorem Far.of {lo hi : Nat} {w : World} {x : Pl} {o : Ctr} (h : In w x o) (hl : w.heap.size ≤ lo) : Far lo hi x o := by
  refine ⟨fun b u e hne => ?_, fun b u e hne => ?_⟩
  · rcases h.off with h0 | ⟨b', o', e', hb, -⟩
    · exact absurd h0 hne
    · rw [e] at e'
      simp only [Option.some.injEq, Addr.mk.injEq] at e'
      omega
  · rcases h.seen with h0 | ⟨b', o', e', hb, -⟩
    · exact absurd h0 hne
    · rw [e] at e'
      simp only [Option.some.injEq, Addr.mk.injEq] at e'
      omega

theorem Far.mine {lo hi : Nat} {w : World} {x : Pl} {o : Ctr} {g1 g2 : Nat} (h : Mine hi w x o g1 g2) : Far lo hi x o := by
  refine ⟨fun b u e hne => ?_, fun b u e hne => ?_⟩
  · rcases h.off with h0 | ⟨h1, -, -⟩
    · exact absurd (List.eq_nil_of_length_eq_zero h0) hne
    · rw [e] at h1
      simp only [Option.some.injEq, Addr.mk.injEq] at h1
      have := h.lo1
      omega
  · rcases h.seen with h0 | ⟨h1, -, -⟩
    · exact absurd (List.eq_nil_of_length_eq_zero h0) hne
    · rw [e] at h1
      simp only [Option.some.injEq, Addr.mk.injEq] at h1
      have := h.lo2
      omega

theorem Ints.brd {lo hi : Nat} {w w1 : World} {a : Option Addr} {zs : List Int} (h : Ints w a zs) (L : Brd lo hi w w1) (ha : ∀ b o, a = some ⟨b, o, none⟩ → zs ≠ [] → b < lo ∨ hi ≤ b) : Ints w1 a zs := by
  rcases h with h | ⟨b, o, rfl, hlt, hc⟩
  · exact Or.inl h
  · by_cases hz : zs = []
    · exact Or.inl hz
    · exact Or.inr ⟨b, o, rfl, Nat.lt_of_lt_of_le hlt L.size, fun i hi => by rw [World.cell?_of_block (a := ⟨b, o + i, none⟩) (L.block b hlt (ha b o rfl hz))]; exact hc i hi⟩

theorem Controls.brd {lo hi : Nat} {w w1 : World} {a : Option Addr} {ps : List Ct} (h : Controls w a ps) (L : Brd lo hi w w1) (ha : ∀ b o, a = some ⟨b, o, none⟩ → ps ≠ [] → b < lo ∨ hi ≤ b) : Controls w1 a ps := by
  rcases h with h | ⟨b, o, rfl, hlt, hc⟩
  · exact Or.inl h
  · by_cases hz : ps = []
    · exact Or.inl hz
    · have hb := L.block b hlt (ha b o rfl hz)
      exact Or.inr ⟨b, o, rfl, Nat.lt_of_lt_of_le hlt L.size, fun i hi => by rw [World.cell?_of_block (a := ⟨b, o + i * 6, none⟩) hb, World.cell?_of_block (a := ⟨b, o + i * 6 + 1, none⟩) hb, World.cell?_of_block (a := ⟨b, o + i * 6 + 2, none⟩) hb, World.cell?_of_block (a := ⟨b, o + i * 6 + 3, none⟩) hb, World.cell?_of_block (a := ⟨b, o + i * 6 + 4, none⟩) hb, World.cell?_of_block (a := ⟨b, o + i * 6 + 5, none⟩) hb]; exact hc i hi⟩

theorem In.brd {lo hi : Nat} {w w1 : World} {x : Pl} {o : Ctr} (h : In w x o) (L : Brd lo hi w w1) (F : Far lo hi x o) : In w1 x o := ⟨h.off.brd L F.1, h.seen.brd L F.2⟩

theorem Room.brd {lo hi : Nat} {w w1 : World} {g m : Nat} (h : Room w g m) (L : Brd lo hi w w1) (h0 : g < w.heap.size) (hg : g < lo ∨ hi ≤ g) : Room w1 g m := by
  intro j hj
  rw [World.cell?_of_block (a := ⟨g, j, none⟩) (L.block g h0 hg), World.frozen?_of_block (a := ⟨g, j, none⟩) (L.block g h0 hg)]
  exact h j hj

theorem Mine.brd {lo hi lo' : Nat} {w w1 : World} {x : Pl} {o : Ctr} {g1 g2 : Nat} (h : Mine lo' w x o g1 g2) (L : Brd lo hi w w1) (hh : hi ≤ lo') : Mine lo' w1 x o g1 g2 :=
  ⟨h.ne, h.lo1, h.lo2, h.off.imp_right fun ⟨h1, h2, h3⟩ => ⟨h1, Nat.lt_of_lt_of_le h2 L.size, Room.brd h3 L h2 (Or.inr (Nat.le_trans hh h.lo1))⟩, h.seen.imp_right fun ⟨h1, h2, h3⟩ => ⟨h1, Nat.lt_of_lt_of_le h2 L.size, Room.brd h3 L h2 (Or.inr (Nat.le_trans hh h.lo2))⟩⟩

/-- The marks of a centre. -/
structure Mks (w : World) (o : Ctr) (g1 g2 : Nat) : Prop where
  off : Mkd 1 w g1 o.ol.length
  seen : Marked (1 + (o.ol.length : Int)) w g2 o.sl.length
  lt1 : o.ol.length = 0 ∨ g1 < w.heap.size
  lt2 : o.sl.length = 0 ∨ g2 < w.heap.size

theorem Mks.on {w w1 : World} {o : Ctr} {g1 g2 : Nat} (h : Mks w o g1 g2) (L : Below w.heap.size w w1) : Mks w1 o g1 g2 := by
  refine ⟨?_, ?_, h.lt1.imp_right fun k => Nat.lt_of_lt_of_le k L.size, h.lt2.imp_right fun k => Nat.lt_of_lt_of_le k L.size⟩
  · rcases h.lt1 with h0 | h0
    · intro i hi; omega
    · exact h.off.on L h0
  · rcases h.lt2 with h0 | h0
    · intro i hi; omega
    · exact h.seen.on L h0

theorem Brd.one {lo hi g : Nat} {w w' : World} (h : Band g (g + 1) w w') (hc : w.heap.size ≤ g ∨ (lo ≤ g ∧ g < hi)) : Brd lo hi w w' := ⟨h.os, h.tape, h.output, Nat.le_of_eq h.size.symm, fun b h0 hb => h.block b (by omega)⟩

theorem Mkd.band {w w1 : World} {g n lo hi : Nat} {z : Int} (h : Mkd z w g n) (L : Band lo hi w w1) (hg : g < lo ∨ hi ≤ g) : Mkd z w1 g n := by
  intro i hi'
  rw [World.cell?_of_block (a := ⟨g, i, none⟩) (L.block g hg)]
  exact h i hi'

set_option maxHeartbeats 2000000 in
theorem markCentre_val (x : Pl) (o : Ctr) (g1 g2 lo hi : Nat) (w : World) (hz : o.ol.length ≤ 1048576) (hz2 : o.sl.length ≤ 1048577) (M : Mine lo w x o g1 g2) (h1 : o.ol.length = 0 ∨ g1 < hi) (h2 : o.sl.length = 0 ∨ g2 < hi) :
    Calls Try.prog 16 #[ceV x o, .int .i64 1] w fun e w' => e = .returned (.int .i64 (1 + (o.ol.length : Int) + 6 * (o.sl.length : Int))) ∧ Brd lo hi w w' ∧ Mks w' o g1 g2 := by
  have N := new_below w (ceB x o 30)
  have m := heap_new w (ceB x o 30)
  have MN := M.on N
  have hNs := N.size
  obtain ⟨k1, hk1, hk1b⟩ : ∃ k1, (o.ol.length = 0 ∨ (x.a = some ⟨k1, 0, none⟩ ∧ Room (w.alloc (ceB x o 30)) k1 o.ol.length)) ∧ ((o.ol.length = 0 ∧ k1 = (w.alloc (ceB x o 30)).heap.size + 1) ∨ (k1 = g1 ∧ lo ≤ k1 ∧ k1 < hi ∧ k1 < w.heap.size)) := by
    rcases Nat.eq_zero_or_pos o.ol.length with h0 | h0
    · exact ⟨_, Or.inl h0, Or.inl ⟨h0, rfl⟩⟩
    · obtain ⟨h3, h4, h5⟩ := MN.off.resolve_left (by omega)
      exact ⟨g1, Or.inr ⟨h3, h5⟩, Or.inr ⟨rfl, M.lo1, h1.resolve_left (by omega), (M.off.resolve_left (by omega)).2.1⟩⟩
  obtain ⟨k2, hk2, hk2b⟩ : ∃ k2, (o.sl.length = 0 ∨ (x.b = some ⟨k2, 0, none⟩ ∧ Room (w.alloc (ceB x o 30)) k2 (o.sl.length * 6))) ∧ ((o.sl.length = 0 ∧ k2 = (w.alloc (ceB x o 30)).heap.size + 2) ∨ (k2 = g2 ∧ lo ≤ k2 ∧ k2 < hi ∧ k2 < w.heap.size)) := by
    rcases Nat.eq_zero_or_pos o.sl.length with h0 | h0
    · exact ⟨_, Or.inl h0, Or.inl ⟨h0, rfl⟩⟩
    · obtain ⟨h3, h4, h5⟩ := MN.seen.resolve_left (by omega)
      exact ⟨g2, Or.inr ⟨h3, h5⟩, Or.inr ⟨rfl, M.lo2, h2.resolve_left (by omega), (M.seen.resolve_left (by omega)).2.1⟩⟩
  have hne : k1 ≠ k2 := by
    have := M.ne
    omega
  have HK1 : Hid ((o.ol.length = 0 ∧ k1 = (w.alloc (ceB x o 30)).heap.size + 1) ∨ (k1 = g1 ∧ lo ≤ k1 ∧ k1 < hi ∧ k1 < w.heap.size)) := hk1b
  have HK2 : Hid ((o.sl.length = 0 ∧ k2 = (w.alloc (ceB x o 30)).heap.size + 2) ∨ (k2 = g2 ∧ lo ≤ k2 ∧ k2 < hi ∧ k2 < w.heap.size)) := hk2b
  have HK : Hid (k1 ≠ k2 ∧ (w.alloc (ceB x o 30)).heap.size = w.heap.size + 1) := ⟨hne, Array.size_push ..⟩
  have HR2 : Hid (o.sl.length = 0 ∨ (x.b = some ⟨k2, 0, none⟩ ∧ Room (w.alloc (ceB x o 30)) k2 (o.sl.length * 6))) := hk2
  clear h1 h2 M MN hNs hk1b hk2b hne hk2
  go_enter Try.func16, Try.ntmps16
  go_wp2_with fail
  refine named fun W hW => ?_
  rw [← hW] at N m hk1 HK1 HK2 HK HR2
  clear hW
  refine (markIntS_val x.a k1 o.ol.length x.c 1 _ hz (by omega) (by omega) hk1).mono ?_
  rintro e w1 ⟨rfl, B1, K1, -⟩
  have m1 : w1.cell? ⟨w.heap.size, 2, none⟩ = some (.slice x.b o.sl.length x.d) := by
    rw [World.cell?_of_block (a := ⟨w.heap.size, 2, none⟩) (B1.block w.heap.size (by have := HK1.out; have := HK.out; omega))]
    exact cell_at m 2
  have R2 : o.sl.length = 0 ∨ (x.b = some ⟨k2, 0, none⟩ ∧ Room w1 k2 (o.sl.length * 6)) := HR2.out.imp_right fun h => ⟨h.1, Room.band h.2 B1 (by have := HK.out.1; omega)⟩
  have KM : Hid (Mkd 1 w1 k1 o.ol.length) := K1
  clear HR2 hk1 m K1
  go_wp2_with fail
  refine (markControlS_val x.b k2 o.sl.length x.d _ _ hz2 (by omega) (by omega) R2).mono ?_
  rintro e w2 ⟨rfl, B2, K2, -⟩
  have D : Brd lo hi w w2 := ((Brd.of N).trans (Brd.one B1 (by have := HK1.out; omega))).trans (Brd.one B2 (by have := HK2.out; have := B1.size; omega))
  have KA : Mks w2 o g1 g2 := by
    have hs : w2.heap.size = W.heap.size := B2.size.trans B1.size
    refine ⟨?_, ?_, ?_, ?_⟩
    · rcases HK1.out with ⟨h, -⟩ | ⟨h, -⟩
      · intro i hi; omega
      · rw [← h]
        exact KM.out.band B2 (by have := HK.out.1; omega)
    · rcases HK2.out with ⟨h, -⟩ | ⟨h, -⟩
      · intro i hi; omega
      · rw [← h]
        exact K2
    · rcases HK1.out with ⟨h, -⟩ | ⟨h, -, -, h2⟩
      · exact Or.inl h
      · exact Or.inr (by have := HK.out.2; omega)
    · rcases HK2.out with ⟨h, -⟩ | ⟨h, -, -, h2⟩
      · exact Or.inl h
      · exact Or.inr (by have := HK.out.2; omega)
  clear KM B1 B2 K2 R2
  go_wp2
  go_ret
  exact ⟨rfl, D, KA⟩

set_option maxHeartbeats 2000000 in
theorem heldCentre_val (x : Pl) (o : Ctr) (g1 g2 : Nat) (w : World) (hz : o.ol.length ≤ 1048576) (hz2 : o.sl.length ≤ 1048577) (h1 : o.ol.length = 0 ∨ x.a = some ⟨g1, 0, none⟩) (h2 : o.sl.length = 0 ∨ x.b = some ⟨g2, 0, none⟩) (K : Mks w o g1 g2) :
    Calls Try.prog 17 #[ceV x o, .int .i64 1] w fun e w' => e = .returned (.int .i64 (1 + (o.ol.length : Int) + 6 * (o.sl.length : Int))) ∧ Below w.heap.size w w' := by
  have N := new_below w (ceB x o 30)
  have KN := K.on N
  have HH : Hid (o.sl.length = 0 ∨ x.b = some ⟨g2, 0, none⟩) := h2
  have hd : decide (1 + (o.ol.length : Int) < 0) = false := decide_eq_false (by omega)
  have hd2 : decide (1 + (o.ol.length : Int) + 6 * (o.sl.length : Int) < 0) = false := decide_eq_false (by omega)
  clear h2 K
  go_enter Try.func17, Try.ntmps17
  go_wp2_with fail
  refine (heldIntS_val x.a g1 o.ol.length x.c 1 _ hz (by omega) (by omega) h1 KN.off).mono ?_
  rintro e w1 ⟨rfl, rfl⟩
  go_wp2_with fail
  refine (heldControlS_val x.b g2 o.sl.length x.d _ _ hz2 (by omega) (by omega) HH.out KN.seen).mono ?_
  rintro e w1 ⟨rfl, rfl⟩
  go_wp2
  go_ret
  exact ⟨rfl, N⟩

end Hn
end Go.Proofs.Ytjjfleepnjhamaa
